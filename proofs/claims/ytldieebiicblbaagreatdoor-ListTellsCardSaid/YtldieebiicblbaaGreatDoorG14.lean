/-
  A map of rows of bytes that a call makes: what stands at each kind, and what storing at one of them does. Conditions: as said.
-/
import Derived.Test.YtldieebiicblbaaGreatDoorG13
import Derived.Test.YtldieebiicblbaaGreatDoorG10
import Derived.Test.YtldieebiicblbaaGreatDoorG12
import Derived.Maps.GroupsBeside
import Derived.Maps.Views
import Derived.WalkSpells
namespace Go.Proofs.YtldieebiicblbaaGreatDoor.list
open Go.ChangeShapes Go.WideShapes Go.ChangeAt Go.RowKit
open lx ls mem
open Go.Maps (Keyed string_keyed)
open Go.ChangeMaps Go.MapKept Go.WideElems
open sha (nats)
set_option linter.unusedVariables false
set_option maxRecDepth 100000

def kl (k : Nat) : Lit := .string (L (kS k))
theorem lawS : Keyed Tryz.prog 9 := string_keyed Tryz.underlying9
theorem kS_size (k : Nat) : (kS k).size ≤ 5 := by
  unfold kS
  split <;> decide
theorem key_is (k : Nat) : keyOf Tryz.prog 9 (.string (kS k)) = some (kl k) := Go.WideMaps.keyOf_string_mk Tryz.underlying9 (by have := kS_size k; unfold maxLen; omega)
theorem kl_ne {j k : Nat} (hj : j ≤ 5) (hk : k ≤ 5) (h : j ≠ k) : kl j ≠ kl k := by
  intro e
  have e : L (kS j) = L (kS k) := by
    unfold kl at e
    injection e
  have : ∀ j, j ≤ 5 → ∀ k, k ≤ 5 → j ≠ k → L (kS j) ≠ L (kS k) := by decide
  exact this j hj k hk h e
theorem zeroB (w : World) : (zeroValue 62).run Tryz.prog w = .ok (.slice none 0 0) w := by kernel_rfl

/-- what stands at a kind. -/
def ints (l : List Nat) : List Int := l.map Int.ofNat
def At (D : DataW Unit) (k : Nat) (l : List Nat) : Prop := (D.atKey (kl k) .nil = .nil ∧ l = []) ∨ D.atKey (kl k) .nil = .slice (lits .u8 (ints l)) []
theorem lits_inj : ∀ {a b : List Int}, (lits (H := Unit) .u8 a) = lits .u8 b → a = b
  | [], [], _ => rfl
  | [], y :: b, h => by simp [lits] at h
  | x :: a, [], h => by simp [lits] at h
  | x :: a, y :: b, h => by
    unfold lits at h
    rw [List.map_cons, List.map_cons] at h
    injection h with h1 h2
    injection h1 with h1
    injection h1 with _ h1
    rw [h1, lits_inj h2]
theorem At.get {D : DataW Unit} {k : Nat} {l : List Nat} {W : World} {base : Nat} {v : Value} {zs : List Int} (h : At D k l) (hat : D.atKey (kl k) .nil = rowDatum .u8 v zs) (hoi : W.ownsInts base 5 .u8 v zs) : zs = ints l := by
  rcases hoi.datum (H := Unit) with ⟨e, rfl⟩ | e
  · rcases h with ⟨_, rfl⟩ | h
    · rfl
    · rw [hat, e] at h
      cases h
  · rcases h with ⟨h, _⟩ | h
    · rw [hat, e] at h
      cases h
    · rw [hat, e] at h
      injection h with h
      exact lits_inj h
theorem At.same {D : DataW Unit} (hD : Maps.IsMap D) {k : Nat} {l : List Nat} {W : World} {base : Nat} {v : Value} {zs : List Int} (hoi : W.ownsInts base 5 .u8 v zs) (hz : zs = ints l) : At (D.put (kl k) (rowDatum .u8 v zs)) k l := by
  unfold At
  rw [Maps.atKey_put_same hD (show WideAt.IsKeyLit (kl k) from trivial)]
  rcases hoi.datum (H := Unit) with ⟨e, rfl⟩ | e
  · left
    refine ⟨e, ?_⟩
    cases l with
    | nil => rfl
    | cons a b => cases hz
  · right
    rw [e, hz]
theorem At.other {D : DataW Unit} {j k : Nat} {l : List Nat} (hj : j ≤ 5) (hk : k ≤ 5) (hne : j ≠ k) (h : At D j l) (d : DataW Unit) : At (D.put (kl k) d) j l := by
  unfold At
  rw [Maps.atKey_put_other (kl_ne hj hk hne)]
  exact h
/-- what stands at the kinds that are hashed. -/
def GR (f : Nat → List Nat) (D : DataW Unit) : Prop := ∀ i, Kind i → At D i (f i)
theorem Kind.le {i : Nat} (h : Kind i) : i ≤ 5 := by unfold Kind at h; omega
theorem GR.put {f g : Nat → List Nat} {D : DataW Unit} (h : GR f D) (hD : Maps.IsMap D) {k : Nat} (hk : k ≤ 5) {W : World} {base : Nat} {v : Value} {zs : List Int} (hoi : W.ownsInts base 5 .u8 v zs)
    (h1 : zs = ints (g k)) (h2 : ∀ i, i ≠ k → g i = f i) : GR g (D.put (kl k) (rowDatum .u8 v zs)) := by
  intro i hi
  by_cases e : i = k
  · subst e
    exact At.same hD hoi h1
  · rw [h2 i e]
    exact At.other hi.le hk e (h i hi) _

/-! the groups in the world's words -/
abbrev Grp (m n : Nat) (D : DataW Unit) (W : World) : Prop := W.ownsGroups Tryz.prog 9 (m + 1) 5 .u8 m n D
theorem grp_mono {m n n' : Nat} {D : DataW Unit} {W : World} (h : Grp m n D W) (hn : n ≤ n') : Grp m n' D W := by
  obtain ⟨es, clock, h1, h2, h3, h4, h5, h6, h7⟩ := h
  exact ⟨es, clock, h1, h2, Nat.le_trans h3 hn, h4, h5, fun x hx zs hz => Nat.le_trans (h6 x hx zs hz) hn, h7⟩
theorem grp_map {m n : Nat} {D : DataW Unit} {W : World} (h : Grp m n D W) : Maps.IsMap D := by
  obtain ⟨es, clock, h1, h2, h3, h4, _⟩ := h
  exact ⟨_, h4⟩
theorem grown_of {W W' : World} (h : Below W.heap.size W W') : W.grownBy W' none := ⟨h.os, h.tape, h.output, h.size, fun k hk _ => h.block k hk⟩
theorem grp_below {m n : Nat} {D : DataW Unit} {W W' : World} (h : Grp m n D W) (hb : Below W.heap.size W W') : Grp m n D W' :=
  World.ownsGroups.kept h (grown_of hb) (by simp) (fun es clock hm x hx => by cases x.val.ownBlock <;> simp)
theorem shuns_below {m : Nat} {No : Nat → Prop} {W W' : World} (h : W.Shuns m No) (hlt : m < W.heap.size) (hb : Below W.heap.size W W') : W'.Shuns m No := h.kept (grown_of hb) hlt (by simp)
theorem strs_grown {W W' : World} {row : Option Nat} {A : Option Addr} {l : List ByteArray} (h : lines.Strs W A l) (hg : W.grownBy W' row) (hne : ∀ b o, A = some ⟨b, o, none⟩ → row ≠ some b) : lines.Strs W' A l := by
  intro hl
  obtain ⟨b, o, e, hlt, hc⟩ := h hl
  refine ⟨b, o, e, Nat.lt_of_lt_of_le hlt hg.size, fun k hk => ?_⟩
  rw [World.cell?_of_block (a := ⟨b, o + k, none⟩) (hg.block b hlt (fun k => hne b o e k.symm))]
  exact hc k hk
/-- a slice's block. -/
def Blk (A : Option Addr) (g : Nat) : Prop := ∃ o, A = some ⟨g, o, none⟩

/-- 'append(row, s...)', s a text with a byte at least: where the new slice lies. -/
theorem app_loc (W : World) (base : Nat) (ty : TypeId) (v : Value) (zs : List Int) (s : ByteArray) (h : W.ownsInts base 5 .u8 v zs) (hs : 0 < s.size) (hn : zs.length + s.size ≤ 8000000000000) (hb : base ≤ W.heap.size) :
    ∃ v' w', (Builtin.append_ #[62, 9] ty #[v, .string s]).run Tryz.prog W = .ok v' w' ∧ w'.ownsInts base 5 .u8 v' (zs ++ ints (nats (L s))) ∧ W.grownBy w' v.ownBlock ∧
      (v'.ownBlock = v.ownBlock ∨ ∃ g, v'.ownBlock = some g ∧ W.heap.size ≤ g) := by
  obtain ⟨i0, hi, hz0, hz1, hz2⟩ := info_parts lines.infoB
  obtain ⟨v', w', hr, ho, hg, _⟩ := Lib.run_append_own_string (P := Tryz.prog) W base 62 9 ty 5 i0 Tryz.underlying62 Tryz.underlying9 hi hz0 hz1 hz2 v zs.length (zs.map (Value.int .u8)) h.1 s (by unfold maxLen; omega) (by omega) hb
  refine ⟨v', w', hr, ⟨?_, ?_⟩, hg, ?_⟩
  · have e : (zs ++ ints (nats (L s))).length = zs.length + s.size := by
      rw [List.length_append]
      unfold ints
      rw [List.length_map, sha.nats_len, L_len]
    rw [e, List.map_append]
    have e2 : (ints (nats (L s))).map (Value.int .u8) = Lib.strCells s := by
      rw [ntp.str_bc]
      unfold ints sha.bc
      rw [List.map_map]
      rfl
    rw [e2]
    exact ho
  · intro z hz
    rw [List.mem_append] at hz
    rcases hz with hz | hz
    · exact h.2 z hz
    · unfold ints nats at hz
      rw [List.map_map] at hz
      obtain ⟨c, _, rfl⟩ := List.mem_map.1 hz
      have := c.toNat_lt
      show (Lit.int .u8 ((c.toNat : Nat) : Int)).wf = true
      show (decide ((0 : Int) ≤ ((c.toNat : Nat) : Int)) && decide (((c.toNat : Nat) : Int) ≤ 255)) = true
      simp
      omega
  · rcases h.1.2 with ⟨rfl, hn0⟩ | ⟨g, cap, cur, rfl, hbg, hh, hnc, hcm, hcs, htake⟩
    · right
      have := run_append_nil_string (P := Tryz.prog) W 62 9 ty 5 i0 (.int .u8 0) Tryz.underlying62 Tryz.underlying9 hi hz0 s (by omega) (by omega) (by rw [hz2]; omega)
      rw [this] at hr
      injection hr with h1 h2
      subst h1
      exact ⟨_, rfl, Nat.le_refl _⟩
    · by_cases hroom : zs.length + s.size ≤ cap
      · left
        have := Lib.run_append_room_string (P := Tryz.prog) W 62 9 ty 5 i0 Tryz.underlying62 Tryz.underlying9 hi hz1 g zs.length cap cur hh s hroom (by rw [hcs]; omega)
        rw [this] at hr
        injection hr with h1 h2
        subst h1
        rfl
      · right
        have := Lib.run_append_grow_string (P := Tryz.prog) W 62 9 ty 5 i0 (.int .u8 0) Tryz.underlying62 Tryz.underlying9 hi hz0 ⟨g, 0, none⟩ zs.length cap (zs.map (Value.int .u8)) (by simp [hz1]) (fun j u hu => h.1.cells (g := g) rfl j u hu) s (by omega) (by omega) (by rw [hz2]; exact growslice_fits (by omega) (by omega))
        rw [this] at hr
        injection hr with h1 h2
        subst h1
        exact ⟨_, rfl, Nat.le_refl _⟩
theorem list_app {P : Program} {ops : Array Oper} {o : Oper} {rest : List Oper} {a : Act} {W : World} {Q : Exit → Act → World → Prop} (hgd : o.guard = none) (s x : Operand) (t u : TypeId)
    (ho : o.op = .call { callee := .builtin .append, args := #[s, x], argTypes := #[t, u] }) (va vx v : Value) (W' : World) (hs : a.eval s = va) (hx : a.eval x = vx)
    (run : (Builtin.append_ #[t, u] o.type #[va, vx]).run P W = .ok v W') (h : wpList P ops Q rest (a.put o.dst v) W') : wpList P ops Q (o :: rest) a W := by
  refine wpList_plain hgd fun K hK => ?_
  unfold Oper.wp execOp
  simp only [ho, resolve, invoke, builtin, Sem.run_bind, Sem.run_pure, Result.andThen_ok, List.map_toArray, List.map_cons, List.map_nil, hs, hx, run]
  exact hK _ _ h
end Go.Proofs.YtldieebiicblbaaGreatDoor.list
