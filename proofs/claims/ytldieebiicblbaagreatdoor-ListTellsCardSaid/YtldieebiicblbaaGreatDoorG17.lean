/-
  What leap's Add answers. Conditions: the tables of package day hold what their initialisers lay; the slice reads as the row.
-/
import Derived.Test.YtldieebiicblbaaGreatDoorG16
import Derived.Deep.RegionLaw
import Derived.BigRegion
import Derived.Test.YtldieebiicblbaaGreatDoorRows
import Derived.WalkKit
import Derived.ProofKit
import Derived.OpenShut
import Derived.IntWalk
import Derived.Deep.QuietTactic
import Derived.BigQuiet
import Derived.Test.YtldieebiicblbaaGreatDoorG15
import Derived.Test.YtldieebiicblbaaGreatDoorG09
import Derived.Maps.OwnOps
namespace Go.Proofs.YtldieebiicblbaaGreatDoor.leap
open Go.ChangeShapes Go.WideShapes Go.ChangeAt Go.RowKit
open lm mem
set_option linter.unusedVariables false
set_option maxRecDepth 100000

/-- a region that draws its order, all of whose operations but the last ones only read: in the text's order. -/
theorem tail_region {P : Program} {id : Nat} {Q : Exit → Act → World → Prop} {a : Act} {w : World} {l : List Oper} (n : Nat) (hm : P.follows .mixedOrders = true) (hB : Region.lexTailB .any l.toArray n = true)
    (h : wpStill P l.toArray w.drew (fun a' => wpList P l.toArray Q (l.drop n) a' w.drew) (l.take n) a) : (Code.region id l.toArray true).wp P Q a w := wp_region_still_tail n hm hB h
set_option maxRecDepth 100000 in
theorem cutM (A : Option Addr) (n c f : Nat) (h : f ≤ c) (W : World) : (Instr.slice 22 (.slice A n c) none (some (.int .i64 (f : Nat))) (some (.int .i64 (f : Nat)))).run Tryz.prog W = .ok (.slice A f f) W := by
  rw [run_slice_hm (P := Tryz.prog) W 22 A n c Tryz.underlying22 .i64 .i64 f f (by omega) (by omega) (by omega)]
  rw [show (Go.sizeOf (Tryz.prog.elem 22)).run Tryz.prog W = .ok 3 W by kernel_rfl]
  simp only [Result.andThen, sliced, Int.toNat_natCast, Nat.sub_zero, Nat.zero_mul]
  cases A with
  | none => simp
  | some a => simp [Addr.add]
/-- an 'append' at a step of a region that draws its order. -/
theorem step_app {P : Program} {ops : Array Oper} {o : Oper} {a : Act} {W : World} {K : Act → World → Prop} {Q : Exit → Act → World → Prop} {E : Prop} (hgd : o.guard = none) (s x : Operand) (t : TypeId)
    (ho : o.op = .call { callee := .builtin .append, args := #[s, x], argTypes := #[t, t] }) (va vx v : Value) (W' : World) (hs : a.eval s = va) (hx : a.eval x = vx)
    (run : (Builtin.append_ #[t, t] o.type #[va, vx]).run P W = .ok v W') (h : K (a.put o.dst v) W') :
    if Region.wanted o (yielded ops a.tmps) = true then Oper.wp P o a W K Q else E := by
  have hw : Region.wanted o (yielded ops a.tmps) = true := by simp [Region.wanted, hgd]
  rw [if_pos hw]
  unfold Oper.wp execOp
  simp only [ho, resolve, invoke, builtin, Sem.run_bind, Sem.run_pure, Result.andThen_ok, List.map_toArray, List.map_cons, List.map_nil, hs, hx, run]
  exact h
/-- 'return t, e', t a struct in the result's row. -/
theorem end_pair {fn : Func} {R : Ending → World → Prop} {p q : Tmp} {ty : TypeId} (hr : fn.results = #[.cell p ty, .tmp q]) (a : Act) (w : World) (g : Nat) (t : TypeId) (c : Array Value) (fs : Array Field) (v : Value)
    (hp : a.tmps.getD p undef = .pointer (some ⟨g, 0, none⟩)) (hq : a.tmps.getD q undef = v) (hg : w.heap[g]? = some (.cells c t (0, 0))) (hu : Tryz.prog.underlying ty = some (.struct fs))
    (hi : (Tryz.prog.info? ty).map (·.size) = some c.size) (hdf : a.defers = []) (h : R (.returned (.tuple #[.agg c, v])) w) : bodyPost Tryz.prog fn R .ret a w := by
  refine bodyPost_ret (v := .tuple #[.agg c, v]) ?_ hdf h
  have hp' : a.tmps[p]?.getD undef = .pointer (some ⟨g, 0, none⟩) := by simpa using hp
  have hq' : a.tmps[q]?.getD undef = v := by simpa using hq
  simp [results, hr, hp', hq', asAddr, run_loadVar_row w g t ty c (0, 0) _ hg hu rfl hi]
theorem szT : (Tryz.prog.info? 24).map (·.size) = some 3 := by kernel_rfl
theorem tcs_one (A : Option Addr) (n c : Nat) (has : Bool) (x : Int) : (tcs A n c has x).all (·.oneCell') = true := by simp [tcs, Value.oneCell']
/-- the memory behind 'longer.Leaps = append(..)'. -/
def addW (w : World) (A : Option Addr) (n c : Nat) (has : Bool) (x z0 z1 : Int) (z2 : Bool) (cap : Nat) (cs : Array Value) : World :=
  ((((((w.alloc (.cells #[.slice A n c, .bool has, .int .i64 x] 24)).alloc (.cells #[.int .i64 z0, .int .i64 z1, .bool z2] 40)).alloc (.cells #[.slice none 0 0, .bool false, .int .i64 0] 24)).alloc
    (.cells #[.slice (some ⟨w.heap.size + 1 + 1 + 1 + 1 + 1, 0, none⟩) (n + 1) cap, .bool has, .int .i64 x] 24)).alloc (.cells #[.int .i64 z0, .int .i64 z1, .bool z2] 40)).alloc (.cells cs 40)).drew.drew
theorem addW_is (w : World) (A : Option Addr) (n c : Nat) (has : Bool) (x z0 z1 : Int) (z2 : Bool) (cap : Nat) (cs : Array Value) :
    Below w.heap.size w (addW w A n c has x z0 z1 z2 cap cs) ∧
    (addW w A n c has x z0 z1 z2 cap cs).heap[w.heap.size + 1 + 1]? = some (.cells (tcs none 0 0 false 0) 24) ∧
    (addW w A n c has x z0 z1 z2 cap cs).heap[w.heap.size + 1 + 1 + 1]? = some (.cells (tcs (some ⟨w.heap.size + 1 + 1 + 1 + 1 + 1, 0, none⟩) (n + 1) cap has x) 24) ∧
    (addW w A n c has x z0 z1 z2 cap cs).heap[w.heap.size + 1 + 1 + 1 + 1 + 1]? = some (.cells cs 40) := by
  refine ⟨bel_drewN (bal (bal (bal (bal (bal (bal (Below.refl _ _) _) _) _) _) _) _) 2, ?_, ?_, ?_⟩
  · have h2 := hp_new1 (w.alloc (.cells #[.slice A n c, .bool has, .int .i64 x] 24)) (.cells #[.int .i64 z0, .int .i64 z1, .bool z2] 40) (.cells #[.slice none 0 0, .bool false, .int .i64 0] 24)
    simp only [World.size_alloc] at h2
    exact hp_old (hp_old (hp_old h2 _) _) _
  · have h2 := hp_new1 ((w.alloc (.cells #[.slice A n c, .bool has, .int .i64 x] 24)).alloc (.cells #[.int .i64 z0, .int .i64 z1, .bool z2] 40)) (.cells #[.slice none 0 0, .bool false, .int .i64 0] 24)
      (.cells #[.slice (some ⟨w.heap.size + 1 + 1 + 1 + 1 + 1, 0, none⟩) (n + 1) cap, .bool has, .int .i64 x] 24)
    simp only [World.size_alloc] at h2
    exact hp_old (hp_old h2 _) _
  · have h2 := hp_new1 ((((w.alloc (.cells #[.slice A n c, .bool has, .int .i64 x] 24)).alloc (.cells #[.int .i64 z0, .int .i64 z1, .bool z2] 40)).alloc (.cells #[.slice none 0 0, .bool false, .int .i64 0] 24)).alloc
      (.cells #[.slice (some ⟨w.heap.size + 1 + 1 + 1 + 1 + 1, 0, none⟩) (n + 1) cap, .bool has, .int .i64 x] 24)) (.cells #[.int .i64 z0, .int .i64 z1, .bool z2] 40) (.cells cs 40)
    simp only [World.size_alloc] at h2
    exact h2
theorem tcs_cells {W : World} {g : Nat} {A : Option Addr} {n c : Nat} {has : Bool} {x : Int} (h : W.heap[g]? = some (.cells (tcs A n c has x) 24)) :
    W.cell? ⟨g, 0, none⟩ = some (.slice A n c) ∧ W.cell? ⟨g, 1, none⟩ = some (.bool has) ∧ W.cell? ⟨g, 2, none⟩ = some (.int .i64 x) := ⟨row_cell h 0, row_cell h 1, row_cell h 2⟩
theorem Own.other {W : World} {N g : Nat} {l : List Lp} (h : Own W N l) (hg : g < N) (c : Array Value) : Own (W.setRow g c) N l := by
  obtain ⟨cs, h, e⟩ := h
  exact ⟨cs, (setRow_other _ _ _ _ (by omega)).trans h, e⟩
theorem Own.otherCell {W : World} {N g o : Nat} {l : List Lp} (h : Own W N l) (hg : g < N) (v : Value) : Own (W.setCell ⟨g, o, none⟩ v) N l := by
  obtain ⟨cs, h, e⟩ := h
  exact ⟨cs, (heap_setCell_other _ ⟨g, o, none⟩ _ _ (by show N ≠ g; omega)).trans h, e⟩
theorem tcs_set {W : World} {g : Nat} {A B : Option Addr} {n c m d : Nat} {has : Bool} {x : Int} (h : W.heap[g]? = some (.cells (tcs A n c has x) 24)) :
    (W.setCell ⟨g, 0, none⟩ (.slice B m d)).heap[g]? = some (.cells (tcs B m d has x) 24) := heap_setCell_same W g 0 _ _ _ h
theorem tcs_frozen {W : World} {g : Nat} {A : Option Addr} {n c : Nat} {has : Bool} {x : Int} (h : W.heap[g]? = some (.cells (tcs A n c has x) 24)) : W.frozen? ⟨g, 0, none⟩ = false := by
  simp [World.frozen?, h]
/-- the leaps of what Add answers. -/
noncomputable def nx (l : List Lp) (z : Lp) (has : Bool) (x : Int) : List Lp := if ce (l ++ [z]) has x = 0 then l ++ [z] else l
def Added (l : List Lp) (z : Lp) (has : Bool) (x : Int) (w : World) (e : Ending) (w' : World) : Prop :=
  ∃ N c', w.heap.size ≤ N ∧ e = .returned (.tuple #[.agg #[.slice (some ⟨N, 0, none⟩) (nx l z has x).length c', .bool has, .int .i64 x], .int .i64 (ce (l ++ [z]) has x)]) ∧ (nx l z has x).length ≤ c' ∧ Own w' N (nx l z has x) ∧ Below w.heap.size w w'
theorem added_yes {l : List Lp} {z : Lp} {has : Bool} {x : Int} (h : ce (l ++ [z]) has x = 0) (w W : World) (N c' : Nat) (h1 : w.heap.size ≤ N) (h2 : l.length + 1 ≤ c') (h3 : Own W N (l ++ [z])) (hb : Below w.heap.size w W) :
    Added l z has x w (.returned (.tuple #[.agg (tcs (some ⟨N, 0, none⟩) (l.length + 1) c' has x), .int .i64 0])) W := by
  have e : nx l z has x = l ++ [z] := by unfold nx; rw [if_pos h]
  refine ⟨N, c', h1, ?_, by rw [e]; simpa using h2, by rw [e]; exact h3, hb⟩
  rw [e, h, List.length_append]
  rfl
theorem added_no {l : List Lp} {z : Lp} {has : Bool} {x : Int} (h : ce (l ++ [z]) has x ≠ 0) (w W : World) (N : Nat) (h1 : w.heap.size ≤ N) (h3 : Own W N (l ++ [z])) (hb : Below w.heap.size w W) :
    Added l z has x w (.returned (.tuple #[.agg (tcs (some ⟨N, 0, none⟩) l.length l.length has x), .int .i64 (ce (l ++ [z]) has x)])) W := by
  have e : nx l z has x = l := by unfold nx; rw [if_neg h]
  refine ⟨N, l.length, h1, ?_, by rw [e]; exact Nat.le_refl _, by rw [e]; exact h3.cut, hb⟩
  rw [e]
  rfl
set_option maxHeartbeats 1000000 in
theorem add_at (l : List Lp) (z : Lp) (A : Option Addr) (c : Nat) (has : Bool) (x : Int) (w : World) (T : day.Tabs w) (h : Lps w A l) (hn : l.length ≤ 1000000) (hc : l.length ≤ c) :
    Calls Tryz.prog 97 #[.agg #[.slice A l.length c, .bool has, .int .i64 x], .agg #[.int .i64 z.1, .int .i64 z.2.1, .bool z.2.2]] w (Added l z has x w) := by
  have hb4 : Below w.heap.size w ((((((w.alloc (.cells #[.slice A l.length c, .bool has, .int .i64 x] 24)).alloc (.cells #[.int .i64 z.1, .int .i64 z.2.1, .bool z.2.2] 40)).alloc (.cells #[.slice none 0 0, .bool false, .int .i64 0] 24)).alloc (.cells #[.slice A l.length c, .bool has, .int .i64 x] 24)).drew).alloc (.cells #[.int .i64 z.1, .int .i64 z.2.1, .bool z.2.2] 40)) :=
    bal (bel_drewN (bal (bal (bal (bal (Below.refl _ _) _) _) _) _) 1) _
  obtain ⟨cap, cs, run, h1, h2, h3⟩ := app_run _ A l (h.below hb4) hn (w.heap.size + 1 + 1 + 1 + 1) z (by
    have := hp_new (((((w.alloc (.cells #[.slice A l.length c, .bool has, .int .i64 x] 24)).alloc (.cells #[.int .i64 z.1, .int .i64 z.2.1, .bool z.2.2] 40)).alloc (.cells #[.slice none 0 0, .bool false, .int .i64 0] 24)).alloc (.cells #[.slice A l.length c, .bool has, .int .i64 x] 24)).drew) (.cells #[.int .i64 z.1, .int .i64 z.2.1, .bool z.2.2] 40)
    simpa using this) 22
  have HB := Lib.hid hb4
  have H3 := Lib.hid h3
  clear hb4 h3
  obtain ⟨z0, z1, z2⟩ := z
  have q := fun W => cutM A l.length c l.length hc W
  go_enter Tryz.func97, Tryz.ntmps97
  go_wp2_with fail
  simp only [World.size_alloc] at run
  go_region_law (refine step_app rfl _ _ _ rfl _ _ _ _ rfl rfl run ?_)
  all_goals
    show Exit.then _ _ _ _ (addW w A l.length c has x z0 z1 z2 cap cs)
    obtain ⟨hbW, g2, g3, g5⟩ := addW_is w A l.length c has x z0 z1 z2 cap cs
    generalize addW w A l.length c has x z0 z1 z2 cap cs = W6 at *
    clear run q HB
    have own : Own W6 (w.heap.size + 1 + 1 + 1 + 1 + 1) (l ++ [(z0, z1, z2)]) := ⟨cs, g5, H3.out⟩
    have C := Lib.hid (check_at (l ++ [(z0, z1, z2)]) (some ⟨w.heap.size + 1 + 1 + 1 + 1 + 1, 0, none⟩) cap has x W6 (T.below hbW) own.lps (by simp; omega))
    unfold Checked at C
    rw [show (l ++ [(z0, z1, z2)]).length = l.length + 1 by simp] at C
    have Y : Hid (ce (l ++ [(z0, z1, z2)]) has x = 0 → ∀ W' N c', w.heap.size ≤ N → l.length + 1 ≤ c' → Own W' N (l ++ [(z0, z1, z2)]) → Below w.heap.size w W' → Added l (z0, z1, z2) has x w (.returned (.tuple #[.agg (tcs (some ⟨N, 0, none⟩) (l.length + 1) c' has x), .int .i64 0])) W') := fun h W' N c' a b d e => added_yes h w W' N c' a b d e
    have Z : Hid (ce (l ++ [(z0, z1, z2)]) has x ≠ 0 → ∀ W' N, w.heap.size ≤ N → Own W' N (l ++ [(z0, z1, z2)]) → Below w.heap.size w W' → Added l (z0, z1, z2) has x w (.returned (.tuple #[.agg (tcs (some ⟨N, 0, none⟩) l.length l.length has x), .int .i64 (ce (l ++ [(z0, z1, z2)]) has x)])) W') := fun h W' N a d e => added_no h w W' N a d e
    have O := Lib.hid own
    obtain ⟨d0, d1, d2⟩ := tcs_cells g3
    have G2 := Lib.hid g2
    have G3 := Lib.hid g3
    have q3 := fun W => cutM (some ⟨w.heap.size + 1 + 1 + 1 + 1 + 1, 0, none⟩) (l.length + 1) cap l.length (by omega) W
    clear h T own g5 g2 g3 H3
    generalize ce (l ++ [(z0, z1, z2)]) has x = E at *
    generalize cp (l ++ [(z0, z1, z2)]) = p at *
    generalize hL : l ++ [(z0, z1, z2)] = L at *
    by_cases hE : E = 0
    · subst hE
      have Y2 := Lib.hid (Y.out rfl)
      clear Y Z q3
      generalize l.length = n at *
      go_wp2_with (first
        | (go_at_call 43; (with_reducible refine (C.out).mono ?_); rintro e w1 ⟨rfl, hb1⟩; have k2 := Lib.hid (kept G2.out hb1); have k3 := Lib.hid (kept G3.out hb1); obtain ⟨c0, c1, c2⟩ := tcs_cells k3.out)
        | (refine wpList_store_row rfl 24 (.tmp 4) (.tmp 38) rfl (w.heap.size + 1 + 1) (tcs (some ⟨w.heap.size + 1 + 1 + 1 + 1 + 1, 0, none⟩) (n + 1) cap has x) rfl rfl 24 _ k2.out szT rfl (tcs_one _ _ _ _ _) ?_))
      exact end_pair rfl _ _ (w.heap.size + 1 + 1) 24 (tcs (some ⟨w.heap.size + 1 + 1 + 1 + 1 + 1, 0, none⟩) (n + 1) cap has x) _ (.int .i64 0) rfl rfl (setRow_heap _ _ _ _ _ _ k2.out) Tryz.underlying24 szT rfl
        (Y2.out _ _ _ (by omega) h1 ((O.out.kept hb1).other (by omega) _) (bel_setRow (btr hbW hb1) (by omega) _))
    · have Z2 := Lib.hid (Z.out hE)
      have t : (E != 0) = true := by simpa using hE
      clear Y Z hE
      generalize l.length = n at *
      go_wp2_with (first
        | (go_at_call 43; (with_reducible refine (C.out).mono ?_); rintro e w1 ⟨rfl, hb1⟩; have k2 := Lib.hid (kept G2.out hb1); have k3 := Lib.hid (kept G3.out hb1); obtain ⟨c0, c1, c2⟩ := tcs_cells k3.out; have fz := tcs_frozen k3.out; obtain ⟨e0, e1, e2⟩ := tcs_cells (tcs_set (B := some ⟨w.heap.size + 1 + 1 + 1 + 1 + 1, 0, none⟩) (m := n) (d := n) k3.out); have k4 := Lib.hid ((heap_setCell_other w1 ⟨w.heap.size + 1 + 1 + 1, 0, none⟩ (w.heap.size + 1 + 1) (.slice (some ⟨w.heap.size + 1 + 1 + 1 + 1 + 1, 0, none⟩) n n) (by show w.heap.size + 1 + 1 ≠ w.heap.size + 1 + 1 + 1; omega)).trans k2.out))
        | (refine wpList_store_row rfl 24 (.tmp 4) (.tmp 36) rfl (w.heap.size + 1 + 1) (tcs (some ⟨w.heap.size + 1 + 1 + 1 + 1 + 1, 0, none⟩) n n has x) rfl rfl 24 _ k4.out szT rfl (tcs_one _ _ _ _ _) ?_))
      exact end_pair rfl _ _ (w.heap.size + 1 + 1) 24 (tcs (some ⟨w.heap.size + 1 + 1 + 1 + 1 + 1, 0, none⟩) n n has x) _ (.int .i64 E) rfl rfl (setRow_heap _ _ _ _ _ _ k4.out) Tryz.underlying24 szT rfl
        (Z2.out _ _ (by omega) (((O.out.kept hb1).otherCell (by omega) _).other (by omega) _) (bel_setRow ((btr hbW hb1).setCell (by show w.heap.size ≤ w.heap.size + 1 + 1 + 1; omega) _) (by omega) _))
end Go.Proofs.YtldieebiicblbaaGreatDoor.leap

/-
  What num's Div answers, for all numbers of 64 bits: quotient and rest downwards and true where one divides by 1 or more, noughts and false else. No condition beside that the arguments are such numbers. (For seats that have Div alone of num's functions.)
-/
namespace Go.Proofs.YtldieebiicblbaaGreatDoor.numDiv
open Go.ChangeShapes Go.WideShapes Go.ChangeAt Go.RowKit
set_option linter.unusedVariables false
set_option maxRecDepth 100000

def fit (n : Int) : Prop := -9223372036854775808 ≤ n ∧ n ≤ 9223372036854775807

/-! Div -/
theorem div_no (a b : Int) (w : World) (hb : b < 1) :
    Calls Tryz.prog 96 #[.int .i64 a, .int .i64 b] w fun e w' => e = .returned (.tuple #[.int .i64 0, .int .i64 0, .bool false]) ∧ ∃ n, w' = w.drewN n := by
  go_enter Tryz.func96, Tryz.ntmps96
  go_wp2
  go_ret3
  exact ⟨rfl, 0, rfl⟩
theorem tdiv_neg' (a b : Int) (ha : a < 0) (hb : 1 ≤ b) (h : a % b = 0) : a.tdiv b = a / b ∧ a.tmod b = 0 := by
  have hd : b ∣ a := Int.dvd_of_emod_eq_zero h
  obtain ⟨c, rfl⟩ := hd
  refine ⟨by rw [Int.mul_tdiv_cancel_left _ (by omega), Int.mul_ediv_cancel_left _ (by omega)], Int.mul_tmod_right _ _⟩
theorem tdiv_neg (a b : Int) (ha : a < 0) (hb : 1 ≤ b) (h : a % b ≠ 0) : a.tdiv b = a / b + 1 ∧ a.tmod b = a % b - b := by
  have hd : ¬ b ∣ a := fun hd => h (Int.emod_eq_zero_of_dvd hd)
  have h1 := Int.tdiv_eq_ediv (a := a) (b := b)
  have h2 := Int.tmod_eq_emod (a := a) (b := b)
  have hs : b.sign = 1 := Int.sign_eq_one_of_pos (by omega)
  have hn : ((b.natAbs : Nat) : Int) = b := by omega
  rw [if_neg (by rintro (h | h); omega; exact hd h)] at h1 h2
  exact ⟨by omega, by omega⟩
theorem div_yes (a b : Int) (w : World) (ha : fit a) (hb : fit b) (h : 1 ≤ b) :
    Calls Tryz.prog 96 #[.int .i64 a, .int .i64 b] w fun e w' => e = .returned (.tuple #[.int .i64 (a / b), .int .i64 (a % b), .bool true]) ∧ ∃ n, w' = w.drewN n := by
  have hb0 : b ≠ 0 := by omega
  have m1 := Int.emod_nonneg a hb0
  have m2 := Int.emod_lt_of_pos a (b := b) (by omega)
  unfold fit at ha hb
  obtain ⟨ha1, ha2⟩ := ha; obtain ⟨hb1, hb2⟩ := hb
  by_cases h0 : 0 ≤ a
  · go_enter Tryz.func96, Tryz.ntmps96
    go_wp2
    go_quiet (fail)
    go_wp2
    go_ret3
    exact ⟨rfl, _, rfl⟩
  · have q1 : a / b < 0 := Int.ediv_neg_of_neg_of_pos (by omega) (by omega)
    have q2 : -9223372036854775808 ≤ a / b := by
      have := Int.mul_ediv_add_emod a b
      have h3 : -9223372036854775808 * b ≤ a := by omega
      exact Int.le_ediv_of_mul_le (by omega) h3
    by_cases hz : a % b = 0
    · obtain ⟨e1, e2⟩ := tdiv_neg' a b (by omega) h hz
      rw [hz]
      clear m1 m2 hz
      generalize a / b = Q at *
      go_enter Tryz.func96, Tryz.ntmps96
      go_wp2
      go_quiet (fail)
      go_wp2
      go_ret3
      exact ⟨rfl, _, rfl⟩
    · obtain ⟨e1, e2⟩ := tdiv_neg a b (by omega) h hz
      generalize a / b = Q at *
      generalize a % b = R at *
      go_enter Tryz.func96, Tryz.ntmps96
      go_wp2
      go_quiet (fail)
      go_wp2
      go_ret3
      exact ⟨rfl, _, rfl⟩
end Go.Proofs.YtldieebiicblbaaGreatDoor.numDiv

/-
  How far a list is read, in memory: a box of eleven cells, and a map of places. What storing in the box does. Conditions: as said.
-/
namespace Go.Proofs.YtldieebiicblbaaGreatDoor.list
open Go.ChangeShapes Go.WideShapes Go.ChangeAt Go.RowKit
open lx ls mem
open lm (Lp ce)
set_option linter.unusedVariables false
set_option maxRecDepth 100000

/-- the box's cells. -/
def rc (m : Nat) (A : Option Addr) (n c : Nat) (s : S) : Array Value :=
  #[.map (some m), .slice A n c, .bool false, .int .i64 0, .int .i64 s.ct, .int .i64 s.ex, .int .u32 (s.h 0 : Nat), .int .u32 (s.h 1 : Nat), .int .u32 (s.h 2 : Nat), .int .u32 (s.h 3 : Nat), .int .u32 (s.h 4 : Nat)]
/-- the box holds how far a list is read (but for the places). -/
def RS (b m : Nat) (s : S) (W : World) : Prop :=
  ∃ A c, W.heap[b]? = some (.cells (rc m A s.lv.length c s) 45 (0, 0)) ∧ leap.Lps W A s.lv ∧ s.lv.length ≤ c ∧ ∀ g o, A = some ⟨g, o, none⟩ → (g ≠ b ∧ g ≠ m) ∧ b < g
/-- all blocks but these two are as they were. -/
structure But (b m : Nat) (W W' : World) : Prop where
  os : W'.os = W.os
  tape : W'.tape = W.tape
  output : W'.output = W.output
  size : W.heap.size ≤ W'.heap.size
  block : ∀ k, k < W.heap.size → k ≠ b → k ≠ m → W'.heap[k]? = W.heap[k]?
theorem But.refl (b m : Nat) (W : World) : But b m W W := ⟨rfl, rfl, rfl, Nat.le_refl _, fun _ _ _ _ => rfl⟩
theorem But.trans {b m : Nat} {x y z : World} (h : But b m x y) (k : But b m y z) : But b m x z :=
  ⟨k.os.trans h.os, k.tape.trans h.tape, k.output.trans h.output, Nat.le_trans h.size k.size, fun i h1 h2 h3 => (k.block i (Nat.lt_of_lt_of_le h1 h.size) h2 h3).trans (h.block i h1 h2 h3)⟩
theorem But.of_keep {b m : Nat} {x y : World} (h : sha.Keep b x y) : But b m x y := ⟨h.os, h.tape, h.output, h.size, fun i h1 h2 _ => h.block i h1 h2⟩
theorem But.of_below {b m : Nat} {x y : World} (h : Below x.heap.size x y) : But b m x y := ⟨h.os, h.tape, h.output, h.size, fun i h1 _ _ => h.block i h1⟩
theorem But.of_grown {b m : Nat} {x y : World} (h : x.grownBy y (some m)) : But b m x y := ⟨h.os, h.tape, h.output, h.size, fun i h1 _ h3 => h.block i h1 (fun e => h3 (by cases e; rfl))⟩
theorem But.to_below {b m base : Nat} {w x y : World} (h : But b m x y) (k : Below base w x) (hb : base ≤ b) (hm : base ≤ m) (hs : base ≤ x.heap.size) : Below base w y :=
  ⟨h.os.trans k.os, h.tape.trans k.tape, h.output.trans k.output, Nat.le_trans k.size h.size, fun i hi => (h.block i (by omega) (by omega) (by omega)).trans (k.block i hi)⟩
theorem But.cell {b m : Nat} {x y : World} (h : But b m x y) {p : Addr} (hp : p.block < x.heap.size) (h1 : p.block ≠ b) (h2 : p.block ≠ m) : y.cell? p = x.cell? p := World.cell?_of_block (h.block _ hp h1 h2)
theorem strs_but {b m : Nat} {W W' : World} {A : Option Addr} {l : List ByteArray} (h : lines.Strs W A l) (hb : But b m W W') (hne : ∀ g o, A = some ⟨g, o, none⟩ → g ≠ b ∧ g ≠ m) : lines.Strs W' A l := by
  intro hl
  obtain ⟨g, o, e, hlt, hc⟩ := h hl
  exact ⟨g, o, e, Nat.lt_of_lt_of_le hlt hb.size, fun k hk => (hb.cell (p := ⟨g, o + k, none⟩) hlt (hne g o e).1 (hne g o e).2).trans (hc k hk)⟩
theorem lps_but {b m : Nat} {W W' : World} {A : Option Addr} {l : List Lp} (h : leap.Lps W A l) (hb : But b m W W') (hne : ∀ g o, A = some ⟨g, o, none⟩ → g ≠ b ∧ g ≠ m) : leap.Lps W' A l := by
  intro hl
  obtain ⟨g, o, e, hlt, hc⟩ := h hl
  refine ⟨g, o, e, Nat.lt_of_lt_of_le hlt hb.size, fun k hk => ?_⟩
  obtain ⟨c0, c1, c2⟩ := hc k hk
  obtain ⟨n1, n2⟩ := hne g o e
  exact ⟨(hb.cell hlt n1 n2).trans c0, (hb.cell hlt n1 n2).trans c1, (hb.cell hlt n1 n2).trans c2⟩
theorem rs_below {b m : Nat} {s : S} {W W' : World} (h : RS b m s W) (hb : Below W.heap.size W W') : RS b m s W' := by
  obtain ⟨A, c, h1, h2, h3, h4⟩ := h
  exact ⟨A, c, kept h1 hb, h2.below hb, h3, h4⟩
theorem rs_lt {b m : Nat} {s : S} {W : World} (h : RS b m s W) : b < W.heap.size := by
  obtain ⟨A, c, h1, _⟩ := h
  exact (Array.getElem?_eq_some_iff.1 h1).1
/-- the cells, one by one; none is frozen. -/
theorem rc_cells {W : World} {b m : Nat} {A : Option Addr} {n c : Nat} {s : S} (h : W.heap[b]? = some (.cells (rc m A n c s) 45 (0, 0))) :
    W.cell? ⟨b, 0, none⟩ = some (.map (some m)) ∧ W.cell? ⟨b, 1, none⟩ = some (.slice A n c) ∧ W.cell? ⟨b, 2, none⟩ = some (.bool false) ∧ W.cell? ⟨b, 3, none⟩ = some (.int .i64 0) ∧ W.cell? ⟨b, 4, none⟩ = some (.int .i64 s.ct) ∧ W.cell? ⟨b, 5, none⟩ = some (.int .i64 s.ex) ∧
      ∀ j, W.frozen? ⟨b, j, none⟩ = false :=
  ⟨row_cell h 0, row_cell h 1, row_cell h 2, row_cell h 3, row_cell h 4, row_cell h 5, fun j => frozen_of_row _ _ _ _ _ h⟩
/-- a store into the middle of a row. -/
theorem store_in {P : Program} {ops : Array Oper} {rest : List Oper} {o : Oper} {a : Act} {w : World} {Q : Exit → Act → World → Prop} (hgd : o.guard = none) (ty : TypeId) (x y : Operand) (ho : o.op = .store ty x y)
    (g k : Nat) (t : TypeId) (cur cells new : Array Value) (hx : a.eval x = .pointer (some ⟨g, k, none⟩)) (hy : a.eval y = .agg cells) (hg : w.heap[g]? = some (.cells cur t (0, 0))) (hi : (P.info? ty).map (·.size) = some cells.size)
    (hfit : k + cells.size ≤ cur.size) (h1 : ∀ v ∈ cells.toList, v.oneCell' = true) (hnew : (cur.toList.take k ++ cells.toList ++ cur.toList.drop (k + cells.size)).toArray = new)
    (h : wpList P ops Q rest (a.put o.dst undef) (w.setRow g new)) : wpList P ops Q (o :: rest) a w := by
  refine wpList_plain hgd fun K hK => ?_
  have hr := run_storeCells_at (P := P) g k t cells.toList 0 cur w hg (by simpa using hfit) h1
  simp only [Nat.add_zero, Array.length_toList, hnew] at hr
  have hs : (storeVar ty ⟨g, k, none⟩ (.agg cells)).run P w = .ok () (w.setRow g new) := by
    cases hq : P.info? ty with
    | none => simp [hq] at hi
    | some i =>
      have hs : cells.size = i.size := by simp [hq] at hi; omega
      simp [storeVar, sizeOf, typeInfo, hq, Value.cells, hs, hr]
  unfold Oper.wp execOp
  simp only [ho, hx, hy, Instr.storeAt, Instr.sureAddr, Sem.run_bind, Sem.run_pure, Result.andThen_ok, hs]
  exact hK _ _ h
end Go.Proofs.YtldieebiicblbaaGreatDoor.list

/-
  What takeLeap of a list's reading answers, and leaves. Conditions: the tables of package day hold what their initialisers lay; the box holds how far the list is read.
-/
namespace Go.Proofs.YtldieebiicblbaaGreatDoor.list
open Go.ChangeShapes Go.WideShapes Go.ChangeAt Go.RowKit
open lx ls mem
open lm (Lp ce)
open leap (nx Own tcs)
set_option linter.unusedVariables false
set_option maxRecDepth 100000

theorem szTab : (Tryz.prog.info? 24).map (·.size) = some 3 := by kernel_rfl
theorem rc_fit (m : Nat) (A : Option Addr) (n c : Nat) (s : S) : 1 + 3 ≤ (rc m A n c s).size := by show 4 ≤ 11; decide
theorem tab_one (A : Option Addr) (n c : Nat) (has : Bool) (x : Int) : ∀ v ∈ (#[.slice A n c, .bool has, .int .i64 x] : Array Value).toList, v.oneCell' = true := by
  intro v hv
  simp only [List.mem_cons, List.not_mem_nil, or_false] at hv
  rcases hv with rfl | rfl | rfl <;> rfl
/-- what taking leaves: the box's and the map's blocks alone are turned; where nothing is wrong the box holds the next. -/
def Took (b m : Nat) (W : World) (E : Int) (s' : S) (e : Ending) (w' : World) : Prop := e = .returned (.int .i64 E) ∧ sha.Keep b W w' ∧ (E = 0 → RS b m s' w')
theorem took_leap {A : Option Addr} {n c : Nat} {b m N c' : Nat} {s : S} {z : Lp} {W w1 : World} (hN : W.heap.size ≤ N) (hc : (nx s.lv z false 0).length ≤ c') (ho : Own w1 N (nx s.lv z false 0)) (hb : Below W.heap.size W w1) (hbl : b < W.heap.size) (hml : m < W.heap.size) (o : Obj)
    (hg : (w1.alloc o).heap[b]? = some (.cells (rc m A n c s) 45 (0, 0))) :
    Took b m W (ce (s.lv ++ [z]) false 0) { s with lv := s.lv ++ [z] } (.returned (.int .i64 (ce (s.lv ++ [z]) false 0))) ((w1.alloc o).setRow b (rc m (some ⟨N, 0, none⟩) (nx s.lv z false 0).length c' s)) := by
  have K : sha.Keep b W ((w1.alloc o).setRow b (rc m (some ⟨N, 0, none⟩) (nx s.lv z false 0).length c' s)) := (((sha.Keep.refl b W).below hb).below (bal (Below.refl _ _) o)).setRow _
  refine ⟨rfl, K, fun h => ?_⟩
  have e : nx s.lv z false 0 = s.lv ++ [z] := by unfold nx; rw [if_pos h]
  rw [e] at hc ho ⊢
  have hs := hb.size
  refine ⟨some ⟨N, 0, none⟩, c', setRow_heap _ _ _ _ _ _ hg, ?_, hc, fun g o e => by cases e; omega⟩
  have KK : sha.Keep b w1 ((w1.alloc o).setRow b (rc m (some ⟨N, 0, none⟩) (s.lv ++ [z]).length c' s)) := ((sha.Keep.refl b w1).below (bal (Below.refl _ _) o)).setRow _
  exact lps_but ho.lps (But.of_keep (m := b) KK) (fun g o e => by cases e; omega)
set_option maxHeartbeats 2000000 in
theorem takeLeap_at (b m : Nat) (s : S) (n t : Int) (W : World) (T : day.Tabs W) (h : RS b m s W) (hm : m < W.heap.size) (hlen : s.lv.length ≤ 1000000) (hn : 0 ≤ n) (hn2 : n ≤ 9223372036854775807) :
    Calls Tryz.prog 70 #[.pointer (some ⟨b, 0, none⟩), .int .i64 n, .int .i64 t] W (Took b m W (lE n t s.lv) { s with lv := s.lv ++ [lp n t] }) := by
  have hbl := rs_lt h
  obtain ⟨A, c, hg, hl, hc, hne⟩ := h
  have PX := Lib.hid (fun W => ntp.posix_yes n W ⟨by omega, hn2⟩ hn)
  have DV := Lib.hid (fun W => numDiv.div_yes (n - 2208988800) 86400 W ⟨by omega, by omega⟩ ⟨by decide, by decide⟩ (by decide))
  have hq1 : -30000 ≤ (n - 2208988800) / 86400 := by omega
  have hq2 : (n - 2208988800) / 86400 ≤ 110000000000000 := by omega
  have AD : Hid (∀ k, Calls Tryz.prog 97 #[.agg #[.slice A s.lv.length c, .bool false, .int .i64 0], .agg #[.int .i64 ((n - 2208988800) / 86400 - 1), .int .i64 t, .bool false]] (W.drewN k) (leap.Added s.lv (lp n t) false 0 W)) := fun k => by
    refine (leap.add_at s.lv (lp n t) A c false 0 (W.drewN k) (T.below (bel_drewN (Below.refl _ _) k)) (hl.below (bel_drewN (Below.refl _ _) k)) hlen hc).mono ?_
    rintro e w' ⟨N, c', h1, h2, h3, h4, h5⟩
    exact ⟨N, c', h1, h2, h3, h4, btr (bel_drewN (Below.refl _ _) k) h5⟩
  unfold leap.Added at AD
  have EL : Hid (lE n t s.lv = if (n - 2208988800) % 86400 ≠ 0 then 5 else if t ≠ 1 ∧ t ≠ -1 then 6 else ce (s.lv ++ [lp n t]) false 0) := rfl
  have TL := Lib.hid (fun N c' w1 hN hc' ho hb o hg => took_leap (b := b) (m := m) (N := N) (c' := c') (s := s) (z := lp n t) (W := W) (w1 := w1) (A := A) (n := s.lv.length) (c := c) hN hc' ho hb hbl hm o hg)
  have FX : Hid (∀ E E' k, E' = E → E ≠ 0 → Took b m W E' { s with lv := s.lv ++ [lp n t] } (.returned (.int .i64 E)) (W.drewN k)) := fun E E' k e hE => ⟨by rw [e], (sha.Keep.refl b W).drewN k, fun h => absurd (e.symm.trans h) hE⟩
  obtain ⟨c0, c1, c2, c3, c4, c5, fz⟩ := rc_cells hg
  have HG := Lib.hid hg
  clear T hl hc hne hg
  generalize hq : (n - 2208988800) / 86400 = q at *
  by_cases hr : (n - 2208988800) % 86400 = 0
  · rw [if_neg (by omega)] at EL
    rw [hr] at DV
    by_cases ht : t ≠ 1 ∧ t ≠ -1
    · rw [if_pos ht] at EL
      obtain ⟨t1, t2⟩ := ht
      have u1 : (t != 1) = true := by simpa using t1
      have u2 : (t != -1) = true := by simpa using t2
      go_enter Tryz.func70, Tryz.ntmps70
      go_wp2_with (first
        | (go_at_call 69; with_reducible refine (PX.out _).mono ?_; rintro e w1 ⟨rfl, rfl⟩)
        | (go_at_call 96; with_reducible refine (DV.out _).mono ?_; rintro e w2 ⟨rfl, k, rfl⟩))
      go_ret
      exact FX.out 6 _ _ EL.out (by decide)
    · rw [if_neg ht] at EL
      have ht' : t = 1 ∨ t = -1 := by omega
      clear ht FX
      rw [EL.out]
      clear EL
      rcases ht' with rfl | rfl
      all_goals
        go_enter Tryz.func70, Tryz.ntmps70
        go_wp2_with (first
          | (go_at_call 69; with_reducible refine (PX.out _).mono ?_; rintro e w1 ⟨rfl, rfl⟩)
          | (go_at_call 96; with_reducible refine (DV.out _).mono ?_; rintro e w2 ⟨rfl, k, rfl⟩)
          | (go_at_call 97; with_reducible refine (AD.out _).mono ?_; rintro e w5 ⟨N, c', hN, rfl, hc', ho, hb5⟩; have HG5 := Lib.hid (fun o => hp_old (kept HG.out hb5) o); have HN := Lib.hid hN; have HC := Lib.hid hc'; clear hN hc')
          | (refine store_in rfl 24 (.tmp 48) (.tmp 46) rfl b 1 45 (rc m A s.lv.length c s) _ (rc m (some ⟨N, 0, none⟩) (nx s.lv (lp n _) false 0).length c' s) rfl rfl (HG5.out _) szTab (rc_fit _ _ _ _ _) (tab_one _ _ _ _ _) rfl ?_))
        go_ret
        exact TL.out N c' w5 HN.out HC.out ho hb5 _ (HG5.out _)
  · rw [if_pos hr] at EL
    have u1 : ((n - 2208988800) % 86400 != 0) = true := by simpa using hr
    go_enter Tryz.func70, Tryz.ntmps70
    go_wp2_with (first
      | (go_at_call 69; with_reducible refine (PX.out _).mono ?_; rintro e w1 ⟨rfl, rfl⟩)
      | (go_at_call 96; with_reducible refine (DV.out _).mono ?_; rintro e w2 ⟨rfl, k, rfl⟩))
    go_ret
    exact FX.out 5 _ _ EL.out (by decide)
end Go.Proofs.YtldieebiicblbaaGreatDoor.list
