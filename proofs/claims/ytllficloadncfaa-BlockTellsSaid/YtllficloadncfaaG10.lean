/-
  What is kept by kinds of blocks: a builder and its bytes, a map, a row of numbers, each kept where only the others are written. A builder that tells its length. Conditions: as said.
-/
import Derived.Test.YtllficloadncfaaG09
import Derived.Test.YtllficloadncfaaG03
import Derived.Maps.Own
import Derived.Maps.OwnSet
import Derived.Maps.Views
import Derived.Lib.OthersKept
import Derived.Test.YtllficloadncfaaG04
namespace Go.Proofs.Ytllficloadncfaa.abr
open Go.ChangeShapes Go.WideShapes Go.ChangeAt Go.RowKit
open lx ab mem
open Go.Maps (Keyed string_keyed)
open Go.ChangeMaps Go.MapKept Go.WideElems
set_option linter.unusedVariables false
set_option maxRecDepth 100000

/-! what is kept by kinds of blocks -/
def isB (o : Obj) : Prop := (∃ cs fz, o = .cells cs 78 fz) ∨ ∃ cs fz, o = .cells cs 5 fz
def isI (o : Obj) : Prop := ∃ cs fz, o = .cells cs 3 fz
def isM (o : Obj) : Prop := ∃ es c, o = .map es c
theorem not_bi {o : Obj} (h : isB o) : ¬ isI o := by
  rintro ⟨cs, fz, rfl⟩
  rcases h with ⟨_, _, e⟩ | ⟨_, _, e⟩ <;> (injection e with _ e _; exact absurd e (by decide))
theorem not_bm {o : Obj} (h : isB o) : ¬ isM o := by
  rintro ⟨cs, fz, rfl⟩
  rcases h with ⟨_, _, e⟩ | ⟨_, _, e⟩ <;> cases e
theorem not_im {o : Obj} (h : isI o) : ¬ isM o := by
  rintro ⟨cs, fz, rfl⟩
  rcases h with ⟨_, _, e⟩
  cases e
structure Fr (P : Obj → Prop) (w w' : World) : Prop where
  os : w'.os = w.os
  tape : w'.tape = w.tape
  output : w'.output = w.output
  size : w.heap.size ≤ w'.heap.size
  keep : ∀ (k : Nat) (o : Obj), w.heap[k]? = some o → ¬ P o → w'.heap[k]? = some o
theorem Fr.refl (P : Obj → Prop) (w : World) : Fr P w w := ⟨rfl, rfl, rfl, Nat.le_refl _, fun _ _ h _ => h⟩
theorem Fr.trans {P : Obj → Prop} {a b c : World} (h : Fr P a b) (k : Fr P b c) : Fr P a c :=
  ⟨k.os.trans h.os, k.tape.trans h.tape, k.output.trans h.output, Nat.le_trans h.size k.size, fun i o hi hn => k.keep i o (h.keep i o hi hn) hn⟩
theorem Fr.below {P : Obj → Prop} {a b : World} (h : Below a.heap.size a b) : Fr P a b := ⟨h.os, h.tape, h.output, h.size, fun k o hk _ => kept hk h⟩
theorem Fr.grown {P : Obj → Prop} {a b : World} {row : Option Nat} (h : a.grownBy b row) (hr : ∀ g, row = some g → ∃ o, a.heap[g]? = some o ∧ P o) : Fr P a b :=
  ⟨h.os, h.tape, h.output, h.size, fun k o hk hn => by
    rw [h.block k (Array.getElem?_eq_some_iff.1 hk).1 (fun e => by
      obtain ⟨o', e1, e2⟩ := hr k e.symm
      rw [hk] at e1
      injection e1 with e1
      exact hn (e1 ▸ e2))]
    exact hk⟩
theorem Fr.setCell {P : Obj → Prop} {a : World} {g : Nat} {o : Obj} (hg : a.heap[g]? = some o) (hp : P o) (i : Nat) (v : Value) : Fr P a (a.setCell ⟨g, i, none⟩ v) :=
  ⟨rfl, rfl, rfl, by simp [World.setCell], fun k o' hk hn => by
    rw [Below.heap_setCell _ _ _ _ (fun e => by
      subst e
      rw [hk] at hg
      injection hg with hg
      exact hn (hg ▸ hp))]
    exact hk⟩
theorem Fr.drewN {P : Obj → Prop} {a b : World} (h : Fr P a b) (n : Nat) : Fr P a (b.drewN n) := ⟨h.os, h.tape, h.output, h.size, h.keep⟩
theorem row_fr {P : Obj → Prop} {B0 : Nat} {e : TypeId} {k : Nat} {v : Value} {n : Nat} {xs : List Value} {W W' : World} (h : W.ownsRow B0 e k v n xs) (hf : Fr P W W') (hn : ∀ cs fz, ¬ P (.cells cs e fz)) : W'.ownsRow B0 e k v n xs := by
  refine ⟨h.1, ?_⟩
  rcases h.2 with h | ⟨g, cap, c, hv, hb0, hh, r⟩
  · exact .inl h
  · exact .inr ⟨g, cap, c, hv, hb0, hf.keep _ _ hh (hn _ _), r⟩
theorem row_kind {B0 : Nat} {e : TypeId} {k : Nat} {v : Value} {n : Nat} {xs : List Value} {W : World} (h : W.ownsRow B0 e k v n xs) (g : Nat) (hg : v.ownBlock = some g) : ∃ cs, W.heap[g]? = some (.cells cs e (0, 0)) := by
  rcases h.2 with ⟨rfl, _⟩ | ⟨g', cap, c, rfl, hb0, hh, r⟩
  · cases hg
  · injection hg with hg
    subst hg
    exact ⟨_, hh⟩

/-! a builder -/
abbrev Bld := bldr.Bld
abbrev BldAt := bldr.BldAt
theorem bat_fr {P : Obj → Prop} {B b : Nat} {p : Value} {l : List Value} {W W' : World} (h : Lib.BuilderAt 78 5 B b p l W) (hf : Fr P W W') (hn : ∀ o, isB o → ¬ P o) : Lib.BuilderAt 78 5 B b p l W' := by
  obtain ⟨hB, v, hbk, hown, hne⟩ := h
  exact ⟨hB, v, hf.keep _ _ hbk (hn _ (.inl ⟨_, _, rfl⟩)), row_fr hown hf (fun cs fz => hn _ (.inr ⟨_, _, rfl⟩)), hne⟩
theorem bld_fr {P : Obj → Prop} {B b : Nat} {l : List UInt8} {W W' : World} (h : Bld B b l W) (hf : Fr P W W') (hn : ∀ o, isB o → ¬ P o) : Bld B b l W' :=
  h.elim (fun k => .inl (bat_fr k hf hn)) (fun k => .inr (bat_fr k hf hn))
theorem check_k (B b : Nat) (l : List UInt8) (w : World) (h : Bld B b l w) :
    Calls Try.prog 54 #[.pointer (some ⟨b, 0, none⟩)] w fun e w' => e = .returned (.tuple #[]) ∧ BldAt B b l w' ∧ Below B w w' ∧ Fr isB w w' := by
  rcases h with h | h
  · refine (bldr.check_fresh b w h.cell0 h.shape h.frozen0).mono fun e w' ⟨he, hw⟩ => ⟨he, by rw [hw]; exact h.used _, by rw [hw]; exact (Below.refl B w).setCell (p := ⟨b, 0, none⟩) h.1 _, ?_⟩
    obtain ⟨_, v, hbk, _⟩ := h
    rw [hw]
    exact Fr.setCell hbk (.inl ⟨_, _, rfl⟩) 0 _
  · exact (bldr.check_used b w h.cell0).mono fun e w' ⟨he, hw⟩ => ⟨he, by rw [← hw]; exact h, by rw [← hw]; exact Below.refl _ _, by rw [← hw]; exact Fr.refl _ _⟩
theorem fr_wrote {B b : Nat} {w1 w2 : World} {v : Value} {l : List UInt8} (ho : bldr.Own B w1 v l) (hg : w1.grownBy w2 v.ownBlock) : Fr isB w1 w2 :=
  Fr.grown hg fun g e => by
    obtain ⟨cs, h⟩ := row_kind ho g e
    exact ⟨_, h, .inr ⟨_, _, rfl⟩⟩
set_option maxHeartbeats 1000000 in
theorem string_k (B b : Nat) (l : List UInt8) (s : ByteArray) (w : World) (h : Bld B b l w) (hl : l.length < 10000000) (hs : s.size < 10000000) (hB : B ≤ w.heap.size) :
    Calls Try.prog 40 #[.pointer (some ⟨b, 0, none⟩), .string s] w fun e w' => e = .returned (.tuple #[.int .i64 (s.size : Nat), .nilIface]) ∧ Bld B b (l ++ L s) w' ∧ Below B w w' ∧ Fr isB w w' := by
  have C := Lib.hid (check_k B b l w h)
  clear h
  go_enter Try.func40, Try.ntmps40
  go_wp2_with (first
    | (go_at_call 54; (with_reducible refine C.out.mono ?_); rintro e w1 ⟨rfl, h1, hb1, hf1⟩; obtain ⟨hBb, v, c0, c1, HO, HK, HN⟩ := bldr.opened h1; have hs1 := hb1.size)
    | (at_builtin; refine bldr.app_str rfl _ _ rfl B w1 v l s rfl rfl HO.out (by omega) (by omega) ?_; intro A2 cap2 w2 ho2 hg2; obtain ⟨K2, d0, d1, f1⟩ := bldr.wrote HK.out HN.out hg2))
  go_ret2
  exact ⟨rfl, .inr (bldr.put_at hBb K2.out (by simpa using ho2)), (bldr.own_below HO.out hb1 (by omega) hg2).setCell (p := ⟨b, 1, none⟩) hBb _, (hf1.trans (fr_wrote (b := b) HO.out hg2)).trans (Fr.setCell K2.out (.inl ⟨_, _, rfl⟩) 1 _)⟩
/-- a builder's cell, for its length. -/
theorem bld_cell {B b : Nat} {l : List UInt8} {w : World} (h : Bld B b l w) : ∃ A c, w.cell? ⟨b, 1, none⟩ = some (.slice A l.length c) := by
  have : ∃ p, Lib.BuilderAt 78 5 B b p (Lib.byteCells l) w := h.elim (fun k => ⟨_, k⟩) (fun k => ⟨_, k⟩)
  obtain ⟨p, _, v, hbk, hown, _⟩ := this
  rw [Lib.byteCells_length] at hown
  rcases hown.2 with ⟨rfl, hn⟩ | ⟨g, cap, cur, rfl, _⟩
  · exact ⟨none, 0, by rw [hn]; exact row_cell hbk 1⟩
  · exact ⟨_, _, row_cell hbk 1⟩
theorem len_at (B b : Nat) (l : List UInt8) (w : World) (h : Bld B b l w) : Calls Try.prog 39 #[.pointer (some ⟨b, 0, none⟩)] w fun e w' => e = .returned (.int .i64 (l.length : Nat)) ∧ w = w' := by
  obtain ⟨A, c, hc⟩ := bld_cell h
  clear h
  go_enter Try.func39, Try.ntmps39
  go_wp2
  go_ret
  exact ⟨rfl, rfl⟩
theorem text_at (B b : Nat) (l : List UInt8) (w : World) (h : Bld B b l w) (hB : B ≤ w.heap.size) : Calls Try.prog 41 #[.pointer (some ⟨b, 0, none⟩)] w fun e w' => e = .returned (.string (lx.B l)) ∧ Below B w w' ∧ Fr isB w w' := by
  obtain ⟨v, hbk⟩ : ∃ v, ∃ p, w.heap[b]? = some (.cells #[p, v] 78 (0, 0)) := h.elim (fun ⟨_, v, k, _⟩ => ⟨v, _, k⟩) (fun ⟨_, v, k, _⟩ => ⟨v, _, k⟩)
  obtain ⟨p, hbk⟩ := hbk
  refine (Try.Builder_String_any_k B b l w (Lib.IsBuilderF.of h) hB).mono ?_
  rintro e w' ⟨rfl, _, h2, h3⟩
  refine ⟨rfl, h2, h2.os, h2.tape, h2.output, h2.size, fun k o hk hn => h3 k o hk (fun e => ?_) (fun c fz e => hn (.inr ⟨_, _, e⟩))⟩
  injection e with e
  subst e
  rw [hbk] at hk
  injection hk with hk
  exact hn (.inl ⟨_, _, hk.symm⟩)

/-! a map of numbers by names -/
abbrev num (c : Int) : DataW Unit := .lit (.int .i64 c)
abbrev Pm (m n : Nat) (D : DataW Unit) (W : World) : Prop := W.ownsMap Try.prog 9 (plainElem Try.prog 3) m n D
theorem zeroI (w : World) : (zeroValue 3).run Try.prog w = .ok (.int .i64 0) w := by kernel_rfl
theorem lawS : Keyed Try.prog 9 := string_keyed Try.underlying9
theorem key_is {x : ByteArray} (h : x.size ≤ 1000) : keyOf Try.prog 9 (.string x) = some (.string (L x)) := Go.WideMaps.keyOf_string_mk Try.underlying9 (by unfold maxLen; omega)
theorem pm_map {m n : Nat} {D : DataW Unit} {W : World} (h : Pm m n D W) : Maps.IsMap D := by
  obtain ⟨es, clock, h1, h2, h3, h4⟩ := h
  exact ⟨_, h4⟩
theorem pm_fr {P : Obj → Prop} {m n : Nat} {D : DataW Unit} {W W' : World} (h : Pm m n D W) (hf : Fr P W W') (hn : ∀ o, isM o → ¬ P o) : Pm m n D W' := by
  obtain ⟨es, clock, h1, h2⟩ := h
  exact ⟨es, clock, hf.keep _ _ h1 (hn _ ⟨_, _, rfl⟩), h2⟩
theorem fr_put {m n : Nat} {D : DataW Unit} {W W' : World} (h : Pm m n D W) (hg : W.grownBy W' (some m)) : Fr isM W W' := by
  obtain ⟨es, clock, h1, h2⟩ := h
  refine Fr.grown hg fun g e => ?_
  injection e with e
  subst e
  exact ⟨_, h1, ⟨_, _, rfl⟩⟩
/-- the map holds where each name begins. -/
def MD (D : DataW Unit) (ds : List Nm) : Prop := ∀ x : Nm, Maps.has D (.string x) = decide (x ∈ ds) ∧ (x ∈ ds → D.atKey (.string x) (num 0) = num (st x ds : Nat))
theorem md_none : MD (.map []) [] := fun x => ⟨rfl, fun h => by cases h⟩
theorem md_put {D : DataW Unit} {ds : List Nm} (hD : Maps.IsMap D) (h : MD D ds) {x : Nm} (hx : x ∉ ds) : MD (D.put (.string x) (num ((pl ds).length : Nat))) (ds ++ [x]) := by
  intro y
  by_cases e : y = x
  · subst e
    refine ⟨?_, fun _ => ?_⟩
    · rw [Maps.has_put_same hD (show WideAt.IsKeyLit (.string y) from trivial)]
      simp
    · rw [Maps.atKey_put_same hD (show WideAt.IsKeyLit (.string y) from trivial), st_new hx]
  · have ne : (Lit.string y) ≠ .string x := fun k => e (by injection k)
    refine ⟨?_, fun hy => ?_⟩
    · rw [Maps.has_put_other ne, (h y).1]
      simp [e]
    · have hy' : y ∈ ds := by simpa [e] using hy
      rw [Maps.atKey_put_other ne, (h y).2 hy', st_app _ hy']

/-! rows of numbers -/
def IOwn (base : Nat) (W : World) (v : Value) (l : List Int) : Prop := W.ownsRow base 3 1 v l.length (l.map (Value.int .i64))
theorem infoI : (Try.prog.info? 3).map (fun i => (i.zero, i.size, i.bytes)) = some (some (.int .i64 0), 1, 8) := by kernel_rfl
theorem ints_one (l : List Int) : ∀ u ∈ l.map (Value.int .i64), u.oneCell' = true := by
  intro u hu
  obtain ⟨x, _, rfl⟩ := List.mem_map.1 hu
  rfl
theorem iown_fr {P : Obj → Prop} {base : Nat} {W W' : World} {v : Value} {l : List Int} (h : IOwn base W v l) (hf : Fr P W W') (hn : ∀ o, isI o → ¬ P o) : IOwn base W' v l := row_fr h hf (fun cs fz => hn _ ⟨_, _, rfl⟩)
theorem fr_app {base : Nat} {W W' : World} {v : Value} {l : List Int} (h : IOwn base W v l) (hg : W.grownBy W' v.ownBlock) : Fr isI W W' :=
  Fr.grown hg fun g e => by
    obtain ⟨cs, h⟩ := row_kind h g e
    exact ⟨_, h, _, _, rfl⟩
theorem iown_below {base : Nat} {w W W' : World} {v : Value} {l : List Int} (ho : IOwn base W v l) (hb : Below base w W) (hbs : base ≤ W.heap.size) (hg : W.grownBy W' v.ownBlock) : Below base w W' :=
  hb.grown hg hbs (fun k hk => (World.ownsRow.lt ho k hk).1)
/-- 'begins = append(begins, y)'. -/
theorem app_int {ops : Array Oper} {rest : List Oper} {o : Oper} {a : Act} {Q : Exit → Act → World → Prop} (hgd : o.guard = none) (s x : Operand)
    (ho : o.op = .call { callee := .builtin .append, args := #[s, x], argTypes := #[46, 46] }) (base : Nat) (W : World) (v : Value) (ls : List Int) (y : Int)
    (hs : a.eval s = v) (hx : a.eval x = .slice (some ⟨W.heap.size, 0, none⟩) 1 1) (hown : IOwn base W v ls) (hn : ls.length < 8000000000) (hbase : base ≤ W.heap.size)
    (h : ∀ v' w', IOwn base w' v' (ls ++ [y]) → W.grownBy w' v.ownBlock → wpList Try.prog ops Q rest (a.put o.dst v') w') :
    wpList Try.prog ops Q (o :: rest) a (W.alloc (.cells #[.int .i64 y] 3)) := by
  obtain ⟨i0, hi, hz0, hz1, hz2⟩ := info_parts infoI
  refine wpList_append_own _ hgd s x 46 ho base 3 i0 _ 1 8 Try.underlying46 hi hz0 hz1 hz2 rfl (by decide) v ls.length (ls.map (Value.int .i64)) hs (World.ownsRow.alloc hown _) ⟨W.heap.size, 0, none⟩ 1 1 [.int .i64 y] hx rfl (cell_one_new _ _ _) (ints_one [y]) ?_ (by omega) (by simp; omega) ?_
  · unfold maxLen; omega
  · intro v' w' h1 h2 _
    refine h v' w' ?_ ((World.grownBy_alloc W _ _).trans h2)
    unfold IOwn
    simpa using h1
/-- 'make([]int, 0, c)'. -/
theorem make_run (W : World) (c : Nat) (z : Int) (hz : z = (c : Nat)) (hc : c < 8000000000) :
    (Instr.makeSlice 46 (.int .i64 0) (.int .i64 z)).run Try.prog W = .ok (.slice (some ⟨W.heap.size, 0, none⟩) 0 c) (W.alloc (.cells (madeCells #[.int .i64 0] c) 3)) := by
  subst hz
  obtain ⟨i0, hi, hz0, hz1, hz2⟩ := info_parts infoI
  have := run_make (P := Try.prog) W 46 3 i0 _ Try.underlying46 hi hz0 .i64 .i64 0 (c : Int) (Int.le_refl _) (by omega) (by rw [hz2]; omega) (by omega)
  rw [hz1, Nat.mul_one] at this
  exact this
theorem make_own (base : Nat) (W : World) (c : Nat) (hb : base ≤ W.heap.size) (hc : c < 8000000000) : IOwn base (W.alloc (.cells (madeCells #[.int .i64 0] c) 3)) (.slice (some ⟨W.heap.size, 0, none⟩) 0 c) [] :=
  World.ownsRow_made W _ c hb (by unfold maxLen; omega) (by rw [size_madeCells, Nat.mul_one])
/-- a slice that reads as a row of numbers. -/
def Ints (w : World) (A : Option Addr) (l : List Int) : Prop :=
  l ≠ [] → ∃ b o, A = some ⟨b, o, none⟩ ∧ b < w.heap.size ∧ ∀ k (h : k < l.length), w.cell? ⟨b, o + k, none⟩ = some (.int .i64 l[k])
theorem Ints.below {w W : World} {A : Option Addr} {l : List Int} (h : Ints w A l) (hb : Below w.heap.size w W) : Ints W A l := by
  intro hl
  obtain ⟨b, o, e, hlt, hc⟩ := h hl
  exact ⟨b, o, e, Nat.lt_of_lt_of_le hlt hb.size, fun k hk => (hb.cell (p := ⟨b, o + k, none⟩) hlt).trans (hc k hk)⟩
theorem ints_none (w : World) (A : Option Addr) : Ints w A [] := fun h => absurd rfl h
theorem ints_own {w : World} {base : Nat} {v : Value} {l : List Int} (h : IOwn base w v l) : ∃ A c, v = .slice A l.length c ∧ Ints w A l ∧ l.length ≤ c ∧ ∀ g o, A = some ⟨g, o, none⟩ → base ≤ g := by
  have h0 := h
  rcases h.2 with ⟨rfl, hn⟩ | ⟨g, cap, cur, rfl, hb, hh, hnc, _⟩
  · rw [hn]
    refine ⟨none, 0, rfl, fun hl => absurd (List.eq_nil_of_length_eq_zero hn) hl, Nat.le_refl _, fun g o e => by cases e⟩
  · refine ⟨_, _, rfl, fun hl => ⟨g, 0, rfl, ?_, fun k hk => ?_⟩, hnc, fun g' o e => by cases e; exact hb⟩
    · exact hp_lt hh
    · rw [Nat.zero_add, World.ownsRow.cellAt h0 k (by omega), List.getElem?_map, List.getElem?_eq_getElem hk]
      rfl
end Go.Proofs.Ytllficloadncfaa.abr

/-
  A sheet in memory, and what laying a number on it does. Conditions: as said.
-/
namespace Go.Proofs.Ytllficloadncfaa.blk
open Go.ChangeShapes Go.WideShapes Go.ChangeAt Go.RowKit
open om mem oct bk
open abr (Fr)
set_option linter.unusedVariables false
set_option maxRecDepth 100000

/-- blocks that laying writes. -/
def isX (o : Obj) : Prop := ∃ cs fz, o = .cells cs 55 fz
def isS (o : Obj) : Prop := isX o ∨ ∃ cs fz, o = .cells cs 5 fz
theorem fr_imp {P Q : Obj → Prop} {a b : World} (h : Fr P a b) (i : ∀ o, P o → Q o) : Fr Q a b := ⟨h.os, h.tape, h.output, h.size, fun k o hk hn => h.keep k o hk fun hp => hn (i o hp)⟩
def Sh (base : Nat) (W : World) (g : Nat) (l : List Nat) (f : Bool) : Prop := base ≤ g ∧ ∃ v, W.heap[g]? = some (.cells #[v, .bool f] 55) ∧ Own base W v l
theorem sh_below {base : Nat} {W W' : World} {g : Nat} {l : List Nat} {f : Bool} (h : Sh base W g l f) (hb : Below W.heap.size W W') : Sh base W' g l f := by
  obtain ⟨h1, v, h2, h3⟩ := h
  exact ⟨h1, v, kept h2 hb, own_kept h3 hb⟩
theorem sh_drew {base : Nat} {W : World} {g : Nat} {l : List Nat} {f : Bool} (h : Sh base W g l f) (n : Nat) : Sh base (W.drewN n) g l f := sh_below h (bel_drewN (Below.refl _ _) n)
def LTold (base : Nat) (W : World) (g : Nat) (l : List Nat) (f : Bool) (e : Ending) (w' : World) : Prop :=
  e = .returned (.tuple #[]) ∧ Sh base w' g l f ∧ Below base W w' ∧ Fr isS W w'
theorem uint8_notX (cs : Array Value) (fz : Nat × Nat) : ¬ isX (.cells cs 5 fz) := by
  rintro ⟨_, _, e⟩
  cases e
theorem put_nil (n z : Int) : put [] n z = nb n z := by
  rcases e : fitB n z with _ | _
  · rw [put_no e, nb_no e]
  · rw [put_yes e, nb_yes e]; rfl
/-- behind the append: the sheet's block is as it was. -/
theorem sheet_grown {base : Nat} {W W' : World} {g : Nat} {v : Value} {f : Bool} {l : List Nat} (h : W.heap[g]? = some (.cells #[v, .bool f] 55)) (ho : Own base W v l) (hg : W.grownBy W' v.ownBlock) : W'.heap[g]? = some (.cells #[v, .bool f] 55) := by
  rw [hg.block g (hp_lt h) (fun e => by
    obtain ⟨cs, hc⟩ := abr.row_kind ho g e.symm
    rw [h] at hc
    injection hc with hc
    cases hc)]
  exact h
theorem lay_end {base : Nat} {W w1 w2 : World} {g : Nat} {v v' : Value} {f f' : Bool} {l l' : List Nat} (hg : base ≤ g) (hs : base ≤ W.heap.size) (hb : Below W.heap.size W w1) (h1 : w1.heap[g]? = some (.cells #[v, .bool f] 55)) (ho : Own base w1 v l) (h2 : w2.heap[g]? = some (.cells #[v, .bool f] 55)) (ho' : Own base w2 v' l') (hgr : w1.grownBy w2 v.ownBlock) :
    LTold base W g l' f' (.returned (.tuple #[])) ((w2.setCell ⟨g, 0, none⟩ v').setCell ⟨g, 1, none⟩ (.bool f')) := by
  have k1 : (w2.setCell ⟨g, 0, none⟩ v').heap[g]? = some (.cells #[v', .bool f] 55) := heap_setCell_same _ g 0 _ _ _ h2
  have k2 : ((w2.setCell ⟨g, 0, none⟩ v').setCell ⟨g, 1, none⟩ (.bool f')).heap[g]? = some (.cells #[v', .bool f'] 55) := heap_setCell_same _ g 1 _ _ _ k1
  have F := (Fr.setCell h2 ⟨_, _, rfl⟩ 0 v' : Fr isX _ _).trans (Fr.setCell k1 ⟨_, _, rfl⟩ 1 (.bool f'))
  have K := ((Keep.refl g w2).setCell 0 v').setCell 1 (.bool f')
  have B1 : Below base W w1 := hb.mono hs
  have B2 : Below base W w2 := own_below ho B1 (Nat.le_trans hs hb.size) hgr
  refine ⟨rfl, ⟨hg, v', k2, abr.row_fr ho' F uint8_notX⟩, ?_, ?_⟩
  · exact K.to_below B2 hg (Nat.le_trans hs B2.size)
  · refine ((Fr.below hb).trans (Fr.grown hgr fun k e => ?_)).trans (fr_imp F fun o ho => Or.inl ho)
    obtain ⟨cs, hc⟩ := abr.row_kind ho k e
    exact ⟨_, hc, Or.inr ⟨_, _, rfl⟩⟩
set_option maxHeartbeats 2000000 in
theorem lay_at (base : Nat) (W : World) (g : Nat) (l : List Nat) (f : Bool) (n s : Int) (h : Sh base W g l f) (hn : oct.I64 n) (hs : oct.I64 s) (hl : l.length < 1000000000) (hbs : base ≤ W.heap.size) : Calls Try.prog 45 #[.pointer (some ⟨g, 0, none⟩), .int .i64 n, .int .i64 s] W (LTold base W g (l ++ nb n s) (f || !fitB n s)) := by
  obtain ⟨hg, v, hb, ho⟩ := h
  obtain ⟨A, c, rfl⟩ := own_len ho
  have P : Hid (Calls Try.prog 55 #[.slice none 0 0, .int .i64 n, .int .i64 s] W fun e w' => ∃ v', e = .returned (.tuple #[v', .bool (fitB n s)]) ∧ Own W.heap.size w' v' (nb n s) ∧ Below W.heap.size W w') := Lib.hid (by
    have := put_at [] (.slice none 0 0) n s W hn hs (rd_none W) (by simp)
    unfold PutTold at this
    rw [put_nil] at this
    exact this)
  have HL : Hid (l.length + (nb n s).length < 8000000000000) := Lib.hid (by have := nb_len n s; omega)
  have KB := Lib.hid (fun w1 (h1 : Below W.heap.size W w1) => (⟨kept hb h1, own_kept ho h1⟩ : w1.heap[g]? = some (.cells #[.slice A l.length c, .bool f] 55) ∧ Own base w1 (.slice A l.length c) l))
  have E := Lib.hid (fun w1 w2 v' f' hb1 h1 h2 h3 h4 h5 => lay_end (base := base) (W := W) (w1 := w1) (w2 := w2) (g := g) (v := .slice A l.length c) (v' := v') (f := f) (f' := f') (l := l) (l' := l ++ nb n s) hg hbs hb1 h1 h2 h3 h4 h5)
  clear hb ho hn hs hl
  generalize fitB n s = ok at *
  generalize nb n s = m at *
  cases f <;> cases ok
  all_goals
    go_enter Try.func45, Try.ntmps45
    go_wp2_with (first
      | (go_at_call 55; (with_reducible refine P.out.mono ?_); rintro e w1 ⟨v1, rfl, ho1, hb1⟩; obtain ⟨A1, c1, rfl⟩ := own_len ho1; have HO1 := Lib.hid ho1; obtain ⟨k1, k2⟩ := KB.out _ hb1; have K1 := Lib.hid k1; have K2 := Lib.hid k2; have HB1 := Lib.hid hb1; have c0 := row_cell k1 0; clear k1 k2 hb1 ho1)
      | (at_builtin; (refine app_any rfl _ _ rfl base w1 (.slice A l.length c) (.slice A1 m.length c1) l m rfl rfl K2.out (own_by HO1.out).rd HL.out (Nat.le_trans hbs HB1.out.size) ?_; intro v2 w2 ho2 hg2; obtain ⟨A2, c2, rfl⟩ := own_len ho2; have h2 := sheet_grown K1.out K2.out hg2; have q0 := row_cell h2 0; have q1 := row_cell h2 1; have f0 := fz h2 0; have f1 := fz h2 1; have R := Lib.hid (fun f' => E.out w1 w2 _ f' HB1.out K1.out K2.out h2 ho2 hg2); clear c0 h2 ho2 hg2)))
    go_end0
    first
      | (have q := R.out true; rw [List.length_append] at q; exact q)
      | (have q := R.out false; rw [List.length_append] at q; exact q)
end Go.Proofs.Ytllficloadncfaa.blk

/-
  What package abbr's Right answers: may a text be the name of a local time? Condition: the text is no longer than an int can tell.
-/
namespace Go.Proofs.Ytllficloadncfaa.abr
open Go.ChangeShapes Go.WideShapes Go.ChangeAt Go.RowKit
open lx ab mem
set_option linter.unusedVariables false
set_option maxRecDepth 100000

theorem nm_all (c : Nat) : (65 ≤ c ∧ c ≤ 90 ∧ nmB c = true) ∨ (97 ≤ c ∧ c ≤ 122 ∧ nmB c = true) ∨ (48 ≤ c ∧ c ≤ 57 ∧ nmB c = true) ∨ (c = 43 ∧ nmB c = true) ∨ (c = 45 ∧ nmB c = true) ∨
    ((c < 43 ∨ c = 44 ∨ c = 46 ∨ c = 47 ∨ (58 ≤ c ∧ c ≤ 64) ∨ (91 ≤ c ∧ c ≤ 96) ∨ 123 ≤ c) ∧ nmB c = false) := by
  unfold nmB
  by_cases h1 : 65 ≤ c ∧ c ≤ 90
  · exact .inl ⟨h1.1, h1.2, by simp [h1.1, h1.2]⟩
  by_cases h2 : 97 ≤ c ∧ c ≤ 122
  · exact .inr (.inl ⟨h2.1, h2.2, by simp [h2.1, h2.2]⟩)
  by_cases h3 : 48 ≤ c ∧ c ≤ 57
  · exact .inr (.inr (.inl ⟨h3.1, h3.2, by simp [h3.1, h3.2]⟩))
  by_cases h4 : c = 43
  · exact .inr (.inr (.inr (.inl ⟨h4, by simp [h4]⟩)))
  by_cases h5 : c = 45
  · exact .inr (.inr (.inr (.inr (.inl ⟨h5, by simp [h5]⟩))))
  refine .inr (.inr (.inr (.inr (.inr ⟨by omega, ?_⟩))))
  rw [← Bool.not_eq_true]
  simp only [Bool.or_eq_true, Bool.and_eq_true, decide_eq_true_eq]
  omega
theorem name_at (c : Nat) (hc : c < 256) (w : World) : Calls Try.prog 53 #[.int .u8 (c : Nat)] w fun e w' => e = .returned (.bool (nmB c)) ∧ w = w' := by
  rcases nm_all c with ⟨h1, h2, e⟩ | ⟨h1, h2, e⟩ | ⟨h1, h2, e⟩ | ⟨rfl, e⟩ | ⟨rfl, e⟩ | ⟨h, e⟩
  case inr.inr.inr.inr.inr =>
    rw [e]
    clear e
    rcases h with h | rfl | rfl | rfl | ⟨h1, h2⟩ | ⟨h1, h2⟩ | h
    all_goals
      go_enter Try.func53, Try.ntmps53
      go_wp2
      go_ret
      exact ⟨rfl, rfl⟩
  all_goals
    rw [e]
    clear e
    go_enter Try.func53, Try.ntmps53
    go_wp2
    go_ret
    exact ⟨rfl, rfl⟩
def RHead (s : ByteArray) (t : Value) : Prop := ∃ k : Nat, k ≤ s.size ∧ t = .int .i64 (k : Nat) ∧ alB s k
set_option maxHeartbeats 1000000 in
theorem right_at (s : ByteArray) (w : World) (hs : s.size ≤ 9223372036854775807) : Calls Try.prog 38 #[.string s] w fun e w' => e = .returned (.bool (rt (L s))) ∧ w = w' := by
  by_cases h1 : s.size < 3
  · have R := Lib.hid (rt_few (s := s) (.inl h1))
    go_enter Try.func38, Try.ntmps38
    go_wp2
    go_ret
    exact ⟨by rw [R.out]; rfl, rfl⟩
  · by_cases h2 : 16 < s.size
    · have R := Lib.hid (rt_few (s := s) (.inr h2))
      go_enter Try.func38, Try.ntmps38
      go_wp2
      go_ret
      exact ⟨by rw [R.out]; rfl, rfl⟩
    · have NB := Lib.hid (fun c (hc : c < 256) w => name_at c hc w)
      go_enter Try.func38, Try.ntmps38
      go_wp2
      go_loop [14] (fun t => RHead s t) (fun t => s.size - (intOf t).toNat)
      case atStart => exact ⟨0, by omega, rfl, fun j hj => absurd hj (Nat.not_lt_zero _)⟩
      case round =>
        obtain ⟨k, hk, rfl, ha⟩ := hrel
        by_cases hlt : k < s.size
        · have b1 := bt_at s k hlt
          have b2 := bt_lt s k
          cases hq : nmB (bt s k) with
          | true =>
            have R : Hid (RHead s (.int .i64 ((k : Int) + 1))) := ⟨k + 1, hlt, rfl, fun j hj => by
              rcases Nat.lt_or_ge j k with h | h
              · exact ha j h
              · obtain rfl : j = k := by omega
                exact hq⟩
            have C : Hid (Calls Try.prog 53 #[.int .u8 (bt s k : Nat)] w fun e w' => e = .returned (.bool true) ∧ w = w') := by rw [← hq]; exact name_at _ b2 w
            clear ha hq
            go_wp2_with (go_at_call 53; (with_reducible refine C.out.mono ?_); rintro e w' ⟨rfl, rfl⟩)
            go_round
            case rel => exact R.out
            case measure => simp [intOf]; omega
          | false =>
            have R := Lib.hid (rt_no hlt hq)
            have C : Hid (Calls Try.prog 53 #[.int .u8 (bt s k : Nat)] w fun e w' => e = .returned (.bool false) ∧ w = w') := by rw [← hq]; exact name_at _ b2 w
            clear ha hq
            go_wp2_with (go_at_call 53; (with_reducible refine C.out.mono ?_); rintro e w' ⟨rfl, rfl⟩)
            go_ret
            exact ⟨by rw [R.out]; rfl, rfl⟩
        · obtain rfl : k = s.size := by omega
          have R := Lib.hid (rt_yes (by omega) (by omega) ha)
          clear ha
          go_wp2
          go_ret
          exact ⟨by rw [R.out]; rfl, rfl⟩
/-- .. in Int's words. -/
theorem right_on {w W : World} (hb : Below w.heap.size w W) (s : ByteArray) (hs : s.size ≤ 9223372036854775807) : Calls Try.prog 38 #[.string s] W fun e w' => e = .returned (.bool (rt (L s))) ∧ W = w' := right_at s W hs
end Go.Proofs.Ytllficloadncfaa.abr
