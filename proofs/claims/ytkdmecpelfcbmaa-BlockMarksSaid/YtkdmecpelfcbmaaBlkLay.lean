/-
  A sheet in memory, and what laying a number on it does. Conditions: as said.
-/
import Derived.Test.YtkdmecpelfcbmaaBlkMem
import Derived.Test.YtkdmecpelfcbmaaAbbrMem
namespace Go.Proofs.Ytkdmecpelfcbmaa.blk
open Go.ChangeShapes Go.WideShapes Go.ChangeAt Go.RowKit
open om mem oct bk
open abr (Fr)
set_option linter.unusedVariables false
set_option maxRecDepth 100000

/-- blocks that laying writes. -/
def isX (o : Obj) : Prop := ∃ cs fz, o = .cells cs 58 fz
def isS (o : Obj) : Prop := isX o ∨ ∃ cs fz, o = .cells cs 5 fz
theorem fr_imp {P Q : Obj → Prop} {a b : World} (h : Fr P a b) (i : ∀ o, P o → Q o) : Fr Q a b := ⟨h.os, h.tape, h.output, h.size, fun k o hk hn => h.keep k o hk fun hp => hn (i o hp)⟩
def Sh (base : Nat) (W : World) (g : Nat) (l : List Nat) (f : Bool) : Prop := base ≤ g ∧ ∃ v, W.heap[g]? = some (.cells #[v, .bool f] 58) ∧ Own base W v l
theorem sh_below {base : Nat} {W W' : World} {g : Nat} {l : List Nat} {f : Bool} (h : Sh base W g l f) (hb : Below W.heap.size W W') : Sh base W' g l f := by
  obtain ⟨h1, v, h2, h3⟩ := h
  exact ⟨h1, v, kept h2 hb, own_kept h3 hb⟩
theorem sh_drew {base : Nat} {W : World} {g : Nat} {l : List Nat} {f : Bool} (h : Sh base W g l f) (n : Nat) : Sh base (W.drewN n) g l f := sh_below h (bel_drewN (Below.refl _ _) n)
def LTold (base : Nat) (W : World) (g : Nat) (l : List Nat) (f : Bool) (e : Ending) (w' : World) : Prop :=
  e = .returned (.tuple #[]) ∧ Sh base w' g l f ∧ Below base W w' ∧ Fr isS W w'
theorem uint8_notX (cs : Array Value) (fz : Nat × Nat) : ¬ isX (.cells cs 5 fz) := by
  rintro ⟨_, _, e⟩
  cases e
theorem put_nil (n z : Int) : put [] n z = nb n z := by
  rcases e : fitB n z with _ | _
  · rw [put_no e, nb_no e]
  · rw [put_yes e, nb_yes e]; rfl
/-- behind the append: the sheet's block is as it was. -/
theorem sheet_grown {base : Nat} {W W' : World} {g : Nat} {v : Value} {f : Bool} {l : List Nat} (h : W.heap[g]? = some (.cells #[v, .bool f] 58)) (ho : Own base W v l) (hg : W.grownBy W' v.ownBlock) : W'.heap[g]? = some (.cells #[v, .bool f] 58) := by
  rw [hg.block g (hp_lt h) (fun e => by
    obtain ⟨cs, hc⟩ := abr.row_kind ho g e.symm
    rw [h] at hc
    injection hc with hc
    cases hc)]
  exact h
theorem lay_end {base : Nat} {W w1 w2 : World} {g : Nat} {v v' : Value} {f f' : Bool} {l l' : List Nat} (hg : base ≤ g) (hs : base ≤ W.heap.size) (hb : Below W.heap.size W w1) (h1 : w1.heap[g]? = some (.cells #[v, .bool f] 58)) (ho : Own base w1 v l) (h2 : w2.heap[g]? = some (.cells #[v, .bool f] 58)) (ho' : Own base w2 v' l') (hgr : w1.grownBy w2 v.ownBlock) :
    LTold base W g l' f' (.returned (.tuple #[])) ((w2.setCell ⟨g, 0, none⟩ v').setCell ⟨g, 1, none⟩ (.bool f')) := by
  have k1 : (w2.setCell ⟨g, 0, none⟩ v').heap[g]? = some (.cells #[v', .bool f] 58) := heap_setCell_same _ g 0 _ _ _ h2
  have k2 : ((w2.setCell ⟨g, 0, none⟩ v').setCell ⟨g, 1, none⟩ (.bool f')).heap[g]? = some (.cells #[v', .bool f'] 58) := heap_setCell_same _ g 1 _ _ _ k1
  have F := (Fr.setCell h2 ⟨_, _, rfl⟩ 0 v' : Fr isX _ _).trans (Fr.setCell k1 ⟨_, _, rfl⟩ 1 (.bool f'))
  have K := ((Keep.refl g w2).setCell 0 v').setCell 1 (.bool f')
  have B1 : Below base W w1 := hb.mono hs
  have B2 : Below base W w2 := own_below ho B1 (Nat.le_trans hs hb.size) hgr
  refine ⟨rfl, ⟨hg, v', k2, abr.row_fr ho' F uint8_notX⟩, ?_, ?_⟩
  · exact K.to_below B2 hg (Nat.le_trans hs B2.size)
  · refine ((Fr.below hb).trans (Fr.grown hgr fun k e => ?_)).trans (fr_imp F fun o ho => Or.inl ho)
    obtain ⟨cs, hc⟩ := abr.row_kind ho k e
    exact ⟨_, hc, Or.inr ⟨_, _, rfl⟩⟩
set_option maxHeartbeats 2000000 in
theorem lay_at (base : Nat) (W : World) (g : Nat) (l : List Nat) (f : Bool) (n s : Int) (h : Sh base W g l f) (hn : oct.I64 n) (hs : oct.I64 s) (hl : l.length < 1000000000) (hbs : base ≤ W.heap.size) : Calls Try.prog 49 #[.pointer (some ⟨g, 0, none⟩), .int .i64 n, .int .i64 s] W (LTold base W g (l ++ nb n s) (f || !fitB n s)) := by
  obtain ⟨hg, v, hb, ho⟩ := h
  obtain ⟨A, c, rfl⟩ := own_len ho
  have P : Hid (Calls Try.prog 59 #[.slice none 0 0, .int .i64 n, .int .i64 s] W fun e w' => ∃ v', e = .returned (.tuple #[v', .bool (fitB n s)]) ∧ Own W.heap.size w' v' (nb n s) ∧ Below W.heap.size W w') := Lib.hid (by
    have := put_at [] (.slice none 0 0) n s W hn hs (rd_none W) (by simp)
    unfold PutTold at this
    rw [put_nil] at this
    exact this)
  have HL : Hid (l.length + (nb n s).length < 8000000000000) := Lib.hid (by have := nb_len n s; omega)
  have KB := Lib.hid (fun w1 (h1 : Below W.heap.size W w1) => (⟨kept hb h1, own_kept ho h1⟩ : w1.heap[g]? = some (.cells #[.slice A l.length c, .bool f] 58) ∧ Own base w1 (.slice A l.length c) l))
  have E := Lib.hid (fun w1 w2 v' f' hb1 h1 h2 h3 h4 h5 => lay_end (base := base) (W := W) (w1 := w1) (w2 := w2) (g := g) (v := .slice A l.length c) (v' := v') (f := f) (f' := f') (l := l) (l' := l ++ nb n s) hg hbs hb1 h1 h2 h3 h4 h5)
  clear hb ho hn hs hl
  generalize fitB n s = ok at *
  generalize nb n s = m at *
  cases f <;> cases ok
  all_goals
    go_enter Try.func49, Try.ntmps49
    go_wp2_with (first
      | (go_at_call 59; (with_reducible refine P.out.mono ?_); rintro e w1 ⟨v1, rfl, ho1, hb1⟩; obtain ⟨A1, c1, rfl⟩ := own_len ho1; have HO1 := Lib.hid ho1; obtain ⟨k1, k2⟩ := KB.out _ hb1; have K1 := Lib.hid k1; have K2 := Lib.hid k2; have HB1 := Lib.hid hb1; have c0 := row_cell k1 0; clear k1 k2 hb1 ho1)
      | (at_builtin; (refine app_any rfl _ _ rfl base w1 (.slice A l.length c) (.slice A1 m.length c1) l m rfl rfl K2.out (own_by HO1.out).rd HL.out (Nat.le_trans hbs HB1.out.size) ?_; intro v2 w2 ho2 hg2; obtain ⟨A2, c2, rfl⟩ := own_len ho2; have h2 := sheet_grown K1.out K2.out hg2; have q0 := row_cell h2 0; have q1 := row_cell h2 1; have f0 := fz h2 0; have f1 := fz h2 1; have R := Lib.hid (fun f' => E.out w1 w2 _ f' HB1.out K1.out K2.out h2 ho2 hg2); clear c0 h2 ho2 hg2)))
    go_end0
    first
      | (have q := R.out true; rw [List.length_append] at q; exact q)
      | (have q := R.out false; rw [List.length_append] at q; exact q)
end Go.Proofs.Ytkdmecpelfcbmaa.blk
