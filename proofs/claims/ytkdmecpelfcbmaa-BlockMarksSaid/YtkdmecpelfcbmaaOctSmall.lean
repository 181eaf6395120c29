/-
  The small case of layer 13's statements comes out true. No condition.
-/
import Derived.Test.YtkdmecpelfcbmaaOctUse
import Derived.Lib.SmallJoins
namespace Go.Proofs.Ytkdmecpelfcbmaa.oct
open Go.ChangeShapes Go.WideShapes Go.ChangeAt Go.RowKit
open om mem
set_option linter.unusedVariables false
set_option maxRecDepth 100000

/-- bytes that lie in a world's blocks. -/
def Old (W : World) (v : Value) (l : List Nat) : Prop := By (fun b => b < W.heap.size) W v l
theorem Old.below {W W' : World} {v : Value} {l : List Nat} (h : Old W v l) (hb : Below W.heap.size W W') : Old W' v l :=
  By.imp (By.below h hb) (fun b hb' => Nat.lt_of_lt_of_le hb' hb.size) fun _ _ _ _ h => h
theorem Old.keep {W W' : World} {v : Value} {l : List Nat} (h : Old W v l) {g : Nat} (hk : Keep g W W') (hg : W.heap.size ≤ g) : Old W' v l :=
  By.imp (By.keep h hk (fun b hb => by omega)) (fun b hb' => Nat.lt_of_lt_of_le hb' hk.size) fun _ _ _ _ h => h
theorem own_old {base : Nat} {W : World} {v : Value} {l : List Nat} (h : Own base W v l) : Old W v l :=
  By.imp (own_by h) (fun b hb => hb.2) fun _ _ _ _ h => h
theorem lit_rd (W : World) (cs : Array Value) (l : List Nat) (n : Nat) (hn' : n = l.length) (h : cs.toList = bc l) (hn : l.length < 1000) : RdW (W.alloc (.cells cs 5)) (.slice (some ⟨W.heap.size, 0, none⟩) n n) l := by
  subst hn'; exact (own_by (own_lit W.heap.size W cs l (Nat.le_refl _) h hn)).rd
theorem lit_rd2 (W : World) (cs : Array Value) (l : List Nat) (n : Nat) (fr : Nat × Nat) (hn' : n = l.length) (h : cs.toList = bc l) : RdW (W.alloc (.cells cs 5 fr)) (.slice (some ⟨W.heap.size, 0, none⟩) n n) l := by
  subst hn'
  refine ⟨_, _, rfl, Nat.le_refl _, (fun h => by cases h), fun _ => ⟨W.heap.size, 0, rfl, fun k hk => ?_⟩⟩
  rw [Nat.zero_add, row_cell (hp_new W (.cells cs 5 fr)) k, ← Array.getElem?_toList, h]
  simp [bc, hk]
theorem bys_lit {l : List Nat} (h : l.all (fun x => decide (x < 256)) = true) : Bys l := fun x hx => by simpa using List.all_eq_true.1 h x hx
/-- bytes that lie below a place. -/
def Lo (M : Nat) (W : World) (v : Value) (l : List Nat) : Prop := By (fun b => b < M) W v l
theorem Lo.below {M : Nat} {W W' : World} {v : Value} {l : List Nat} (h : Lo M W v l) (hb : Below W.heap.size W W') : Lo M W' v l := By.below h hb
theorem Lo.keep {M : Nat} {W W' : World} {v : Value} {l : List Nat} (h : Lo M W v l) {g : Nat} (hk : Keep g W W') (hg : M ≤ g) : Lo M W' v l := By.keep h hk (fun b hb => by omega)
end Go.Proofs.Ytkdmecpelfcbmaa.oct
