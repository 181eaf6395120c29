/-
  What the document's own Ints of layer 14 answers of two slices that read alike. Condition: as said.
-/
import Derived.Test.YtgnglejdmnpfiaaAbbrMem
namespace Go.Proofs.Ytgnglejdmnpfiaa.ref14
open Go.ChangeShapes Go.WideShapes Go.ChangeAt Go.RowKit
open lx ab mem abr
set_option linter.unusedVariables false
set_option maxRecDepth 100000

def EHead (n : Nat) (w : World) (i : Value) (W : World) : Prop := ∃ k d : Nat, k ≤ n ∧ i = .int .i64 k ∧ W = w.drewN d
set_option maxHeartbeats 1000000 in
theorem ints_at (W : World) (l : List Int) (A A' : Option Addr) (c c' : Nat) (hl : l.length < 4294967281) (h : Ints W A l) (h' : Ints W A' l) :
    Calls Try.prog 12 #[.slice A l.length c, .slice A' l.length c'] W fun e w' => e = .returned (.bool true) ∧ Below W.heap.size W w' := by
  go_enter Try.func12, Try.ntmps12
  go_wp2
  go_loopw [5] (fun i w' => EHead l.length W i w') (fun i _ => l.length - (intOf i).toNat)
  case atStart => exact ⟨0, 0, by omega, rfl, rfl⟩
  case round =>
    obtain ⟨k, d, hk, rfl, rfl⟩ := hrel
    by_cases hlt : k < l.length
    · have hne : l ≠ [] := by rintro rfl; simp at hlt
      obtain ⟨b, o, rfl, hb, hc⟩ := h hne
      obtain ⟨b', o', rfl, hb', hc'⟩ := h' hne
      have g := hc k hlt
      have g' := hc' k hlt
      clear h h' hc hc'
      generalize l[k] = x at *
      go_wp2
      go_quiet (fail)
      go_wp2
      go_roundw
      case rel => exact ⟨k + 1, _, by omega, by go_num, rfl⟩
      case measure => simp [intOf]; omega
    · clear h h'
      go_wp2
      go_ret
      exact ⟨rfl, bel_drewN (Below.refl _ _) d⟩
theorem ints_n (W : World) (n : Nat) (l : List Int) (hn : l.length = n) (A A' : Option Addr) (c c' : Nat) (hl : n < 4294967281) (h : Ints W A l) (h' : Ints W A' l) :
    Calls Try.prog 12 #[.slice A n c, .slice A' n c'] W fun e w' => e = .returned (.bool true) ∧ Below W.heap.size W w' := by
  subst hn
  exact ints_at W l A A' c c' hl h h'
theorem ints_lit (W : World) (l : List Int) (cs : Array Value) (hcs : cs = (l.map (Value.int .i64)).toArray) : Ints (W.alloc (.cells cs 3)) (some ⟨W.heap.size, 0, none⟩) l := by
  intro hl
  refine ⟨W.heap.size, 0, rfl, by simp, fun k hk => ?_⟩
  rw [cell_of_row _ W.heap.size (0 + k) cs 3 (0, 0) (heap_alloc_new W _), hcs]
  simp [hk]
theorem ints3 {W : World} (x y z : Int) (A : Option Addr) (c c' : Nat) (h : Ints W A [x, y, z]) :
    Calls Try.prog 12 #[.slice A 3 c, .slice (some ⟨W.heap.size, 0, none⟩) 3 c'] (W.alloc (.cells #[.int .i64 x, .int .i64 y, .int .i64 z] 3)) fun e w' => e = .returned (.bool true) ∧ Below W.heap.size W w' :=
  (ints_n _ 3 [x, y, z] rfl _ _ _ _ (by decide) (h.below (bal (Below.refl _ _) _)) (ints_lit _ _ _ rfl)).mono fun _ _ ⟨h1, h2⟩ => ⟨h1, btr (bal (Below.refl _ _) _) h2⟩
end Go.Proofs.Ytgnglejdmnpfiaa.ref14
