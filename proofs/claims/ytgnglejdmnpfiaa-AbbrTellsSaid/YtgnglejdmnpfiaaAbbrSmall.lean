/-
  The small case that each statement of layer 14 begins with comes out true. Condition: the library's variable MaxLen holds some number.
-/
import Derived.Test.YtgnglejdmnpfiaaAbbrPool
import Derived.Test.YtgnglejdmnpfiaaAbbrAt
import Derived.Test.YtgnglejdmnpfiaaRef14Ints
namespace Go.Proofs.Ytgnglejdmnpfiaa.abr
open Go.ChangeShapes Go.WideShapes Go.ChangeAt Go.RowKit
open lx ab mem
set_option linter.unusedVariables false
set_option maxRecDepth 100000

theorem strs_lit (W : World) (l : List ByteArray) (cs : Array Value) (hcs : cs = (l.map Value.string).toArray) : lines.Strs (W.alloc (.cells cs 9)) (some ⟨W.heap.size, 0, none⟩) l := by
  intro hl
  refine ⟨W.heap.size, 0, rfl, by simp, fun k hk => ?_⟩
  rw [cell_of_row _ W.heap.size (0 + k) cs 9 (0, 0) (heap_alloc_new W _), hcs]
  simp [hk]
theorem pool3 (W : World) (c : Nat) : Calls Try.prog 8 #[.slice (some ⟨W.heap.size, 0, none⟩) 3 c] (W.alloc (.cells #[.string ⟨#[69, 83, 84]⟩, .string ⟨#[69, 68, 84]⟩, .string ⟨#[69, 83, 84]⟩] 9))
    fun e w' => (∃ A c, e = .returned (.tuple #[.string ⟨#[69, 83, 84, 0, 69, 68, 84, 0]⟩, .slice A 3 c, .bool true]) ∧ Ints w' A [0, 4, 0]) ∧ Below W.heap.size W w' := by
  have := pool_at [⟨#[69, 83, 84]⟩, ⟨#[69, 68, 84]⟩, ⟨#[69, 83, 84]⟩] _ c _ (strs_lit W _ #[.string ⟨#[69, 83, 84]⟩, .string ⟨#[69, 68, 84]⟩, .string ⟨#[69, 83, 84]⟩] rfl) (by decide) (by decide)
  refine this.mono ?_
  rintro e w' ⟨A, c, he, hi, hb⟩
  exact ⟨⟨A, c, he, hi⟩, btr (bal (Below.refl _ _) _) hb⟩
theorem pool1 (W : World) (c : Nat) : Calls Try.prog 8 #[.slice (some ⟨W.heap.size, 0, none⟩) 1 c] (W.alloc (.cells #[.string ⟨#[69, 83]⟩] 9))
    fun e w' => (∃ A c, e = .returned (.tuple #[.string ⟨#[]⟩, .slice A 0 c, .bool false])) ∧ Below W.heap.size W w' := by
  have := pool_at [⟨#[69, 83]⟩] _ c _ (strs_lit W _ #[.string ⟨#[69, 83]⟩] rfl) (by decide) (by decide)
  refine this.mono ?_
  rintro e w' ⟨A, c, he, hi, hb⟩
  exact ⟨⟨A, c, he⟩, btr (bal (Below.refl _ _) _) hb⟩
theorem at_lit {w W : World} (T : lines.ML w) (hb : Below w.heap.size w W) (s : ByteArray) (a : Int) (t : ByteArray) (r : Bool) (ha : -9223372036854775808 ≤ a ∧ a ≤ 9223372036854775807) (hs : s.size < 4294967281) (h1 : B (aS (L s) a) = t) (h2 : aB (L s) a = r) :
    Calls Try.prog 10 #[.string s, .int .i64 a] W fun e w' => e = .returned (.tuple #[.string t, .bool r]) ∧ Below W.heap.size W w' := by
  subst h1 h2
  exact at_at s a ha W (T.below hb) hs
set_option maxRecDepth 100000 in
set_option maxHeartbeats 4000000 in
theorem small_at (w : World) (T : lines.ML w) : Calls Try.prog 7 #[] w fun e w' => e = .returned (.bool true) ∧ Below w.heap.size w w' := by
  have P3 := Lib.hid (fun W c => pool3 W c)
  have P1 := Lib.hid (fun W c => pool1 W c)
  have I3 := Lib.hid (fun W A c c' (h : Ints W A [0, 4, 0]) => ref14.ints3 0 4 0 A c c' h)
  have A1 := Lib.hid (fun W (hb : Below w.heap.size w W) => at_lit T hb ⟨#[69, 83, 84, 0, 69, 68, 84, 0]⟩ 4 ⟨#[69, 68, 84]⟩ true (by decide) (by decide) (by decide) (by decide))
  have A2 := Lib.hid (fun W (hb : Below w.heap.size w W) => at_lit T hb ⟨#[69, 83, 84, 0, 69, 68, 84, 0]⟩ 8 ⟨#[]⟩ false (by decide) (by decide) (by decide) (by decide))
  have A3 := Lib.hid (fun W (hb : Below w.heap.size w W) => at_lit T hb ⟨#[76, 77, 84, 88, 0]⟩ 1 ⟨#[77, 84, 88]⟩ true (by decide) (by decide) (by decide) (by decide))
  have A4 := Lib.hid (fun W (hb : Below w.heap.size w W) => at_lit T hb ⟨#[69, 83, 84]⟩ 0 ⟨#[]⟩ false (by decide) (by decide) (by decide) (by decide))
  have R1 : Hid (∀ W, Calls Try.prog 13 #[.string ⟨#[43, 48, 53, 51, 48]⟩] W fun e w' => e = .returned (.bool true) ∧ W = w') := fun W => right_at ⟨#[43, 48, 53, 51, 48]⟩ W (by decide)
  have R2 : Hid (∀ W, Calls Try.prog 13 #[.string ⟨#[69, 95, 84]⟩] W fun e w' => e = .returned (.bool false) ∧ W = w') := fun W => right_at ⟨#[69, 95, 84]⟩ W (by decide)
  have R3 : Hid (∀ W, Calls Try.prog 13 #[.string ⟨#[]⟩] W fun e w' => e = .returned (.bool false) ∧ W = w') := fun W => right_at ⟨#[]⟩ W (by decide)
  have hA : Below w.heap.size w w := Below.refl _ _
  clear T
  go_enter Try.func7, Try.ntmps7
  go_wp2_with (first
    | (go_at_call 8; first
        | ((with_reducible refine (P3.out _ _).mono ?_); rintro e w1 ⟨⟨A1', c1', rfl, hi⟩, hb⟩; have HI := Lib.hid hi; clear hi; replace hA := btr hA hb)
        | ((with_reducible refine (P1.out _ _).mono ?_); rintro e w2 ⟨⟨A2', c2', rfl⟩, hb⟩; replace hA := btr hA hb; replace HI := Lib.hid (HI.out.below hb)))
    | (go_at_call 10; first
        | ((with_reducible refine (A1.out _ hA).mono ?_); rintro e w3 ⟨rfl, hb⟩; replace hA := btr hA hb; replace HI := Lib.hid (HI.out.below hb))
        | ((with_reducible refine (A2.out _ hA).mono ?_); rintro e w4 ⟨rfl, hb⟩; replace hA := btr hA hb; replace HI := Lib.hid (HI.out.below hb))
        | ((with_reducible refine (A3.out _ hA).mono ?_); rintro e w5 ⟨rfl, hb⟩; replace hA := btr hA hb; replace HI := Lib.hid (HI.out.below hb))
        | ((with_reducible refine (A4.out _ hA).mono ?_); rintro e w6 ⟨rfl, hb⟩; replace hA := btr hA hb; replace HI := Lib.hid (HI.out.below hb)))
    | (go_at_call 13; first
        | ((with_reducible refine (R1.out _).mono ?_); rintro e w' ⟨rfl, rfl⟩)
        | ((with_reducible refine (R2.out _).mono ?_); rintro e w' ⟨rfl, rfl⟩)
        | ((with_reducible refine (R3.out _).mono ?_); rintro e w' ⟨rfl, rfl⟩))
    | (go_at_call 12; (with_reducible refine (I3.out _ _ _ _ HI.out).mono ?_); rintro e w7 ⟨rfl, hb⟩; replace hA := btr hA hb))
  go_ret
  exact ⟨rfl, hA⟩
end Go.Proofs.Ytgnglejdmnpfiaa.abr
