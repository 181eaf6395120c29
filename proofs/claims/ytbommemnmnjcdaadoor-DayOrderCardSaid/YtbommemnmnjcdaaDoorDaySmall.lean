/-
  The small case that each statement of layer 3 begins with comes out true, where the two tables of package day hold what their initialisers lay. Conditions: those tables.
-/
import Derived.Test.YtbommemnmnjcdaaDoorDayDate
namespace Go.Proofs.YtbommemnmnjcdaaDoor.day
open Go.ChangeShapes Go.WideShapes Go.ChangeAt Go.RowKit
open cal
set_option linter.unusedVariables false

set_option maxRecDepth 100000 in
set_option maxHeartbeats 4000000 in
theorem small_true {w : World} (T : Tabs w) (W : World) (hb0 : Below w.heap.size w W) :
    Calls Tryd.prog 7 #[] W fun e w' => e = .returned (.bool true) ∧ Below w.heap.size w w' := by
  have N1 := Lib.hid (fun W hb => number_on T W hb 1972 6 30 911 (by decide) (by decide))
  have N2 := Lib.hid (fun W hb => number_on T W hb 1 1 1 (-719162) (by decide) (by decide))
  have N3 := Lib.hid (fun W hb => number_on T W hb 9999 12 31 2932896 (by decide) (by decide))
  have N4 := Lib.hid (fun W hb => number_off T W hb 1900 2 29 (by decide))
  have N5 := Lib.hid (fun W hb => number_on T W hb 2000 2 29 11016 (by decide) (by decide))
  have D1 := Lib.hid (fun W hb => date_on T W hb 1972 6 30 911 (by decide) (by decide))
  have D2 := Lib.hid (fun W hb => date_off T W hb 2932897 (by omega))
  have L1 := Lib.hid (fun W hb => last_on T W hb 2024 2 (by omega) (by omega) (by omega) (by omega))
  rw [show dim 2024 2 = 29 by decide] at L1
  have E1 := Lib.hid (fun W hb => end_on T W hb 1972 6 30 911 (by decide) (by decide) true (by decide))
  have E2 := Lib.hid (fun W hb => end_on T W hb 1972 7 1 912 (by decide) (by decide) false (by decide))
  have W1 := Lib.hid (fun W hb => week_on T W hb 0 4 ⟨by omega, by omega⟩ (by decide))
  have W2 := Lib.hid (fun W hb => week_on T W hb (-5) 6 ⟨by omega, by omega⟩ (by decide))
  have Y1 := Lib.hid (fun W hb => leap_on T W hb 2000)
  have Y2 := Lib.hid (fun W hb => leap_on T W hb 1900)
  rw [show leapB 2000 = true by decide] at Y1
  rw [show leapB 1900 = false by decide] at Y2
  clear T
  go_enter Tryd.func7, Tryd.ntmps7
  go_wp2_with (first
    | (go_at_call 9; (first | (with_reducible refine (N1.out _ (by assumption)).mono ?_; rintro e w1 ⟨rfl, hb1⟩) | (with_reducible refine (N2.out _ (by assumption)).mono ?_; rintro e w2 ⟨rfl, hb2⟩) | (with_reducible refine (N3.out _ (by assumption)).mono ?_; rintro e w3 ⟨rfl, hb3⟩) | (with_reducible refine (N4.out _ (by assumption)).mono ?_; rintro e w4 ⟨rfl, hb4⟩) | (with_reducible refine (N5.out _ (by assumption)).mono ?_; rintro e w5 ⟨rfl, hb5⟩)))
    | (go_at_call 8; (first | (with_reducible refine (D1.out _ (by assumption)).mono ?_; rintro e w6 ⟨rfl, hb6⟩) | (with_reducible refine (D2.out _ (by assumption)).mono ?_; rintro e w7 ⟨rfl, hb7⟩)))
    | (go_at_call 10; (with_reducible refine (L1.out _ (by assumption)).mono ?_; rintro e w8 ⟨rfl, hb8⟩))
    | (go_at_call 12; (first | (with_reducible refine (E1.out _ (by assumption)).mono ?_; rintro e w9 ⟨rfl, hb9⟩) | (with_reducible refine (E2.out _ (by assumption)).mono ?_; rintro e w10 ⟨rfl, hb10⟩)))
    | (go_at_call 11; (first | (with_reducible refine (W1.out _ (by assumption)).mono ?_; rintro e w11 ⟨rfl, hb11⟩) | (with_reducible refine (W2.out _ (by assumption)).mono ?_; rintro e w12 ⟨rfl, hb12⟩)))
    | (go_at_call 13; (first | (with_reducible refine (Y1.out _ (by assumption)).mono ?_; rintro e w13 ⟨rfl, hb13⟩) | (with_reducible refine (Y2.out _ (by assumption)).mono ?_; rintro e w14 ⟨rfl, hb14⟩))))
  go_ret
  exact ⟨rfl, by assumption⟩
end Go.Proofs.YtbommemnmnjcdaaDoor.day
