/-
  The small case that each statement of layer 4 begins with comes out true, where the tables of package day and the library's table of powers of ten hold what their initialisers lay. Conditions: those tables.
-/
import Derived.Test.YtmohcjnpcnbjkaaDoorStampParse
namespace Go.Proofs.YtmohcjnpcnbjkaaDoor.stamp
open Go.ChangeShapes Go.WideShapes Go.ChangeAt Go.RowKit
open cal stx
set_option linter.unusedVariables false

theorem parse_wrong {w : World} (T : Tb w) (W : World) (hb : Below w.heap.size w W) (y m d h i x : Int) (b : Six y m d h i x) (no : ¬ (Vld y m d ∧ Clk h i x)) :
    Calls Tryd.prog 15 #[.string (txt y m d h i x)] W fun e w' => e = .returned (.tuple #[.int .i64 0, .int .i64 0, .bool false]) ∧ Below w.heap.size w w' := by
  refine parse_off T W hb _ (by rw [txt_size]; omega) fun y' m' d' h' i' x' v c e => no ?_
  obtain ⟨rfl, rfl, rfl, rfl, rfl, rfl⟩ := txt_inj b (six_of v c) e
  exact ⟨v, c⟩
set_option maxRecDepth 100000 in
set_option maxHeartbeats 4000000 in
theorem small_true {w : World} (T : Tb w) (W : World) (hb0 : Below w.heap.size w W) :
    Calls Tryd.prog 8 #[] W fun e w' => e = .returned (.bool true) ∧ Below w.heap.size w w' := by
  have A := Lib.hid (fun W hb => text_on T W hb 2016 12 31 23 59 60 17166 86400 (by decide) (by decide) (by decide) (by decide))
  rw [show txt 2016 12 31 23 59 60 = ⟨#[50, 48, 49, 54, 45, 49, 50, 45, 51, 49, 84, 50, 51, 58, 53, 57, 58, 54, 48, 90]⟩ by decide] at A
  have P1 := Lib.hid (fun W hb => parse_on T W hb 1972 6 30 23 59 59 911 86399 (by decide) (by decide) (by decide) (by decide))
  rw [show txt 1972 6 30 23 59 59 = ⟨#[49, 57, 55, 50, 45, 48, 54, 45, 51, 48, 84, 50, 51, 58, 53, 57, 58, 53, 57, 90]⟩ by decide] at P1
  have P2 := Lib.hid (fun W hb => parse_wrong T W hb 1972 6 31 0 0 0 (by unfold Six; omega) (by decide))
  rw [show txt 1972 6 31 0 0 0 = ⟨#[49, 57, 55, 50, 45, 48, 54, 45, 51, 49, 84, 48, 48, 58, 48, 48, 58, 48, 48, 90]⟩ by decide] at P2
  have P3 := Lib.hid (fun W hb => parse_wrong T W hb 1972 6 30 22 59 60 (by unfold Six; omega) (by decide))
  rw [show txt 1972 6 30 22 59 60 = ⟨#[49, 57, 55, 50, 45, 48, 54, 45, 51, 48, 84, 50, 50, 58, 53, 57, 58, 54, 48, 90]⟩ by decide] at P3
  have B := Lib.hid (fun W hb => text_off T W hb 0 (-1) (by omega))
  have D := Lib.hid (fun W hb => day_on T W hb 1 1 1 (-719162) (by decide) (by decide))
  rw [show dtx 1 1 1 = ⟨#[48, 48, 48, 49, 45, 48, 49, 45, 48, 49]⟩ by decide] at D
  have K := Lib.hid (fun W hb => clock_on (w := w) W hb 1 1 1 3661 (by decide) (by decide))
  have S1 := Lib.hid (fun W hb => second_on (w := w) W hb 23 59 60 86400 (by decide) (by decide))
  have S2 := Lib.hid (fun W hb => second_off (w := w) W hb 0 0 60 (by decide))
  clear T
  go_enter Tryd.func8, Tryd.ntmps8
  go_wp2_with (first
    | (go_at_call 13; (first | (with_reducible refine (A.out _ (by assumption)).mono ?_; rintro e w1 ⟨rfl, hb1⟩) | (with_reducible refine (B.out _ (by assumption)).mono ?_; rintro e w2 ⟨rfl, hb2⟩)))
    | (go_at_call 15; (first | (with_reducible refine (P1.out _ (by assumption)).mono ?_; rintro e w3 ⟨rfl, hb3⟩) | (with_reducible refine (P2.out _ (by assumption)).mono ?_; rintro e w4 ⟨rfl, hb4⟩) | (with_reducible refine (P3.out _ (by assumption)).mono ?_; rintro e w5 ⟨rfl, hb5⟩)))
    | (go_at_call 17; (with_reducible refine (D.out _ (by assumption)).mono ?_; rintro e w6 ⟨rfl, hb6⟩))
    | (go_at_call 9; (with_reducible refine (K.out _ (by assumption)).mono ?_; rintro e w7 ⟨rfl, hb7⟩))
    | (go_at_call 11; (first | (with_reducible refine (S1.out _ (by assumption)).mono ?_; rintro e w8 ⟨rfl, hb8⟩) | (with_reducible refine (S2.out _ (by assumption)).mono ?_; rintro e w9 ⟨rfl, hb9⟩))))
  go_ret
  exact ⟨rfl, by assumption⟩
end Go.Proofs.YtmohcjnpcnbjkaaDoor.stamp
