/-
  What day's Week and End answer, where the two tables of package day hold what their initialisers lay. Conditions: those tables; the arguments are numbers of 64 bits.
-/
import Derived.Test.YtiboijhfieaepaaGreatDoorDayDate
namespace Go.Proofs.YtiboijhfieaepaaGreatDoor.day
open Go.ChangeShapes Go.WideShapes Go.ChangeAt Go.RowKit
open cal
set_option linter.unusedVariables false
set_option maxRecDepth 100000

theorem end_no (n : Int) (w : World) (h : n < -719162 ∨ 2932896 < n) :
    Calls Tryz.prog 92 #[.int .i64 n] w fun e w' => e = .returned (.bool false) ∧ w = w' := by
  have C := Lib.hid (date_no n w h)
  clear h
  go_enter Tryz.func92, Tryz.ntmps92
  go_wp2_with (go_at_call 55; with_reducible refine (C.out).mono ?_; rintro e w' ⟨rfl, rfl⟩)
  go_ret
  exact ⟨rfl, rfl⟩
theorem end_is (y m d n : Int) (w : World) (T : Tabs w) (v : Vld y m d) (hn : num y m d = n) :
    Calls Tryz.prog 92 #[.int .i64 n] w fun e w' => e = .returned (.bool (d == dim y m)) ∧ Below w.heap.size w w' := by
  have C := Lib.hid (date_yes y m d n w T v hn)
  obtain ⟨h1, h2, h3, h4, h5, h6⟩ := v
  clear hn
  go_enter Tryz.func92, Tryz.ntmps92
  go_wp2_with (first
    | (go_at_call 55; with_reducible refine (C.out).mono ?_; rintro e w1 ⟨rfl, hb⟩)
    | (go_at_call 79; with_reducible refine (last_yes y m _ (T.below hb) h1 h2 h3 h4).mono ?_; rintro e w' ⟨rfl, rfl⟩))
  go_ret
  exact ⟨rfl, hb⟩

theorem end_on {w : World} (T : Tabs w) (W : World) (hb : Below w.heap.size w W) (y m d n : Int) (v : Vld y m d) (hn : num y m d = n) (b : Bool) (h : (d == dim y m) = b) :
    Calls Tryz.prog 92 #[.int .i64 n] W fun e w' => e = .returned (.bool b) ∧ Below w.heap.size w w' := by
  subst h
  exact (end_is y m d n W (T.below hb) v hn).mono fun e w' ⟨he, hw⟩ => ⟨he, hb.trans (hw.mono hb.size)⟩
end Go.Proofs.YtiboijhfieaepaaGreatDoor.day
