/-
  What day's Number answers, where the two tables of package day hold what their initialisers lay: the number of a date that there is, and true; nought and false of any other. Conditions: those tables.
-/
import Derived.Test.YtiboijhfieaepaaGreatDoorDay
namespace Go.Proofs.YtiboijhfieaepaaGreatDoor.day
open Go.ChangeShapes Go.WideShapes Go.ChangeAt Go.RowKit
open cal
set_option linter.unusedVariables false
set_option maxRecDepth 100000

set_option maxHeartbeats 1000000 in
theorem number_no (y m d : Int) (w : World) (T : Tabs w) (h : ¬ Vld y m d) :
    Calls Tryz.prog 71 #[.int .i64 y, .int .i64 m, .int .i64 d] w fun e w' => e = .returned (.tuple #[.int .i64 0, .bool false]) ∧ w = w' := by
  by_cases hy : 1 ≤ y ∧ y ≤ 9999 ∧ 1 ≤ m ∧ m ≤ 12
  · obtain ⟨h1, h2, h3, h4⟩ := hy
    have C := Lib.hid (last_yes y m w T h1 h2 h3 h4)
    by_cases h5 : d < 1
    · clear h
      generalize dim y m = L at *
      go_enter Tryz.func71, Tryz.ntmps71
      go_wp2_with (go_at_call 79; with_reducible refine (C.out).mono ?_; rintro e w' ⟨rfl, rfl⟩)
      go_ret2
      exact ⟨rfl, rfl⟩
    · have h6 : dim y m < d := by
        by_cases h6 : dim y m < d
        · exact h6
        · exact absurd ⟨h1, h2, h3, h4, by omega, by omega⟩ h
      clear h
      generalize dim y m = L at *
      go_enter Tryz.func71, Tryz.ntmps71
      go_wp2_with (go_at_call 79; with_reducible refine (C.out).mono ?_; rintro e w' ⟨rfl, rfl⟩)
      go_ret2
      exact ⟨rfl, rfl⟩
  · have C := Lib.hid (last_no y m w (by omega))
    clear h hy
    go_enter Tryz.func71, Tryz.ntmps71
    go_wp2_with (go_at_call 79; with_reducible refine (C.out).mono ?_; rintro e w' ⟨rfl, rfl⟩)
    go_ret2
    exact ⟨rfl, rfl⟩

set_option maxHeartbeats 1000000 in
theorem number_yes (y m d : Int) (w : World) (T : Tabs w) (h : Vld y m d) :
    Calls Tryz.prog 71 #[.int .i64 y, .int .i64 m, .int .i64 d] w fun e w' => e = .returned (.tuple #[.int .i64 (num y m d), .bool true]) ∧ w = w' := by
  have C := Lib.hid (fun k (g1 : 1 ≤ k) (g2 : k ≤ 12) => last_yes y k w T h.1 h.2.1 g1 g2)
  have A := Lib.hid (fun W => ahead y W h.1 (by have := h.2.1; omega))
  have hb := dby_bd y h.1 (by have := h.2.1; omega)
  obtain ⟨h1, h2, h3, h4, h5, h6⟩ := h
  have hd := dim_bd y m
  have t1 : decide (d < 1) = false := by simp; omega
  have t2 : decide (dim y m < d) = false := by simp; omega
  go_enter Tryz.func71, Tryz.ntmps71
  go_wp2_with (first
    | (go_at_call 79; with_reducible refine (C.out _ h3 h4).mono ?_; rintro e w' ⟨rfl, rfl⟩)
    | (go_at_call 91; with_reducible refine (A.out _).mono ?_; rintro e w' ⟨rfl, rfl⟩))
  go_loop [10, 11] (fun r k => ∃ i : Int, 1 ≤ i ∧ i ≤ m ∧ k = .int .i64 i ∧ r = .int .i64 (num y i d)) (fun _ k => (m - intOf k).toNat)
  case atStart => exact ⟨1, by omega, by omega, rfl, by unfold num; rw [cum_one]; congr 1; omega⟩
  case round =>
    obtain ⟨i, hi1, hi2, rfl, rfl⟩ := hrel
    have cb := cum_bd y i hi1 (by omega)
    have l01 := lp_01 y
    have nb : -719162 ≤ num y i d ∧ num y i d ≤ 3652059 := by unfold num; omega
    have db := dim_bd y i
    by_cases hc : i < m
    · have HS : Hid (num y (i + 1) d = num y i d + dim y i) := by
        show num y (i + 1) d = num y i d + dim y i
        unfold num; rw [cum_succ y i hi1 (by omega)]; omega
      clear cb l01
      generalize num y i d = N at *
      go_wp2_with (go_at_call 79; with_reducible refine (C.out _ hi1 (by omega)).mono ?_; rintro e w' ⟨rfl, rfl⟩)
      go_round
      case rel => exact ⟨i + 1, by omega, by omega, rfl, by rw [HS.out]⟩
      case measure => simp [intOf]; omega
    · obtain rfl : i = m := by omega
      clear hc cb l01
      go_wp2
      go_ret2
      exact ⟨rfl, rfl⟩
end Go.Proofs.YtiboijhfieaepaaGreatDoor.day
