/-
  What num's Div answers, for all numbers of 64 bits: quotient and rest downwards and true where one divides by 1 or more, noughts and false else. No condition beside that the arguments are such numbers. (For seats that have Div alone of num's functions.)
-/
import Derived.Test.YtbommemnmnjcdaaDoorRows
import Derived.WalkKit
import Derived.ProofKit
import Derived.OpenShut
import Derived.IntWalk
import Derived.Deep.QuietTactic
import Derived.BigQuiet
namespace Go.Proofs.YtbommemnmnjcdaaDoor.numDiv
open Go.ChangeShapes Go.WideShapes Go.ChangeAt Go.RowKit
set_option linter.unusedVariables false

def fit (n : Int) : Prop := -9223372036854775808 ≤ n ∧ n ≤ 9223372036854775807

/-! Div -/
theorem div_no (a b : Int) (w : World) (hb : b < 1) :
    Calls Tryd.prog 16 #[.int .i64 a, .int .i64 b] w fun e w' => e = .returned (.tuple #[.int .i64 0, .int .i64 0, .bool false]) ∧ ∃ n, w' = w.drewN n := by
  go_enter Tryd.func16, Tryd.ntmps16
  go_wp2
  go_ret3
  exact ⟨rfl, 0, rfl⟩
theorem tdiv_neg' (a b : Int) (ha : a < 0) (hb : 1 ≤ b) (h : a % b = 0) : a.tdiv b = a / b ∧ a.tmod b = 0 := by
  have hd : b ∣ a := Int.dvd_of_emod_eq_zero h
  obtain ⟨c, rfl⟩ := hd
  refine ⟨by rw [Int.mul_tdiv_cancel_left _ (by omega), Int.mul_ediv_cancel_left _ (by omega)], Int.mul_tmod_right _ _⟩
theorem tdiv_neg (a b : Int) (ha : a < 0) (hb : 1 ≤ b) (h : a % b ≠ 0) : a.tdiv b = a / b + 1 ∧ a.tmod b = a % b - b := by
  have hd : ¬ b ∣ a := fun hd => h (Int.emod_eq_zero_of_dvd hd)
  have h1 := Int.tdiv_eq_ediv (a := a) (b := b)
  have h2 := Int.tmod_eq_emod (a := a) (b := b)
  have hs : b.sign = 1 := Int.sign_eq_one_of_pos (by omega)
  have hn : ((b.natAbs : Nat) : Int) = b := by omega
  rw [if_neg (by rintro (h | h); omega; exact hd h)] at h1 h2
  exact ⟨by omega, by omega⟩
theorem div_yes (a b : Int) (w : World) (ha : fit a) (hb : fit b) (h : 1 ≤ b) :
    Calls Tryd.prog 16 #[.int .i64 a, .int .i64 b] w fun e w' => e = .returned (.tuple #[.int .i64 (a / b), .int .i64 (a % b), .bool true]) ∧ ∃ n, w' = w.drewN n := by
  have hb0 : b ≠ 0 := by omega
  have m1 := Int.emod_nonneg a hb0
  have m2 := Int.emod_lt_of_pos a (b := b) (by omega)
  unfold fit at ha hb
  obtain ⟨ha1, ha2⟩ := ha; obtain ⟨hb1, hb2⟩ := hb
  by_cases h0 : 0 ≤ a
  · go_enter Tryd.func16, Tryd.ntmps16
    go_wp2
    go_quiet (fail)
    go_wp2
    go_ret3
    exact ⟨rfl, _, rfl⟩
  · have q1 : a / b < 0 := Int.ediv_neg_of_neg_of_pos (by omega) (by omega)
    have q2 : -9223372036854775808 ≤ a / b := by
      have := Int.mul_ediv_add_emod a b
      have h3 : -9223372036854775808 * b ≤ a := by omega
      exact Int.le_ediv_of_mul_le (by omega) h3
    by_cases hz : a % b = 0
    · obtain ⟨e1, e2⟩ := tdiv_neg' a b (by omega) h hz
      rw [hz]
      clear m1 m2 hz
      generalize a / b = Q at *
      go_enter Tryd.func16, Tryd.ntmps16
      go_wp2
      go_quiet (fail)
      go_wp2
      go_ret3
      exact ⟨rfl, _, rfl⟩
    · obtain ⟨e1, e2⟩ := tdiv_neg a b (by omega) h hz
      generalize a / b = Q at *
      generalize a % b = R at *
      go_enter Tryd.func16, Tryd.ntmps16
      go_wp2
      go_quiet (fail)
      go_wp2
      go_ret3
      exact ⟨rfl, _, rfl⟩
end Go.Proofs.YtbommemnmnjcdaaDoor.numDiv
