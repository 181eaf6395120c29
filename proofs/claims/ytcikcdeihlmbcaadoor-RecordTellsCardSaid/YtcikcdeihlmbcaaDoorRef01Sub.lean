/-
  What the document's own Sub and Div of layer 1 answer, for seats that have no more of them. Conditions: the numbers are of 64 bits.
-/
import Derived.Test.YtcikcdeihlmbcaaDoorMem
import Derived.WalkSmall
namespace Go.Proofs.YtcikcdeihlmbcaaDoor.ref01
open Go.ChangeShapes Go.WideShapes Go.ChangeAt Go.RowKit
open mem
set_option linter.unusedVariables false
set_option maxRecDepth 100000

def fit (x : Int) : Prop := -9223372036854775808 ≤ x ∧ x ≤ 9223372036854775807
theorem tdiv_neg' (a b : Int) (ha : a < 0) (hb : 1 ≤ b) (h : a % b = 0) : a.tdiv b = a / b ∧ a.tmod b = 0 := by
  have hd : b ∣ a := Int.dvd_of_emod_eq_zero h
  obtain ⟨c, rfl⟩ := hd
  refine ⟨by rw [Int.mul_tdiv_cancel_left _ (by omega), Int.mul_ediv_cancel_left _ (by omega)], Int.mul_tmod_right _ _⟩
theorem tdiv_neg (a b : Int) (ha : a < 0) (hb : 1 ≤ b) (h : a % b ≠ 0) : a.tdiv b = a / b + 1 ∧ a.tmod b = a % b - b := by
  have hd : ¬ b ∣ a := fun hd => h (Int.emod_eq_zero_of_dvd hd)
  have h1 := Int.tdiv_eq_ediv (a := a) (b := b)
  have h2 := Int.tmod_eq_emod (a := a) (b := b)
  have hs : b.sign = 1 := Int.sign_eq_one_of_pos (by omega)
  have hn : ((b.natAbs : Nat) : Int) = b := by omega
  rw [if_neg (by rintro (h | h); omega; exact hd h)] at h1 h2
  exact ⟨by omega, by omega⟩
theorem sub_yes (a b : Int) (w : World) (ha : fit a) (hb : fit b) (h : fit (a - b)) :
    Calls Tryd.prog 36 #[.int .i64 a, .int .i64 b] w fun e w' => e = .returned (.tuple #[.int .i64 (a - b), .bool true]) ∧ Below w.heap.size w w' := by
  unfold fit at ha hb h
  obtain ⟨ha1, ha2⟩ := ha; obtain ⟨hb1, hb2⟩ := hb; obtain ⟨h1, h2⟩ := h
  rcases Int.lt_trichotomy b 0 with hs | rfl | hs
  · have t1 : ¬ (b > 0) := by omega
    have t2 : ¬ (a > 9223372036854775807 + b) := by omega
    go_enter Tryd.func36, Tryd.ntmps36
    go_wp2
    go_ret2
    exact ⟨rfl, Below.refl _ _⟩
  · rw [Int.sub_zero]
    go_enter Tryd.func36, Tryd.ntmps36
    go_wp2
    go_ret2
    exact ⟨rfl, Below.refl _ _⟩
  · have t1 : ¬ (b < 0) := by omega
    have t2 : ¬ (a < -9223372036854775808 + b) := by omega
    go_enter Tryd.func36, Tryd.ntmps36
    go_wp2
    go_ret2
    exact ⟨rfl, Below.refl _ _⟩
theorem sub_no (a b : Int) (w : World) (ha : fit a) (hb : fit b) (h : ¬ fit (a - b)) :
    Calls Tryd.prog 36 #[.int .i64 a, .int .i64 b] w fun e w' => e = .returned (.tuple #[.int .i64 0, .bool false]) ∧ Below w.heap.size w w' := by
  unfold fit at ha hb h
  obtain ⟨ha1, ha2⟩ := ha; obtain ⟨hb1, hb2⟩ := hb
  by_cases hs : b < 0
  · have t1 : ¬ (b > 0) := by omega
    have t2 : (a > 9223372036854775807 + b) := by omega
    clear h
    go_enter Tryd.func36, Tryd.ntmps36
    go_wp2
    go_ret2
    exact ⟨rfl, Below.refl _ _⟩
  · have t0 : 0 < b := by omega
    have t2 : (a < -9223372036854775808 + b) := by omega
    clear h
    go_enter Tryd.func36, Tryd.ntmps36
    go_wp2
    go_ret2
    exact ⟨rfl, Below.refl _ _⟩
theorem div_yes (a b : Int) (w : World) (ha : fit a) (hb : fit b) (h : 1 ≤ b) :
    Calls Tryd.prog 41 #[.int .i64 a, .int .i64 b] w fun e w' => e = .returned (.tuple #[.int .i64 (a / b), .int .i64 (a % b), .bool true]) ∧ Below w.heap.size w w' := by
  have hb0 : b ≠ 0 := by omega
  have m1 := Int.emod_nonneg a hb0
  have m2 := Int.emod_lt_of_pos a (b := b) (by omega)
  unfold fit at ha hb
  obtain ⟨ha1, ha2⟩ := ha; obtain ⟨hb1, hb2⟩ := hb
  by_cases h0 : 0 ≤ a
  · go_enter Tryd.func41, Tryd.ntmps41
    go_wp2
    go_ret3
    exact ⟨rfl, Below.refl _ _⟩
  · have q1 : a / b < 0 := Int.ediv_neg_of_neg_of_pos (by omega) (by omega)
    have q2 : -9223372036854775808 ≤ a / b := by
      have := Int.mul_ediv_add_emod a b
      have h3 : -9223372036854775808 * b ≤ a := by omega
      exact Int.le_ediv_of_mul_le (by omega) h3
    by_cases hz : a % b = 0
    · obtain ⟨e1, e2⟩ := tdiv_neg' a b (by omega) h hz
      rw [hz]
      clear m1 m2 hz
      generalize a / b = Q at *
      go_enter Tryd.func41, Tryd.ntmps41
      go_wp2
      go_ret3
      exact ⟨rfl, Below.refl _ _⟩
    · obtain ⟨e1, e2⟩ := tdiv_neg a b (by omega) h hz
      generalize a / b = Q at *
      generalize a % b = R at *
      go_enter Tryd.func41, Tryd.ntmps41
      go_wp2
      go_ret3
      exact ⟨rfl, Below.refl _ _⟩
end Go.Proofs.YtcikcdeihlmbcaaDoor.ref01
