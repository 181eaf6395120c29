/-
  What num's Add, Sub and Mul answer, for all numbers of 64 bits: the exact answer and true where it fits, nought and false where it does not. No condition beside that the arguments are such numbers.
-/
import Derived.Test.YtiboijhfieaepaaGreatDoorRows
import Derived.WalkKit
import Derived.ProofKit
import Derived.OpenShut
import Derived.IntWalk
import Derived.Deep.QuietTactic
import Derived.BigQuiet
namespace Go.Proofs.YtiboijhfieaepaaGreatDoor.num
open Go.ChangeShapes Go.WideShapes Go.ChangeAt Go.RowKit
set_option linter.unusedVariables false

def fit (n : Int) : Prop := -9223372036854775808 ≤ n ∧ n ≤ 9223372036854775807

theorem ret_bool {b : Bool} (h : b = true) : Ending.returned (.bool b) = .returned (.bool true) := by rw [h]

/-! Add -/
theorem add_yes (a b : Int) (w : World) (ha : fit a) (hb : fit b) (h : fit (a + b)) :
    Calls Tryz.prog 88 #[.int .i64 a, .int .i64 b] w fun e w' => e = .returned (.tuple #[.int .i64 (a + b), .bool true]) ∧ w = w' := by
  unfold fit at ha hb h
  obtain ⟨ha1, ha2⟩ := ha; obtain ⟨hb1, hb2⟩ := hb; obtain ⟨h1, h2⟩ := h
  rcases Int.lt_trichotomy b 0 with hs | rfl | hs
  · have t1 : ¬ (b > 0) := by omega
    have t2 : ¬ (a < -9223372036854775808 - b) := by omega
    go_enter Tryz.func88, Tryz.ntmps88
    go_wp2
    go_ret2
    exact ⟨rfl, rfl⟩
  · rw [Int.add_zero]
    go_enter Tryz.func88, Tryz.ntmps88
    go_wp2
    go_ret2
    exact ⟨rfl, rfl⟩
  · have t1 : ¬ (b < 0) := by omega
    have t2 : ¬ (a > 9223372036854775807 - b) := by omega
    go_enter Tryz.func88, Tryz.ntmps88
    go_wp2
    go_ret2
    exact ⟨rfl, rfl⟩
theorem add_no (a b : Int) (w : World) (ha : fit a) (hb : fit b) (h : ¬ fit (a + b)) :
    Calls Tryz.prog 88 #[.int .i64 a, .int .i64 b] w fun e w' => e = .returned (.tuple #[.int .i64 0, .bool false]) ∧ w = w' := by
  unfold fit at ha hb h
  obtain ⟨ha1, ha2⟩ := ha; obtain ⟨hb1, hb2⟩ := hb
  by_cases hs : b < 0
  · have t1 : ¬ (b > 0) := by omega
    have t2 : (a < -9223372036854775808 - b) := by omega
    clear h
    go_enter Tryz.func88, Tryz.ntmps88
    go_wp2
    go_ret2
    exact ⟨rfl, rfl⟩
  · have t0 : 0 < b := by omega
    have t2 : (a > 9223372036854775807 - b) := by omega
    clear h
    go_enter Tryz.func88, Tryz.ntmps88
    go_wp2
    go_ret2
    exact ⟨rfl, rfl⟩
theorem add_eq (a b c : Int) (w : World) (ha : fit a) (hb : fit b) (h : fit c) (e : a + b = c) :
    Calls Tryz.prog 88 #[.int .i64 a, .int .i64 b] w fun e w' => e = .returned (.tuple #[.int .i64 c, .bool true]) ∧ w = w' := by
  subst e; exact add_yes a b w ha hb h
/-! Sub -/
theorem sub_yes (a b : Int) (w : World) (ha : fit a) (hb : fit b) (h : fit (a - b)) :
    Calls Tryz.prog 103 #[.int .i64 a, .int .i64 b] w fun e w' => e = .returned (.tuple #[.int .i64 (a - b), .bool true]) ∧ w = w' := by
  unfold fit at ha hb h
  obtain ⟨ha1, ha2⟩ := ha; obtain ⟨hb1, hb2⟩ := hb; obtain ⟨h1, h2⟩ := h
  rcases Int.lt_trichotomy b 0 with hs | rfl | hs
  · have t1 : ¬ (b > 0) := by omega
    have t2 : ¬ (a > 9223372036854775807 + b) := by omega
    go_enter Tryz.func103, Tryz.ntmps103
    go_wp2
    go_ret2
    exact ⟨rfl, rfl⟩
  · rw [Int.sub_zero]
    go_enter Tryz.func103, Tryz.ntmps103
    go_wp2
    go_ret2
    exact ⟨rfl, rfl⟩
  · have t1 : ¬ (b < 0) := by omega
    have t2 : ¬ (a < -9223372036854775808 + b) := by omega
    go_enter Tryz.func103, Tryz.ntmps103
    go_wp2
    go_ret2
    exact ⟨rfl, rfl⟩
theorem sub_no (a b : Int) (w : World) (ha : fit a) (hb : fit b) (h : ¬ fit (a - b)) :
    Calls Tryz.prog 103 #[.int .i64 a, .int .i64 b] w fun e w' => e = .returned (.tuple #[.int .i64 0, .bool false]) ∧ w = w' := by
  unfold fit at ha hb h
  obtain ⟨ha1, ha2⟩ := ha; obtain ⟨hb1, hb2⟩ := hb
  by_cases hs : b < 0
  · have t1 : ¬ (b > 0) := by omega
    have t2 : (a > 9223372036854775807 + b) := by omega
    clear h
    go_enter Tryz.func103, Tryz.ntmps103
    go_wp2
    go_ret2
    exact ⟨rfl, rfl⟩
  · have t0 : 0 < b := by omega
    have t2 : (a < -9223372036854775808 + b) := by omega
    clear h
    go_enter Tryz.func103, Tryz.ntmps103
    go_wp2
    go_ret2
    exact ⟨rfl, rfl⟩

theorem sub_eq (a b c : Int) (w : World) (ha : fit a) (hb : fit b) (h : fit c) (e : a - b = c) :
    Calls Tryz.prog 103 #[.int .i64 a, .int .i64 b] w fun e w' => e = .returned (.tuple #[.int .i64 c, .bool true]) ∧ w = w' := by
  subst e; exact sub_yes a b w ha hb h
/-! Mul: the mathematics -/
theorem tdiv_back (a b : Int) (h : a ≠ 0) : (a * b).tdiv a = b := Int.mul_tdiv_cancel_left b h
theorem wrap_off (n : Int) (h : ¬ fit n) : fit (wrap64 n) ∧ ∃ k : Int, wrap64 n = n + k * 18446744073709551616 ∧ k ≠ 0 := by
  unfold fit at *
  have hw : wrap64 n = (n + 9223372036854775808) % 18446744073709551616 - 9223372036854775808 := by unfold wrap64; rfl
  have hd := Int.emod_def (n + 9223372036854775808) 18446744073709551616
  have h1 := Int.emod_nonneg (n + 9223372036854775808) (b := 18446744073709551616) (by omega)
  have h2 := Int.emod_lt_of_pos (n + 9223372036854775808) (b := 18446744073709551616) (by omega)
  refine ⟨by rw [hw]; omega, -((n + 9223372036854775808) / 18446744073709551616), by rw [hw]; omega, ?_⟩
  intro hk
  apply h
  omega
theorem tmod_small (n a : Int) (ha : a ≠ 0) (hf : fit a) : -9223372036854775808 < n.tmod a ∧ n.tmod a < 9223372036854775808 := by
  unfold fit at hf
  have h := Int.natAbs_tmod n a
  have h2 : n.natAbs % a.natAbs < a.natAbs := Nat.mod_lt _ (by omega)
  omega
theorem mul_off (a b : Int) (ha : a ≠ 0) (hf : fit a) (h : ¬ fit (a * b)) : (wrap64 (a * b)).tdiv a ≠ b := by
  intro e
  obtain ⟨_, k, hk, hk0⟩ := wrap_off _ h
  have hm := tmod_small (wrap64 (a * b)) a ha hf
  have hd := Int.mul_tdiv_add_tmod (wrap64 (a * b)) a
  rw [e] at hd
  omega
theorem quo_fit (n a : Int) (ha : a ≠ 0) (h1 : a ≠ -1) (hn : fit n) : fit (n.tdiv a) := by
  unfold fit at *
  have h : (n.tdiv a).natAbs = n.natAbs / a.natAbs := Int.natAbs_tdiv n a
  by_cases ha0 : 0 < a
  · have := IntWalk.i64_quo' n a ⟨hn.1, hn.2, by omega⟩
    have h2 := Nat.div_le_self n.natAbs a.natAbs
    by_cases hz : n.tdiv a = 9223372036854775808
    · exfalso
      rw [hz] at this
      have hw : IntKind.i64.wrap 9223372036854775808 = -9223372036854775808 := by rw [IntKind.wrap_i64]; rfl
      omega
    · omega
  · have h2 : n.natAbs / a.natAbs ≤ n.natAbs / 2 := Nat.div_le_div_left (by omega) (by omega)
    omega
theorem mul_yes (a b : Int) (w : World) (ha : fit a) (hb : fit b) (h : fit (a * b)) :
    Calls Tryz.prog 87 #[.int .i64 a, .int .i64 b] w fun e w' => e = .returned (.tuple #[.int .i64 (a * b), .bool true]) ∧ w = w' := by
  by_cases h0 : a = 0
  · subst h0
    rw [Int.zero_mul]
    go_enter Tryz.func87, Tryz.ntmps87
    go_wp2
    go_ret2
    exact ⟨rfl, rfl⟩
  · by_cases h1 : a = -1
    · subst h1
      have e : -1 * b = 0 - b := by omega
      rw [e] at h ⊢
      clear e
      have hz : fit 0 := ⟨by omega, by omega⟩
      go_enter Tryz.func87, Tryz.ntmps87
      go_wp2_with (go_at_call 103; refine (sub_yes _ _ _ hz hb h).mono ?_; rintro e w' ⟨rfl, rfl⟩)
      go_ret2
      exact ⟨by rw [Int.zero_sub]; rfl, rfl⟩
    · have hq := tdiv_back a b h0
      unfold fit at ha hb h
      obtain ⟨ha1, ha2⟩ := ha; obtain ⟨hb1, hb2⟩ := hb; obtain ⟨hp1, hp2⟩ := h
      have hq2 : IntKind.i64.wrap ((a * b).tdiv a) = b := by rw [hq]; exact IntWalk.i64_in _ ⟨hb1, hb2⟩
      have hq3 : wrap64 ((a * b).tdiv a) = b := by rw [hq]; exact IntWalk.wrap64_in _ ⟨hb1, hb2⟩
      clear hq
      go_enter Tryz.func87, Tryz.ntmps87
      go_wp2
      go_ret2
      exact ⟨rfl, rfl⟩
theorem mul_no (a b : Int) (w : World) (ha : fit a) (hb : fit b) (h : ¬ fit (a * b)) :
    Calls Tryz.prog 87 #[.int .i64 a, .int .i64 b] w fun e w' => e = .returned (.tuple #[.int .i64 0, .bool false]) ∧ w = w' := by
  have h0 : a ≠ 0 := by rintro rfl; apply h; rw [Int.zero_mul]; exact ⟨by omega, by omega⟩
  by_cases h1 : a = -1
  · subst h1
    have e : -1 * b = 0 - b := by omega
    rw [e] at h
    clear e
    have hz : fit 0 := ⟨by omega, by omega⟩
    go_enter Tryz.func87, Tryz.ntmps87
    go_wp2_with (go_at_call 103; refine (sub_no _ _ _ hz hb h).mono ?_; rintro e w' ⟨rfl, rfl⟩)
    go_ret2
    exact ⟨rfl, rfl⟩
  · have ho := mul_off a b h0 ha h
    have hf := (wrap_off _ h).1
    have hq := quo_fit (wrap64 (a * b)) a h0 h1 hf
    have hne : (wrap64 ((wrap64 (a * b)).tdiv a) != b) = true := by rw [IntWalk.wrap64_in _ hq]; simpa using ho
    have hne2 : (IntKind.i64.wrap ((IntKind.i64.wrap (a * b)).tdiv a) != b) = true := by rw [IntWalk.i64_left, IntWalk.i64_left]; exact hne
    unfold fit at ha hb
    obtain ⟨ha1, ha2⟩ := ha; obtain ⟨hb1, hb2⟩ := hb
    clear ho hf hq h
    go_enter Tryz.func87, Tryz.ntmps87
    go_wp2
    go_ret2
    exact ⟨rfl, rfl⟩

theorem mul_eq (a b c : Int) (w : World) (ha : fit a) (hb : fit b) (h : fit c) (e : a * b = c) :
    Calls Tryz.prog 87 #[.int .i64 a, .int .i64 b] w fun e w' => e = .returned (.tuple #[.int .i64 c, .bool true]) ∧ w = w' := by
  subst e; exact mul_yes a b w ha hb h
end Go.Proofs.YtiboijhfieaepaaGreatDoor.num
