/-
  What wide's Mul, MulDiv, Up and Less answer, for all numbers of 64 bits: the whole product in two parts by 2^63; its quotient and rest, downwards and upwards; which of two products is less. No condition beside that the arguments are such numbers.
-/
import Derived.Test.YtfebdpiefhaddaaDiv
import Derived.Below
import Derived.WalkSmall
namespace Go.Proofs.Ytfebdpiefhaddaa.wide
open Go.ChangeShapes Go.WideShapes Go.ChangeAt Go.RowKit
set_option linter.unusedVariables false

def fit (n : Int) : Prop := -9223372036854775808 ≤ n ∧ n ≤ 9223372036854775807
theorem ret_bool {b : Bool} (h : b = true) : Ending.returned (.bool b) = .returned (.bool true) := by rw [h]

theorem hi_part (P : Int) (h0 : 0 ≤ P) (h1 : P < 170141183460469231731687303715884105728) :
    Go.bits .or .u64 (P / 18446744073709551616 * 2) (P % 18446744073709551616 / 9223372036854775808) = P / 9223372036854775808 := by
  obtain ⟨n, rfl⟩ := Int.eq_ofNat_of_zero_le h0
  have e1 : (n : Int) / 18446744073709551616 * 2 = ((2 ^ 1 * (n / 18446744073709551616) : Nat) : Int) := by omega
  have e2 : (n : Int) % 18446744073709551616 / 9223372036854775808 = ((n % 18446744073709551616 / 9223372036854775808 : Nat) : Int) := by omega
  rw [e1, e2, bits_or_u64_nat _ _ (by omega) (by omega), ← Nat.two_pow_add_eq_or_of_lt (by omega)]
  omega
theorem lo_part (P : Int) (h0 : 0 ≤ P) : Go.bits .and .u64 (P % 18446744073709551616) 9223372036854775807 = P % 9223372036854775808 := by
  obtain ⟨n, rfl⟩ := Int.eq_ofNat_of_zero_le h0
  have e1 : (n : Int) % 18446744073709551616 = ((n % 18446744073709551616 : Nat) : Int) := by omega
  have h := bits_and_u64_nat (n % 18446744073709551616) 9223372036854775807 (by omega) (by omega)
  rw [show (9223372036854775807 : Nat) = 2 ^ 63 - 1 from rfl, Nat.and_two_pow_sub_one_eq_mod] at h
  rw [e1]
  refine Eq.trans h ?_
  omega
theorem back_part (G K : Int) (h0 : 0 ≤ G) (hk0 : 0 ≤ K) (hk : K < 9223372036854775808) :
    Go.bits .or .u64 (IntKind.u64.wrap (G * 9223372036854775808)) K = G % 2 * 9223372036854775808 + K := by
  obtain ⟨n, rfl⟩ := Int.eq_ofNat_of_zero_le h0
  obtain ⟨k, rfl⟩ := Int.eq_ofNat_of_zero_le hk0
  have e1 : IntKind.u64.wrap ((n : Int) * 9223372036854775808) = ((2 ^ 63 * (n % 2) : Nat) : Int) := by rw [IntKind.wrap_u64]; omega
  rw [e1, bits_or_u64_nat _ _ (by omega) (by omega), ← Nat.two_pow_add_eq_or_of_lt (by omega)]
  omega
theorem prod_bounds (a b : Int) (ha0 : 0 ≤ a) (ha : a ≤ 9223372036854775807) (hb0 : 0 ≤ b) (hb : b ≤ 9223372036854775807) : 0 ≤ a * b ∧ a * b ≤ 85070591730234615847396907784232501249 := by
  refine ⟨Int.mul_nonneg ha0 hb0, ?_⟩
  have := Int.mul_le_mul ha hb hb0 (by omega : (0 : Int) ≤ 9223372036854775807)
  simpa using this

/-! Mul -/
theorem mul_yes (a b : Int) (w : World) (ha : fit a) (hb : fit b) (ha0 : 0 ≤ a) (hb0 : 0 ≤ b) :
    Calls Try.prog 10 #[.int .i64 a, .int .i64 b] w fun e w' => e = .returned (.tuple #[.int .i64 (a * b / 9223372036854775808), .int .i64 (a * b % 9223372036854775808), .bool true]) ∧ w = w' := by
  obtain ⟨_, ha⟩ := ha; obtain ⟨_, hb⟩ := hb
  have C := Lib.hid (fun W => bits.mul64 a b W ha0 (by omega) hb0 (by omega))
  obtain ⟨p0, p1⟩ := prod_bounds a b ha0 ha hb0 hb
  have e1 := hi_part (a * b) p0 (by omega)
  have e2 := lo_part (a * b) p0
  generalize a * b = P at *
  have h1 : 0 ≤ P / 18446744073709551616 := by omega
  have h2 : P / 18446744073709551616 ≤ 4611686018427387904 := by omega
  have h3 : 0 ≤ P / 9223372036854775808 := by omega
  have h4 : P / 9223372036854775808 ≤ 9223372036854775807 := by omega
  have t1 : decide (a < 0) = false := by simp; omega
  have t2 : decide (b < 0) = false := by simp; omega
  go_enter Try.func10, Try.ntmps10
  go_wp2_with (go_at_call 18; with_reducible refine (C.out _).mono ?_; rintro e w' ⟨rfl, rfl⟩)
  go_ret3
  exact ⟨rfl, rfl⟩
theorem mul_no (a b : Int) (w : World) (h : a < 0 ∨ b < 0) :
    Calls Try.prog 10 #[.int .i64 a, .int .i64 b] w fun e w' => e = .returned (.tuple #[.int .i64 0, .int .i64 0, .bool false]) ∧ w = w' := by
  by_cases h1 : a < 0
  · clear h
    go_enter Try.func10, Try.ntmps10
    go_wp2
    go_ret3
    exact ⟨rfl, rfl⟩
  · have h2 : b < 0 := by omega
    clear h
    go_enter Try.func10, Try.ntmps10
    go_wp2
    go_ret3
    exact ⟨rfl, rfl⟩

/-! MulDiv -/
theorem high_lt (P c : Int) (hc : 1 ≤ c) : P / c ≤ 9223372036854775807 ↔ P / 9223372036854775808 < c := by
  constructor
  · intro h
    have h1 : P < (9223372036854775807 + 1) * c := Int.lt_mul_of_ediv_lt (by omega) (by omega)
    exact Int.ediv_lt_of_lt_mul (by omega) (by omega)
  · intro h
    have h1 : P < c * 9223372036854775808 := Int.lt_mul_of_ediv_lt (by omega) h
    have := Int.ediv_lt_of_lt_mul (a := P) (b := 9223372036854775808) (c := c) (by omega) (by omega)
    omega
theorem md_yes (a b c : Int) (w : World) (ha : fit a) (hb : fit b) (hc : fit c) (ha0 : 0 ≤ a) (hb0 : 0 ≤ b) (hc0 : 1 ≤ c) (h : a * b / c ≤ 9223372036854775807) :
    Calls Try.prog 12 #[.int .i64 a, .int .i64 b, .int .i64 c] w fun e w' => e = .returned (.tuple #[.int .i64 (a * b / c), .int .i64 (a * b % c), .bool true]) ∧ ∃ n, w' = w.drewN n := by
  have C := Lib.hid (fun W => mul_yes a b W ha hb ha0 hb0)
  obtain ⟨_, ha⟩ := ha; obtain ⟨_, hb⟩ := hb; obtain ⟨_, hc⟩ := hc
  obtain ⟨p0, p1⟩ := prod_bounds a b ha0 ha hb0 hb
  have hh := (high_lt (a * b) c hc0).1 h
  have hq0 : 0 ≤ a * b / c := Int.ediv_nonneg p0 (by omega)
  have hr0 := Int.emod_nonneg (a * b) (b := c) (by omega)
  have hr1 := Int.emod_lt_of_pos (a * b) (b := c) (by omega)
  have e1 := back_part (a * b / 9223372036854775808) (a * b % 9223372036854775808) (by omega) (by omega) (by omega)
  have D : Hid (∀ W, Calls Try.prog 20 #[.int .u64 (a * b / 9223372036854775808 / 2), .int .u64 (a * b / 9223372036854775808 % 2 * 9223372036854775808 + a * b % 9223372036854775808), .int .u64 c] W fun e w' => e = .returned (.tuple #[.int .u64 (a * b / c), .int .u64 (a * b % c)]) ∧ ∃ n, w' = W.drewN n) := by
    intro W
    have := bits.div64 (a * b / 9223372036854775808 / 2) (a * b / 9223372036854775808 % 2 * 9223372036854775808 + a * b % 9223372036854775808) c W (by omega) (by omega) (by omega) (by omega) (by omega)
    have e : a * b / 9223372036854775808 / 2 * 18446744073709551616 + (a * b / 9223372036854775808 % 2 * 9223372036854775808 + a * b % 9223372036854775808) = a * b := by omega
    rw [e] at this
    exact this
  have g0 : 0 ≤ a * b / 9223372036854775808 := by omega
  generalize a * b / c = q at *
  generalize a * b % c = r at *
  have k0 : 0 ≤ a * b % 9223372036854775808 := by omega
  have k1 : a * b % 9223372036854775808 < 9223372036854775808 := by omega
  clear p0 p1
  generalize a * b % 9223372036854775808 = K at *
  generalize a * b / 9223372036854775808 = G at *
  have t1 : decide (c < 1) = false := by simp; omega
  have t2 : decide (c ≤ G) = false := by simp; omega
  go_enter Try.func12, Try.ntmps12
  go_wp2_with (first | (go_at_call 10; with_reducible refine (C.out _).mono ?_; rintro e w' ⟨rfl, rfl⟩) | (go_at_call 20; with_reducible refine (D.out _).mono ?_; rintro e w' ⟨rfl, n, rfl⟩))
  go_ret3
  exact ⟨rfl, _, rfl⟩
theorem md_no (a b c : Int) (w : World) (ha : fit a) (hb : fit b) (h : a < 0 ∨ b < 0 ∨ c < 1 ∨ 9223372036854775807 < a * b / c) :
    Calls Try.prog 12 #[.int .i64 a, .int .i64 b, .int .i64 c] w fun e w' => e = .returned (.tuple #[.int .i64 0, .int .i64 0, .bool false]) ∧ ∃ n, w' = w.drewN n := by
  by_cases h1 : a < 0 ∨ b < 0
  · have C := Lib.hid (fun W => mul_no a b W h1)
    clear h h1
    go_enter Try.func12, Try.ntmps12
    go_wp2_with (go_at_call 10; with_reducible refine (C.out _).mono ?_; rintro e w' ⟨rfl, rfl⟩)
    go_ret3
    exact ⟨rfl, 0, rfl⟩
  · have C := Lib.hid (fun W => mul_yes a b W ha hb (by omega) (by omega))
    by_cases h2 : c < 1
    · clear h h1
      generalize a * b = P at *
      have t1 : decide (c < 1) = true := by simpa using h2
      go_enter Try.func12, Try.ntmps12
      go_wp2_with (go_at_call 10; with_reducible refine (C.out _).mono ?_; rintro e w' ⟨rfl, rfl⟩)
      go_ret3
      exact ⟨rfl, 0, rfl⟩
    · have h3 : c ≤ a * b / 9223372036854775808 := by
        have := high_lt (a * b) c (by omega)
        omega
      clear h h1
      generalize a * b / 9223372036854775808 = G at *
      generalize a * b % 9223372036854775808 = K at *
      have t1 : decide (c < 1) = false := by simpa using h2
      have t2 : decide (c ≤ G) = true := by simpa using h3
      go_enter Try.func12, Try.ntmps12
      go_wp2_with (go_at_call 10; with_reducible refine (C.out _).mono ?_; rintro e w' ⟨rfl, rfl⟩)
      go_ret3
      exact ⟨rfl, 0, rfl⟩

/-! Up -/
theorem up_no (a b c : Int) (w : World) (ha : fit a) (hb : fit b) (h : a < 0 ∨ b < 0 ∨ c < 1 ∨ 9223372036854775807 < a * b / c) :
    Calls Try.prog 14 #[.int .i64 a, .int .i64 b, .int .i64 c] w fun e w' => e = .returned (.tuple #[.int .i64 0, .bool false]) ∧ ∃ n, w' = w.drewN n := by
  have C := Lib.hid (fun W => md_no a b c W ha hb h)
  clear h ha hb
  go_enter Try.func14, Try.ntmps14
  go_wp2_with (go_at_call 12; with_reducible refine (C.out _).mono ?_; rintro e w' ⟨rfl, n, rfl⟩)
  go_ret2
  exact ⟨rfl, _, rfl⟩
theorem up_even (a b c q : Int) (w : World) (ha : fit a) (hb : fit b) (hc : fit c) (ha0 : 0 ≤ a) (hb0 : 0 ≤ b) (hc0 : 1 ≤ c) (h : a * b / c ≤ 9223372036854775807) (hq : a * b / c = q) (hr : a * b % c = 0) :
    Calls Try.prog 14 #[.int .i64 a, .int .i64 b, .int .i64 c] w fun e w' => e = .returned (.tuple #[.int .i64 q, .bool true]) ∧ ∃ n, w' = w.drewN n := by
  have C := Lib.hid (fun W => md_yes a b c W ha hb hc ha0 hb0 hc0 h)
  rw [hq, hr] at C
  clear h ha hb hc hq hr
  go_enter Try.func14, Try.ntmps14
  go_wp2_with (go_at_call 12; with_reducible refine (C.out _).mono ?_; rintro e w' ⟨rfl, n, rfl⟩)
  go_ret2
  exact ⟨rfl, _, rfl⟩
theorem up_more (a b c q : Int) (w : World) (ha : fit a) (hb : fit b) (hc : fit c) (ha0 : 0 ≤ a) (hb0 : 0 ≤ b) (hc0 : 1 ≤ c) (h : a * b / c < 9223372036854775807) (hq : a * b / c = q) (hr : a * b % c ≠ 0) :
    Calls Try.prog 14 #[.int .i64 a, .int .i64 b, .int .i64 c] w fun e w' => e = .returned (.tuple #[.int .i64 (q + 1), .bool true]) ∧ ∃ n, w' = w.drewN n := by
  have C := Lib.hid (fun W => md_yes a b c W ha hb hc ha0 hb0 hc0 (by omega))
  have hq0 : 0 ≤ q := by rw [← hq]; exact Int.ediv_nonneg (Int.mul_nonneg ha0 hb0) (by omega)
  rw [hq] at C
  rw [hq] at h
  generalize a * b % c = r at *
  have t1 : (r == 0) = false := by simpa using hr
  have t2 : (q == 9223372036854775807) = false := by simp; omega
  clear ha hb hc hq hr
  go_enter Try.func14, Try.ntmps14
  go_wp2_with (go_at_call 12; with_reducible refine (C.out _).mono ?_; rintro e w' ⟨rfl, n, rfl⟩)
  go_ret2
  exact ⟨rfl, _, rfl⟩
theorem up_over (a b c : Int) (w : World) (ha : fit a) (hb : fit b) (hc : fit c) (ha0 : 0 ≤ a) (hb0 : 0 ≤ b) (hc0 : 1 ≤ c) (hq : a * b / c = 9223372036854775807) (hr : a * b % c ≠ 0) :
    Calls Try.prog 14 #[.int .i64 a, .int .i64 b, .int .i64 c] w fun e w' => e = .returned (.tuple #[.int .i64 0, .bool false]) ∧ ∃ n, w' = w.drewN n := by
  have C := Lib.hid (fun W => md_yes a b c W ha hb hc ha0 hb0 hc0 (by omega))
  rw [hq] at C
  generalize a * b % c = r at *
  have t1 : (r == 0) = false := by simpa using hr
  clear ha hb hc hq hr
  go_enter Try.func14, Try.ntmps14
  go_wp2_with (go_at_call 12; with_reducible refine (C.out _).mono ?_; rintro e w' ⟨rfl, n, rfl⟩)
  go_ret2
  exact ⟨rfl, _, rfl⟩

/-! Less -/
theorem less_neg (a b c d : Int) (w : World) (ha : fit a) (hb : fit b) (hc : fit c) (hd : fit d) (h : a < 0 ∨ b < 0 ∨ c < 0 ∨ d < 0) :
    Calls Try.prog 16 #[.int .i64 a, .int .i64 b, .int .i64 c, .int .i64 d] w fun e w' => e = .returned (.bool false) ∧ w = w' := by
  by_cases h1 : a < 0 ∨ b < 0
  · have C := Lib.hid (fun W => mul_no a b W h1)
    by_cases h2 : c < 0 ∨ d < 0
    · have D := Lib.hid (fun W => mul_no c d W h2)
      clear h h1 h2 ha hb hc hd
      go_enter Try.func16, Try.ntmps16
      go_wp2_with (first
        | (go_at_call 10; (first | (with_reducible refine (C.out _).mono ?_; rintro e w' ⟨rfl, rfl⟩) | (with_reducible refine (D.out _).mono ?_; rintro e w' ⟨rfl, rfl⟩))))
      go_ret
      exact ⟨rfl, rfl⟩
    · have D := Lib.hid (fun W => mul_yes c d W hc hd (by omega) (by omega))
      clear h h1 h2 ha hb hc hd
      generalize c * d = R at *
      go_enter Try.func16, Try.ntmps16
      go_wp2_with (first
        | (go_at_call 10; (first | (with_reducible refine (C.out _).mono ?_; rintro e w' ⟨rfl, rfl⟩) | (with_reducible refine (D.out _).mono ?_; rintro e w' ⟨rfl, rfl⟩))))
      go_ret
      exact ⟨rfl, rfl⟩
  · have C := Lib.hid (fun W => mul_yes a b W ha hb (by omega) (by omega))
    have D := Lib.hid (fun W => mul_no c d W (by omega))
    clear h h1 ha hb hc hd
    generalize a * b = R at *
    go_enter Try.func16, Try.ntmps16
    go_wp2_with (first
      | (go_at_call 10; (first | (with_reducible refine (C.out _).mono ?_; rintro e w' ⟨rfl, rfl⟩) | (with_reducible refine (D.out _).mono ?_; rintro e w' ⟨rfl, rfl⟩))))
    go_ret
    exact ⟨rfl, rfl⟩
theorem less_pos (a b c d : Int) (w : World) (ha : fit a) (hb : fit b) (hc : fit c) (hd : fit d) (ha0 : 0 ≤ a) (hb0 : 0 ≤ b) (hc0 : 0 ≤ c) (hd0 : 0 ≤ d) :
    Calls Try.prog 16 #[.int .i64 a, .int .i64 b, .int .i64 c, .int .i64 d] w fun e w' => e = .returned (.bool (decide (a * b < c * d))) ∧ w = w' := by
  have C := Lib.hid (fun W => mul_yes a b W ha hb ha0 hb0)
  have D := Lib.hid (fun W => mul_yes c d W hc hd hc0 hd0)
  have p0 := (prod_bounds a b ha0 ha.2 hb0 hb.2).1
  have p1 := (prod_bounds c d hc0 hc.2 hd0 hd.2).1
  clear ha hb hc hd
  generalize a * b = P at *
  generalize c * d = R at *
  by_cases h1 : P / 9223372036854775808 < R / 9223372036854775808
  · have e : decide (P < R) = true := by simp; omega
    rw [e]
    clear e
    have t1 : decide (P / 9223372036854775808 < R / 9223372036854775808) = true := by simpa using h1
    generalize P / 9223372036854775808 = x at *
    generalize R / 9223372036854775808 = y at *
    go_enter Try.func16, Try.ntmps16
    go_wp2_with (first
      | (go_at_call 10; (first | (with_reducible refine (C.out _).mono ?_; rintro e w' ⟨rfl, rfl⟩) | (with_reducible refine (D.out _).mono ?_; rintro e w' ⟨rfl, rfl⟩))))
    go_ret
    exact ⟨rfl, rfl⟩
  · have t1 : decide (P / 9223372036854775808 < R / 9223372036854775808) = false := by simpa using h1
    by_cases h2 : P / 9223372036854775808 = R / 9223372036854775808
    · by_cases h3 : P % 9223372036854775808 < R % 9223372036854775808
      · have e : decide (P < R) = true := by simp; omega
        rw [e]
        clear e
        have t2 : (P / 9223372036854775808 == R / 9223372036854775808) = true := by simpa using h2
        have t3 : decide (P % 9223372036854775808 < R % 9223372036854775808) = true := by simpa using h3
        clear h1 h2 h3 p0 p1
        generalize P / 9223372036854775808 = x at *
        generalize R / 9223372036854775808 = y at *
        generalize P % 9223372036854775808 = x1 at *
        generalize R % 9223372036854775808 = y1 at *
        go_enter Try.func16, Try.ntmps16
        go_wp2_with (first
          | (go_at_call 10; (first | (with_reducible refine (C.out _).mono ?_; rintro e w' ⟨rfl, rfl⟩) | (with_reducible refine (D.out _).mono ?_; rintro e w' ⟨rfl, rfl⟩))))
        go_ret
        exact ⟨rfl, rfl⟩
      · have e : decide (P < R) = false := by simp; omega
        rw [e]
        clear e
        have t2 : (P / 9223372036854775808 == R / 9223372036854775808) = true := by simpa using h2
        have t3 : decide (P % 9223372036854775808 < R % 9223372036854775808) = false := by simpa using h3
        clear h1 h2 h3 p0 p1
        generalize P / 9223372036854775808 = x at *
        generalize R / 9223372036854775808 = y at *
        generalize P % 9223372036854775808 = x1 at *
        generalize R % 9223372036854775808 = y1 at *
        go_enter Try.func16, Try.ntmps16
        go_wp2_with (first
          | (go_at_call 10; (first | (with_reducible refine (C.out _).mono ?_; rintro e w' ⟨rfl, rfl⟩) | (with_reducible refine (D.out _).mono ?_; rintro e w' ⟨rfl, rfl⟩))))
        go_ret
        exact ⟨rfl, rfl⟩
    · have e : decide (P < R) = false := by simp; omega
      rw [e]
      clear e
      have t2 : (P / 9223372036854775808 == R / 9223372036854775808) = false := by simpa using h2
      clear h1 h2 p0 p1
      generalize P / 9223372036854775808 = x at *
      generalize R / 9223372036854775808 = y at *
      generalize P % 9223372036854775808 = x1 at *
      generalize R % 9223372036854775808 = y1 at *
      go_enter Try.func16, Try.ntmps16
      go_wp2_with (first
        | (go_at_call 10; (first | (with_reducible refine (C.out _).mono ?_; rintro e w' ⟨rfl, rfl⟩) | (with_reducible refine (D.out _).mono ?_; rintro e w' ⟨rfl, rfl⟩))))
      go_ret
      exact ⟨rfl, rfl⟩
theorem less_is (a b c d : Int) (t : Bool) (w : World) (ha : fit a) (hb : fit b) (hc : fit c) (hd : fit d) (ha0 : 0 ≤ a) (hb0 : 0 ≤ b) (hc0 : 0 ≤ c) (hd0 : 0 ≤ d) (h : decide (a * b < c * d) = t) :
    Calls Try.prog 16 #[.int .i64 a, .int .i64 b, .int .i64 c, .int .i64 d] w fun e w' => e = .returned (.bool t) ∧ w = w' := by
  rw [← h]; exact less_pos a b c d w ha hb hc hd ha0 hb0 hc0 hd0
theorem mul_is (a b x y : Int) (w : World) (ha : fit a) (hb : fit b) (ha0 : 0 ≤ a) (hb0 : 0 ≤ b) (hx : a * b / 9223372036854775808 = x) (hy : a * b % 9223372036854775808 = y) :
    Calls Try.prog 10 #[.int .i64 a, .int .i64 b] w fun e w' => e = .returned (.tuple #[.int .i64 x, .int .i64 y, .bool true]) ∧ w = w' := by
  rw [← hx, ← hy]; exact mul_yes a b w ha hb ha0 hb0
theorem md_is (a b c q r : Int) (w : World) (ha : fit a) (hb : fit b) (hc : fit c) (ha0 : 0 ≤ a) (hb0 : 0 ≤ b) (hc0 : 1 ≤ c) (h : q ≤ 9223372036854775807) (hq : a * b / c = q) (hr : a * b % c = r) :
    Calls Try.prog 12 #[.int .i64 a, .int .i64 b, .int .i64 c] w fun e w' => e = .returned (.tuple #[.int .i64 q, .int .i64 r, .bool true]) ∧ ∃ n, w' = w.drewN n := by
  rw [← hq, ← hr]; exact md_yes a b c w ha hb hc ha0 hb0 hc0 (by omega)

/-! the small case -/
set_option maxHeartbeats 4000000 in
set_option maxRecDepth 100000 in
theorem small_true (w : World) :
    Calls Try.prog 9 #[] w fun e w' => e = .returned (.bool true) ∧ ∃ n, w' = w.drewN n := by
  have C1 := Lib.hid (fun W => mul_is 9223372036854775807 9223372036854775807 9223372036854775806 1 W (by unfold fit; omega) (by unfold fit; omega) (by omega) (by omega) (by rfl) (by rfl))
  have C2 := Lib.hid (fun W => mul_no (-1) 1 W (by omega))
  have C3 := Lib.hid (fun W => md_is 10 7 4 17 2 W (by unfold fit; omega) (by unfold fit; omega) (by unfold fit; omega) (by omega) (by omega) (by omega) (by omega) (by rfl) (by rfl))
  have C4 := Lib.hid (fun W => md_no 9223372036854775807 2 1 W (by unfold fit; omega) (by unfold fit; omega) (Or.inr (Or.inr (Or.inr (by decide)))))
  have C5 := Lib.hid (fun W => md_is 9223372036854775807 9223372036854775807 9223372036854775807 9223372036854775807 0 W (by unfold fit; omega) (by unfold fit; omega) (by unfold fit; omega) (by omega) (by omega) (by omega) (by omega) (by rfl) (by rfl))
  have C6 := Lib.hid (fun W => up_more 10 7 4 17 W (by unfold fit; omega) (by unfold fit; omega) (by unfold fit; omega) (by omega) (by omega) (by omega) (by decide) (by rfl) (by decide))
  have C7 := Lib.hid (fun W => up_no 1 1 0 W (by unfold fit; omega) (by unfold fit; omega) (by omega))
  have C8 := Lib.hid (fun W => less_is 2 3 7 1 true W (by unfold fit; omega) (by unfold fit; omega) (by unfold fit; omega) (by unfold fit; omega) (by omega) (by omega) (by omega) (by omega) (by rfl))
  have C9 := Lib.hid (fun W => less_is 2 3 6 1 false W (by unfold fit; omega) (by unfold fit; omega) (by unfold fit; omega) (by unfold fit; omega) (by omega) (by omega) (by omega) (by omega) (by rfl))
  have C10 := Lib.hid (fun W => less_neg (-1) 1 6 1 W (by unfold fit; omega) (by unfold fit; omega) (by unfold fit; omega) (by unfold fit; omega) (by omega))
  go_enter Try.func9, Try.ntmps9
  go_wp2_with (first
    | (go_at_call 10; (first | (with_reducible refine (C1.out _).mono ?_; rintro e w' ⟨rfl, rfl⟩) | (with_reducible refine (C2.out _).mono ?_; rintro e w' ⟨rfl, rfl⟩)))
    | (go_at_call 12; (first | (with_reducible refine (C3.out _).mono ?_; rintro e w' ⟨rfl, n3, rfl⟩) | (with_reducible refine (C4.out _).mono ?_; rintro e w' ⟨rfl, n4, rfl⟩) | (with_reducible refine (C5.out _).mono ?_; rintro e w' ⟨rfl, n5, rfl⟩)))
    | (go_at_call 14; (first | (with_reducible refine (C6.out _).mono ?_; rintro e w' ⟨rfl, n6, rfl⟩) | (with_reducible refine (C7.out _).mono ?_; rintro e w' ⟨rfl, n7, rfl⟩)))
    | (go_at_call 16; (first | (with_reducible refine (C8.out _).mono ?_; rintro e w' ⟨rfl, rfl⟩) | (with_reducible refine (C9.out _).mono ?_; rintro e w' ⟨rfl, rfl⟩) | (with_reducible refine (C10.out _).mono ?_; rintro e w' ⟨rfl, rfl⟩))))
  go_ret
  exact ⟨rfl, _, rfl⟩
end Go.Proofs.Ytfebdpiefhaddaa.wide
