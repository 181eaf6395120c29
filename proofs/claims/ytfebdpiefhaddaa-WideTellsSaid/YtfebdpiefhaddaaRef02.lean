/-
  What the document's own product of layer 2 answers: the whole product in two words, for all numbers from 0 on.
-/
import Derived.Test.YtfebdpiefhaddaaWide
namespace Go.Proofs.Ytfebdpiefhaddaa.ref02
open Go.ChangeShapes Go.WideShapes Go.ChangeAt Go.RowKit
open wide (fit)
set_option linter.unusedVariables false

/-- what stands in the pair when the bits from i + 1 on have been gone over -/
def part (a b i : Int) : Int := a * (b / 2 ^ (i + 1).toNat)
def pairAt (w : World) (h l : Int) : World := (w.alloc (.cells #[.int .u64 0, .int .u64 0] 36)).alloc (.cells #[.int .u64 h, .int .u64 l] 36)

theorem bit_of (b i : Int) (hi : 0 ≤ i) : b / 2 ^ i.toNat = 2 * (b / 2 ^ (i + 1).toNat) + b / 2 ^ i.toNat % 2 := by
  have e : (i + 1).toNat = i.toNat + 1 := by omega
  rw [e, Int.pow_succ, ← Int.ediv_ediv_of_nonneg (Int.le_of_lt (wm.pow_pos _))]
  omega
theorem part_next (a b i : Int) (hi : 0 ≤ i) : part a b (i - 1) = 2 * part a b i + b / 2 ^ i.toNat % 2 * a := by
  unfold part
  have h := bit_of b i hi
  rw [show i - 1 + 1 = i by omega]
  generalize b / 2 ^ i.toNat % 2 = t at *
  rw [h]
  grind
theorem part_bounds (a b i : Int) (ha0 : 0 ≤ a) (ha : a ≤ 9223372036854775807) (hb0 : 0 ≤ b) (hb : b ≤ 9223372036854775807) : 0 ≤ part a b i ∧ part a b i ≤ 85070591730234615847396907784232501249 := by
  have h0 : 0 ≤ b / 2 ^ (i + 1).toNat := Int.ediv_nonneg hb0 (Int.le_of_lt (wm.pow_pos _))
  have h1 : b / 2 ^ (i + 1).toNat ≤ b := Int.ediv_le_self _ hb0
  exact wide.prod_bounds a _ ha0 ha h0 (by omega)
theorem part_first (a b : Int) (hb0 : 0 ≤ b) (hb : b ≤ 9223372036854775807) : part a b 63 = 0 := by
  unfold part
  have : b / 2 ^ ((63 : Int) + 1).toNat = 0 := Int.ediv_eq_zero_of_lt hb0 (by show b < 18446744073709551616; omega)
  rw [this, Int.mul_zero]
theorem part_last (a b : Int) : part a b (-1) = a * b := by
  unfold part
  show a * (b / 1) = a * b
  rw [Int.ediv_one]
theorem bit_and (x : Int) (h0 : 0 ≤ x) (h1 : x < 18446744073709551616) : Go.bits .and .u64 x 1 = x % 2 := by
  obtain ⟨n, rfl⟩ := Int.eq_ofNat_of_zero_le h0
  have h := bits_and_u64_nat n 1 (by omega) (by omega)
  rw [Nat.and_one_is_mod] at h
  refine Eq.trans h ?_
  omega

theorem pair_eq {w : World} {h l h' l' : Int} (e1 : h = h') (e2 : l = l') : (w.alloc (.cells #[.int .u64 0, .int .u64 0] 36)).alloc (.cells #[.int .u64 h, .int .u64 l] 36) = pairAt w h' l' := by rw [e1, e2]; rfl

set_option maxHeartbeats 8000000 in
theorem product (a b : Int) (w : World) (ha0 : 0 ≤ a) (ha : a ≤ 9223372036854775807) (hb0 : 0 ≤ b) (hb : b ≤ 9223372036854775807) :
    Calls Try.prog 19 #[.int .u64 a, .int .u64 b] w fun e w' => e = .returned (.agg #[.int .u64 (a * b / 18446744073709551616), .int .u64 (a * b % 18446744073709551616)]) ∧ Below w.heap.size w w' := by
  go_enter Try.func19, Try.ntmps19
  go_wp2
  go_loopw [6] (fun iv wr => ∃ i : Int, -1 ≤ i ∧ i ≤ 63 ∧ iv = .int .i64 i ∧ Hid (wr = pairAt w (part a b i / 18446744073709551616) (part a b i % 18446744073709551616))) (fun iv _ => (intOf iv + 1).toNat)
  case atStart => exact ⟨63, by omega, by omega, rfl, by rw [part_first a b hb0 hb]; rfl⟩
  case round =>
    obtain ⟨i, hi0, hi1, rfl, HW⟩ := hrel
    obtain ⟨b1, b2⟩ := part_bounds a b i ha0 ha hb0 hb
    have hw := HW.out
    unfold pairAt at hw
    subst hw
    clear HW
    by_cases hi : 0 ≤ i
    · have hn := part_next a b i hi
      have e1 := wide.hi_part (part a b i) b1 (by omega)
      have e2 : IntKind.u64.wrap (part a b i % 18446744073709551616 * 2) = part a b i * 2 % 18446744073709551616 := by rw [IntKind.wrap_u64]; omega
      have hbb : 0 ≤ b / 2 ^ i.toNat := Int.ediv_nonneg hb0 (Int.le_of_lt (wm.pow_pos _))
      have hbc : b / 2 ^ i.toNat ≤ b := Int.ediv_le_self _ hb0
      have e3 := bit_and (b / 2 ^ i.toNat) hbb (by omega)
      have HN := Lib.hid hn
      have h1 : 0 ≤ part a b i / 18446744073709551616 := by omega
      have h2 : part a b i / 18446744073709551616 ≤ 4611686018427387904 := by omega
      have l0 : 0 ≤ part a b i % 18446744073709551616 := by omega
      have l1 : part a b i % 18446744073709551616 < 18446744073709551616 := by omega
      have m0 : 0 ≤ part a b i * 2 % 18446744073709551616 := by omega
      have m1 : part a b i * 2 % 18446744073709551616 < 18446744073709551616 := by omega
      have g1 : part a b i / 9223372036854775808 ≤ 9223372036854775807 := by omega
      have g0 : 0 ≤ part a b i / 9223372036854775808 := by omega
      clear hn hbb hbc
      have hbit : b / 2 ^ i.toNat % 2 = 0 ∨ b / 2 ^ i.toNat % 2 = 1 := by omega
      rcases hbit with hz | hz
      · rw [hz] at e3 HN
        clear hz
        go_wp2
        go_roundw
        case rel => exact ⟨i - 1, by omega, by omega, rfl, pair_eq (by rw [HN.out]; omega) (by rw [HN.out]; omega)⟩
        case measure => simp [intOf]; omega
      · rw [hz] at e3 HN
        clear hz
        by_cases hc : part a b i * 2 % 18446744073709551616 + a < 18446744073709551616
        · have t1 : ¬ (part a b i * 2 % 18446744073709551616 + a < a) := by omega
          go_wp2
          go_roundw
          case rel => exact ⟨i - 1, by omega, by omega, rfl, pair_eq (by rw [HN.out]; omega) (by rw [HN.out]; omega)⟩
          case measure => simp [intOf]; omega
        · have e4 : IntKind.u64.wrap (part a b i * 2 % 18446744073709551616 + a) = part a b i * 2 % 18446744073709551616 + a - 18446744073709551616 := by rw [IntKind.wrap_u64]; omega
          have t1 : part a b i * 2 % 18446744073709551616 + a - 18446744073709551616 < a := by omega
          go_wp2
          go_roundw
          case rel => exact ⟨i - 1, by omega, by omega, rfl, pair_eq (by rw [HN.out]; omega) (by rw [HN.out]; omega)⟩
          case measure => simp [intOf]; omega
    · obtain rfl : i = -1 := by omega
      rw [part_last]
      clear b1 b2 hi0 hi1 hi
      go_wp2
      exact bodyPost_ret (v := .agg #[.int .u64 (a * b / 18446744073709551616), .int .u64 (a * b % 18446744073709551616)]) (by simp [results, Try.results19, go_sem]) rfl ⟨rfl, ((Below.refl _ _).alloc (Nat.le_refl _) _).alloc (by simp) _⟩

/-! Mul -/
theorem mul_yes (a b : Int) (w : World) (ha : fit a) (hb : fit b) (ha0 : 0 ≤ a) (hb0 : 0 ≤ b) :
    Calls Try.prog 11 #[.int .i64 a, .int .i64 b] w fun e w' => e = .returned (.tuple #[.int .i64 (a * b / 9223372036854775808), .int .i64 (a * b % 9223372036854775808), .bool true]) ∧ Below w.heap.size w w' := by
  obtain ⟨_, ha⟩ := ha; obtain ⟨_, hb⟩ := hb
  have C := Lib.hid (fun W => product a b W ha0 ha hb0 hb)
  obtain ⟨p0, p1⟩ := wide.prod_bounds a b ha0 ha hb0 hb
  have e1 := wide.hi_part (a * b) p0 (by omega)
  have e2 : IntKind.u64.wrap (a * b % 18446744073709551616 * 2) / 2 = a * b % 9223372036854775808 := by rw [IntKind.wrap_u64]; omega
  have h1 : 0 ≤ a * b / 18446744073709551616 := by omega
  have h2 : a * b / 18446744073709551616 ≤ 4611686018427387904 := by omega
  have h3 : 0 ≤ a * b / 9223372036854775808 := by omega
  have h4 : a * b / 9223372036854775808 ≤ 9223372036854775807 := by omega
  have h5 : 0 ≤ a * b % 9223372036854775808 := by omega
  have h6 : a * b % 9223372036854775808 ≤ 9223372036854775807 := by omega
  have t1 : decide (a < 0) = false := by simp; omega
  have t2 : decide (b < 0) = false := by simp; omega
  go_enter Try.func11, Try.ntmps11
  go_wp2_with (first
    | (go_at_call 19; (with_reducible refine (C.out _).mono ?_; rintro e w1 ⟨rfl, hb1⟩)))
  go_quiet (fail)
  go_wp2
  go_ret3
  exact ⟨rfl, below_drewN (hb1.alloc (by have := hb1.size; omega) _) _⟩
theorem mul_no (a b : Int) (w : World) (h : a < 0 ∨ b < 0) :
    Calls Try.prog 11 #[.int .i64 a, .int .i64 b] w fun e w' => e = .returned (.tuple #[.int .i64 0, .int .i64 0, .bool false]) ∧ Below w.heap.size w w' := by
  by_cases h1 : a < 0
  · clear h
    go_enter Try.func11, Try.ntmps11
    go_wp2
    go_ret3
    exact ⟨rfl, Below.refl _ _⟩
  · have h2 : b < 0 := by omega
    clear h
    go_enter Try.func11, Try.ntmps11
    go_wp2
    go_ret3
    exact ⟨rfl, Below.refl _ _⟩

/-! MulDiv: what the loop keeps -/
def top (P i : Int) : Int := P / 2 ^ (i + 1).toNat
def rot (P i : Int) : Int := P * 2 ^ (127 - i).toNat % 340282366920938463463374607431768211456
theorem top_first (P : Int) (h0 : 0 ≤ P) (h1 : P ≤ 85070591730234615847396907784232501249) : top P 127 = 0 := by
  unfold top
  exact Int.ediv_eq_zero_of_lt h0 (by show P < 340282366920938463463374607431768211456; omega)
theorem top_last (P : Int) : top P (-1) = P := by unfold top; show P / 1 = P; rw [Int.ediv_one]
theorem rot_first (P : Int) (h0 : 0 ≤ P) (h1 : P ≤ 85070591730234615847396907784232501249) : rot P 127 = P := by
  unfold rot
  show P * 1 % 340282366920938463463374607431768211456 = P
  omega
theorem rot_next (P i : Int) (hi : i ≤ 127) : rot P (i - 1) = rot P i * 2 % 340282366920938463463374607431768211456 := by
  unfold rot
  have e : (127 - (i - 1)).toNat = (127 - i).toNat + 1 := by omega
  rw [e, Int.pow_succ, ← Int.mul_assoc]
  generalize P * 2 ^ (127 - i).toNat = X
  omega
theorem rot_bit (P i : Int) (h0 : 0 ≤ P) (hi0 : 0 ≤ i) (hi : i ≤ 127) : rot P i / 18446744073709551616 / 9223372036854775808 = P / 2 ^ i.toNat % 2 := by
  obtain ⟨n, rfl⟩ := Int.eq_ofNat_of_zero_le h0
  unfold rot
  have hp : 2 ^ i.toNat * 2 ^ (127 - i).toNat = 170141183460469231731687303715884105728 := by
    rw [← Nat.pow_add, show i.toNat + (127 - i).toNat = 127 by omega]
  have e1 : (n : Int) * 2 ^ (127 - i).toNat = ((n * 2 ^ (127 - i).toNat : Nat) : Int) := by simp
  have e2 : (n : Int) / 2 ^ i.toNat = ((n / 2 ^ i.toNat : Nat) : Int) := by simp
  rw [e1, e2]
  have key : n * 2 ^ (127 - i).toNat % 340282366920938463463374607431768211456 / 170141183460469231731687303715884105728 = n / 2 ^ i.toNat % 2 := by
    rw [show (340282366920938463463374607431768211456 : Nat) = 2 * 2 ^ i.toNat * 2 ^ (127 - i).toNat by rw [Nat.mul_assoc, hp], ← hp, Nat.mul_mod_mul_right, Nat.mul_div_mul_right _ _ (Nat.two_pow_pos _)]
    exact Nat.mod_mul_left_div_self _ _ _
  omega
theorem top_next (P i : Int) (hi0 : 0 ≤ i) : top P (i - 1) = 2 * top P i + P / 2 ^ i.toNat % 2 := by
  unfold top
  rw [show i - 1 + 1 = i by omega]
  exact bit_of P i hi0
theorem rot_words (V : Int) (h0 : 0 ≤ V) (h1 : V < 340282366920938463463374607431768211456) :
    Go.bits .or .u64 (IntKind.u64.wrap (V / 18446744073709551616 * 2)) (V % 18446744073709551616 / 9223372036854775808) = V * 2 % 340282366920938463463374607431768211456 / 18446744073709551616 ∧
    IntKind.u64.wrap (V % 18446744073709551616 * 2) = V * 2 % 340282366920938463463374607431768211456 % 18446744073709551616 := by
  obtain ⟨n, rfl⟩ := Int.eq_ofNat_of_zero_le h0
  refine ⟨?_, by rw [IntKind.wrap_u64]; omega⟩
  have e1 : IntKind.u64.wrap ((n : Int) / 18446744073709551616 * 2) = ((2 ^ 1 * (n / 18446744073709551616 % 9223372036854775808) : Nat) : Int) := by rw [IntKind.wrap_u64]; omega
  have e2 : (n : Int) % 18446744073709551616 / 9223372036854775808 = ((n % 18446744073709551616 / 9223372036854775808 : Nat) : Int) := by omega
  rw [e1, e2, bits_or_u64_nat _ _ (by omega) (by omega), ← Nat.two_pow_add_eq_or_of_lt (by omega)]
  omega
theorem or_bit (x t : Int) (h0 : 0 ≤ x) (h1 : x < 9223372036854775808) (t0 : 0 ≤ t) (t1 : t ≤ 1) : Go.bits .or .u64 (x * 2) t = x * 2 + t := by
  obtain ⟨n, rfl⟩ := Int.eq_ofNat_of_zero_le h0
  obtain ⟨k, rfl⟩ := Int.eq_ofNat_of_zero_le t0
  have e1 : (n : Int) * 2 = ((2 ^ 1 * n : Nat) : Int) := by omega
  rw [e1, bits_or_u64_nat _ _ (by omega) (by omega), ← Nat.two_pow_add_eq_or_of_lt (by omega)]
  omega
/-- one bit more of a quotient -/
theorem quo_bit (T t c : Int) (hc : 1 ≤ c) (t0 : 0 ≤ t) (t1 : t ≤ 1) :
    (c ≤ T % c * 2 + t → (2 * T + t) / c = T / c * 2 + 1 ∧ (2 * T + t) % c = T % c * 2 + t - c) ∧ (T % c * 2 + t < c → (2 * T + t) / c = T / c * 2 ∧ (2 * T + t) % c = T % c * 2 + t) := by
  have hd := Int.mul_ediv_add_emod T c
  have r0 := Int.emod_nonneg T (b := c) (by omega)
  have r1 := Int.emod_lt_of_pos T (b := c) (by omega)
  constructor
  · intro h
    have e : 2 * T + t = (T % c * 2 + t - c) + c * (T / c * 2 + 1) := by
      have : c * (T / c * 2 + 1) = (c * (T / c)) * 2 + c := by rw [Int.mul_add, Int.mul_one, Int.mul_assoc]
      omega
    rw [e]
    refine ⟨?_, ?_⟩
    · rw [Int.add_mul_ediv_left _ _ (by omega), Int.ediv_eq_zero_of_lt (by omega) (by omega)]; omega
    · rw [Int.add_mul_emod_self_left, Int.emod_eq_of_lt (by omega) (by omega)]
  · intro h
    have e : 2 * T + t = (T % c * 2 + t) + c * (T / c * 2) := by
      have : c * (T / c * 2) = (c * (T / c)) * 2 := by rw [Int.mul_assoc]
      omega
    rw [e]
    refine ⟨?_, ?_⟩
    · rw [Int.add_mul_ediv_left _ _ (by omega), Int.ediv_eq_zero_of_lt (by omega) (by omega)]; omega
    · rw [Int.add_mul_emod_self_left, Int.emod_eq_of_lt (by omega) (by omega)]
/-- a great quotient of the first bits is a greater one of all -/
theorem too_great (P c i : Int) (h0 : 0 ≤ P) (hc : 1 ≤ c) (hi : 0 ≤ i) (h : 4611686018427387904 ≤ top P i / c) : 9223372036854775807 < P / c := by
  have h2 : top P i ≤ P / 2 := by
    unfold top
    rw [show (i + 1).toNat = 1 + i.toNat by omega, Int.pow_add, ← Int.ediv_ediv_of_nonneg (by decide)]
    exact Int.ediv_le_self _ (Int.ediv_nonneg h0 (by decide))
  have h3 : top P i / c ≤ P / 2 / c := Int.ediv_le_ediv (by omega) h2
  have h4 : P / 2 / c = P / c / 2 := by
    rw [Int.ediv_ediv_of_nonneg (by decide), Int.mul_comm, ← Int.ediv_ediv_of_nonneg (by omega)]
  omega
end Go.Proofs.Ytfebdpiefhaddaa.ref02
