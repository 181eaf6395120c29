/-
  Plain mathematics for layer 2: one digit of a long division of two words, and what shifts and halves of products are. No program is walked here.
-/
import Derived.Test.YtfebdpiefhaddaaRows
import Derived.Laws.MathBits
import Derived.Laws.Bits64b
namespace Go.Proofs.Ytfebdpiefhaddaa.wm
set_option linter.unusedVariables false

/-- where a digit's guess q, with its rest r, stands: not below the true digit, and not far above it -/
def Dig (u un y1 y0 q r : Int) : Prop :=
  u = q * y1 + r ∧ (u * 4294967296 + un) / (y1 * 4294967296 + y0) ≤ q ∧ q ≤ 4294967297 ∧ 0 ≤ r

theorem off (u un y1 y0 q r : Int) (h : u = q * y1 + r) : u * 4294967296 + un = q * (y1 * 4294967296 + y0) + (r * 4294967296 + un - q * y0) := by
  subst h; grind

theorem quo_le_of (n y q : Int) (hy : 0 < y) (h : n < (q + 1) * y) : n / y ≤ q := by
  have := Int.ediv_lt_of_lt_mul hy h; omega
theorem le_quo_of (n y q : Int) (hy : 0 < y) (h : q * y ≤ n) : q ≤ n / y := Int.le_ediv_of_mul_le hy h

theorem dig_first (u un y1 y0 : Int) (hu : 0 ≤ u) (hy : u < y1 * 4294967296 + y0) (h1 : 2147483648 ≤ y1) (h2 : y1 < 4294967296) (h3 : 0 ≤ y0) (h4 : y0 < 4294967296) (h5 : 0 ≤ un) (h6 : un < 4294967296) :
    Dig u un y1 y0 (u / y1) (u - u / y1 * y1) ∧ u - u / y1 * y1 < 4294967296 ∧ 0 ≤ u / y1 * y1 ∧ 0 ≤ u / y1 ∧ u / y1 * y1 ≤ u := by
  have hm := Int.mul_ediv_add_emod u y1
  have r1 := Int.emod_nonneg u (b := y1) (by omega)
  have r2 := Int.emod_lt_of_pos u (b := y1) (by omega)
  have hc : y1 * (u / y1) = u / y1 * y1 := Int.mul_comm _ _
  have hq0 : 0 ≤ u / y1 := Int.ediv_nonneg hu (by omega)
  have hle : u / y1 ≤ 4294967297 := by
    refine quo_le_of _ _ _ (by omega) ?_
    omega
  have hnn : 0 ≤ u / y1 * y1 := Int.mul_nonneg hq0 (by omega)
  refine ⟨⟨by omega, ?_, hle, by omega⟩, by omega, by omega, hq0, by omega⟩
  refine quo_le_of _ _ _ (by omega) ?_
  have e : (u / y1 + 1) * (y1 * 4294967296 + y0) = (u / y1 * y1) * 4294967296 + u / y1 * y0 + y1 * 4294967296 + y0 := by grind
  rw [e]
  have : 0 ≤ u / y1 * y0 := Int.mul_nonneg hq0 h3
  omega

theorem dig_stop {u un y1 y0 q r : Int} (h : Dig u un y1 y0 q r) (h1 : 2147483648 ≤ y1) (h3 : 0 ≤ y0) (ht : q * y0 ≤ r * 4294967296 + un) :
    q = (u * 4294967296 + un) / (y1 * 4294967296 + y0) := by
  obtain ⟨he, hq, _, _⟩ := h
  have ho := off u un y1 y0 q r he
  have := le_quo_of (u * 4294967296 + un) (y1 * 4294967296 + y0) q (by omega) (by omega)
  omega
theorem dig_small {u un y1 y0 : Int} (hu : 0 ≤ u) (hy : u < y1 * 4294967296 + y0) (h1 : 2147483648 ≤ y1) (h3 : 0 ≤ y0) (h5 : 0 ≤ un) (h6 : un < 4294967296) :
    0 ≤ (u * 4294967296 + un) / (y1 * 4294967296 + y0) ∧ (u * 4294967296 + un) / (y1 * 4294967296 + y0) < 4294967296 := by
  refine ⟨Int.ediv_nonneg (by omega) (by omega), ?_⟩
  have := quo_le_of (u * 4294967296 + un) (y1 * 4294967296 + y0) 4294967295 (by omega) (by omega)
  omega
theorem dig_go {u un y1 y0 q r : Int} (h : Dig u un y1 y0 q r) (hu : 0 ≤ u) (hy : u < y1 * 4294967296 + y0) (h1 : 2147483648 ≤ y1) (h3 : 0 ≤ y0) (h5 : 0 ≤ un) (h6 : un < 4294967296)
    (ht : 4294967296 ≤ q ∨ r * 4294967296 + un < q * y0) :
    Dig u un y1 y0 (q - 1) (r + y1) ∧ q - 1 ≤ 4294967296 ∧ 1 ≤ q := by
  obtain ⟨he, hq, hl, hr⟩ := h
  have ho := off u un y1 y0 q r he
  have hs := dig_small (un := un) hu hy h1 h3 h5 h6
  have hlt : (u * 4294967296 + un) / (y1 * 4294967296 + y0) ≤ q - 1 := by
    rcases ht with ht | ht
    · omega
    · refine quo_le_of _ _ _ (by omega) ?_
      rw [Int.sub_add_cancel]
      omega
  refine ⟨⟨by rw [Int.sub_mul]; omega, hlt, by omega, by omega⟩, by omega, by omega⟩
theorem dig_break {u un y1 y0 q r : Int} (h : Dig u un y1 y0 q r) (h1 : 2147483648 ≤ y1) (h3 : 0 ≤ y0) (h4 : y0 < 4294967296) (h5 : 0 ≤ un) (hq0 : 0 ≤ q) (hq : q ≤ 4294967296) (hr : 4294967296 ≤ r) :
    q = (u * 4294967296 + un) / (y1 * 4294967296 + y0) := by
  refine dig_stop h h1 h3 ?_
  have : q * y0 ≤ 4294967296 * y0 := Int.mul_le_mul_of_nonneg_right hq h3
  omega

/-- the rest that is left of a digit, reckoned round 2^64 -/
theorem left_over (u un y : Int) (hu : 0 ≤ u) (hy : u < y) (hy2 : y < 18446744073709551616) (h5 : 0 ≤ un) (h6 : un < 4294967296) :
    IntKind.u64.wrap (IntKind.u64.wrap (IntKind.u64.wrap (u * 4294967296) + un) - IntKind.u64.wrap ((u * 4294967296 + un) / y * y)) = (u * 4294967296 + un) % y := by
  have hm := Int.mul_ediv_add_emod (u * 4294967296 + un) y
  have r1 := Int.emod_nonneg (u * 4294967296 + un) (b := y) (by omega)
  have r2 := Int.emod_lt_of_pos (u * 4294967296 + un) (b := y) (by omega)
  rw [Int.mul_comm] at hm
  simp only [IntKind.wrap_u64]
  generalize (u * 4294967296 + un) / y * y = M at *
  generalize (u * 4294967296 + un) % y = R at *
  omega

/-- the same, of a divisor that is cut into its own two digits -/
theorem halves (Y : Int) : Y / 4294967296 * 4294967296 + Y % 4294967296 = Y := by omega
theorem dg_first (u un Y : Int) (hu : 0 ≤ u) (hy : u < Y) (h1 : 9223372036854775808 ≤ Y) (h2 : Y < 18446744073709551616) (h5 : 0 ≤ un) (h6 : un < 4294967296) :
    Dig u un (Y / 4294967296) (Y % 4294967296) (u / (Y / 4294967296)) (u - u / (Y / 4294967296) * (Y / 4294967296)) ∧ u - u / (Y / 4294967296) * (Y / 4294967296) < 4294967296 ∧ 0 ≤ u / (Y / 4294967296) * (Y / 4294967296) ∧ 0 ≤ u / (Y / 4294967296) ∧ u / (Y / 4294967296) * (Y / 4294967296) ≤ u :=
  dig_first u un (Y / 4294967296) (Y % 4294967296) hu (by omega) (by omega) (by omega) (by omega) (by omega) h5 h6
theorem dg_stop {u un Y a b Q : Int} (h : Dig u un (Y / 4294967296) (Y % 4294967296) a b) (h1 : 9223372036854775808 ≤ Y) (hQ : (u * 4294967296 + un) / Y = Q) (ht : a * (Y % 4294967296) ≤ 4294967296 * b + un) : a = Q := by
  have := dig_stop h (by omega) (by omega) (by omega)
  rw [halves, hQ] at this
  exact this
theorem dg_go {u un Y a b : Int} (h : Dig u un (Y / 4294967296) (Y % 4294967296) a b) (hu : 0 ≤ u) (hy : u < Y) (h1 : 9223372036854775808 ≤ Y) (h5 : 0 ≤ un) (h6 : un < 4294967296)
    (ht : 4294967296 ≤ a ∨ 4294967296 * b + un < a * (Y % 4294967296)) :
    Dig u un (Y / 4294967296) (Y % 4294967296) (a - 1) (b + Y / 4294967296) ∧ a - 1 ≤ 4294967296 ∧ 1 ≤ a ∧ 0 ≤ b :=
  have hd := h
  have g := dig_go h hu (by omega) (by omega) (by omega) h5 h6 (by omega)
  ⟨g.1, g.2.1, g.2.2, hd.2.2.2⟩
theorem dg_break {u un Y a b Q : Int} (h : Dig u un (Y / 4294967296) (Y % 4294967296) a b) (h1 : 9223372036854775808 ≤ Y) (h5 : 0 ≤ un) (hQ : (u * 4294967296 + un) / Y = Q) (hq0 : 0 ≤ a) (hq : a ≤ 4294967296) (hr : 4294967296 ≤ b) : a = Q := by
  have := dig_break h (by omega) (by omega) (by omega) h5 hq0 hq hr
  rw [halves, hQ] at this
  exact this
theorem dg_pos {u un Y a b : Int} (h : Dig u un (Y / 4294967296) (Y % 4294967296) a b) (hu : 0 ≤ u) (h1 : 9223372036854775808 ≤ Y) (h5 : 0 ≤ un) : 0 ≤ a ∧ 0 ≤ b ∧ a ≤ 4294967297 := by
  obtain ⟨_, h2, h3, h4⟩ := h
  rw [halves] at h2
  have : 0 ≤ (u * 4294967296 + un) / Y := Int.ediv_nonneg (by omega) (by omega)
  exact ⟨by omega, h4, h3⟩
theorem dg_small {u un Y : Int} (hu : 0 ≤ u) (hy : u < Y) (h1 : 9223372036854775808 ≤ Y) (h5 : 0 ≤ un) (h6 : un < 4294967296) : 0 ≤ (u * 4294967296 + un) / Y ∧ (u * 4294967296 + un) / Y < 4294967296 := by
  have := dig_small (u := u) (un := un) (y1 := Y / 4294967296) (y0 := Y % 4294967296) hu (by omega) (by omega) (by omega) h5 h6
  rw [halves] at this
  exact this
/-- a product of a small digit and a low half fits -/
theorem small_prod (a c : Int) (h1 : 0 ≤ a) (h2 : a < 4294967296) (h3 : 0 ≤ c) (h4 : c < 4294967296) : 0 ≤ a * c ∧ a * c ≤ 18446744065119617025 := prod_bound a c h1 (by omega) h3 (by omega)

theorem pow_pos (s : Nat) : (0 : Int) < 2 ^ s := Int.pow_pos (by decide)
/-- two digits make the whole quotient, and its rest -/
theorem two_digits (n y x a b : Int) (hy : 0 < y) (e : n = x * 18446744073709551616 + a * 4294967296 + b) :
    n / y = (x * 4294967296 + a) / y * 4294967296 + ((x * 4294967296 + a) % y * 4294967296 + b) / y ∧ n % y = ((x * 4294967296 + a) % y * 4294967296 + b) % y := by
  have hm := Int.mul_ediv_add_emod (x * 4294967296 + a) y
  have e2 : n = ((x * 4294967296 + a) % y * 4294967296 + b) + y * ((x * 4294967296 + a) / y * 4294967296) := by
    rw [e]
    have : y * ((x * 4294967296 + a) / y * 4294967296) = (y * ((x * 4294967296 + a) / y)) * 4294967296 := by rw [Int.mul_assoc]
    rw [this]
    omega
  rw [e2]
  refine ⟨?_, Int.add_mul_emod_self_left _ _ _⟩
  rw [Int.add_mul_ediv_left _ _ (by omega)]
  have hz : (((x * 4294967296 + a) % y * 4294967296 + b) + y * ((x * 4294967296 + a) / y * 4294967296)) = x * 4294967296 * 4294967296 + a * 4294967296 + b := by rw [← e2, e]; omega
  omega
/-- shifted quotients -/
theorem shifted (n y : Int) (s : Nat) (hy : 0 < y) : (n * 2 ^ s) / (y * 2 ^ s) = n / y ∧ (n * 2 ^ s) % (y * 2 ^ s) / 2 ^ s = n % y := by
  have hp := pow_pos s
  refine ⟨Int.mul_ediv_mul_of_pos_left _ _ hp, ?_⟩
  rw [Int.mul_comm n, Int.mul_comm y, Int.mul_emod_mul_of_pos _ _ hp, Int.mul_ediv_cancel_left _ (by omega)]
end Go.Proofs.Ytfebdpiefhaddaa.wm
