/-
  What math/bits' Div64 answers: the quotient and the rest of a number of two words by one that is greater than its high word. Conditions: the arguments are words of 64 bits, the high one below the divisor.
-/
import Derived.Test.YtfebdpiefhaddaaBits
namespace Go.Proofs.Ytfebdpiefhaddaa.bits
open Go.ChangeShapes Go.WideShapes Go.ChangeAt Go.RowKit
open wm
set_option linter.unusedVariables false

/-- where no high word is -/
theorem div64_low (lo y : Int) (w : World) (hl0 : 0 ≤ lo) (hl : lo < 18446744073709551616) (hy0 : 1 ≤ y) (hy : y < 18446744073709551616) :
    Calls Try.prog 20 #[.int .u64 0, .int .u64 lo, .int .u64 y] w fun e w' => e = .returned (.tuple #[.int .u64 (lo / y), .int .u64 (lo % y)]) ∧ ∃ n, w' = w.drewN n := by
  have hne : (y == 0) = false := by simp; omega
  have hle : decide (y ≤ 0) = false := by simp; omega
  go_enter Try.func20, Try.ntmps20
  go_wp2
  go_quiet (fail)
  go_wp2
  go_ret2
  exact ⟨rfl, _, rfl⟩

set_option maxHeartbeats 8000000 in
set_option maxRecDepth 100000 in
theorem div64_high (hi lo y s Y U L Q V P R : Int) (w : World) (hh : 1 ≤ hi) (hhy : hi < y) (hl0 : 0 ≤ lo) (hl : lo < 18446744073709551616) (hy : y < 18446744073709551616)
    (hs : s = lack y) (hs0 : 0 ≤ s) (hs1 : s ≤ 63)
    (hY : IntKind.u64.wrap (y * 2 ^ s.toNat) = Y) (hU : Go.bits .or .u64 (IntKind.u64.wrap (hi * 2 ^ s.toNat)) (lo / 2 ^ (64 - s).toNat) = U) (hL : IntKind.u64.wrap (lo * 2 ^ s.toNat) = L)
    (hY1 : 9223372036854775808 ≤ Y) (hY2 : Y < 18446744073709551616) (hU0 : 0 ≤ U) (hUY : U < Y) (hL0 : 0 ≤ L) (hL1 : L < 18446744073709551616)
    (hQ : (U * 4294967296 + L / 4294967296) / Y = Q) (hV : (U * 4294967296 + L / 4294967296) % Y = V) (hP : (V * 4294967296 + L % 4294967296) / Y = P) (hR : (V * 4294967296 + L % 4294967296) % Y = R) :
    Calls Try.prog 20 #[.int .u64 hi, .int .u64 lo, .int .u64 y] w fun e w' => e = .returned (.tuple #[.int .u64 (Q * 4294967296 + P), .int .u64 (R / 2 ^ s.toNat)]) ∧ w = w' := by
  have C : Hid (∀ W, Calls Try.prog 21 #[.int .u64 y] W fun e w' => e = .returned (.int .i64 s) ∧ W = w') := by
    intro W; rw [hs]; exact lead64 y W (by omega) hy
  clear hs
  have hn1 : (y == 0) = false := by simp; omega
  have hn2 : (hi == 0) = false := by simp; omega
  have hn3 : decide (y ≤ hi) = false := by simp; omega
  have a1 : Go.bits .and .u64 Y 4294967295 = Y % 4294967296 := and_low32 Y (by omega) hY2
  have a2 : Go.bits .and .u64 L 4294967295 = L % 4294967296 := and_low32 L hL0 hL1
  have y1 : 2147483648 ≤ Y / 4294967296 := by omega
  have y2 : Y / 4294967296 < 4294967296 := by omega
  have y3 : 0 ≤ Y % 4294967296 := by omega
  have y4 : Y % 4294967296 < 4294967296 := by omega
  have yz : (Y / 4294967296 == 0) = false := by simp; omega
  have l1 : 0 ≤ L / 4294967296 := by omega
  have l2 : L / 4294967296 < 4294967296 := by omega
  have l3 : 0 ≤ L % 4294967296 := by omega
  have l4 : L % 4294967296 < 4294967296 := by omega
  have V1 : 0 ≤ V := by rw [← hV]; exact Int.emod_nonneg _ (by omega)
  have V2 : V < Y := by rw [← hV]; exact Int.emod_lt_of_pos _ (by omega)
  have R1 : 0 ≤ R := by rw [← hR]; exact Int.emod_nonneg _ (by omega)
  have R2 : R < Y := by rw [← hR]; exact Int.emod_lt_of_pos _ (by omega)
  obtain ⟨Q1, Q2⟩ := dg_small hU0 hUY hY1 l1 l2
  obtain ⟨P1, P2⟩ := dg_small V1 V2 hY1 l3 l4
  rw [hQ] at Q1 Q2
  rw [hP] at P1 P2
  have LO1 := left_over U (L / 4294967296) Y hU0 hUY hY2 l1 l2
  have LO2 := left_over V (L % 4294967296) Y V1 V2 hY2 l3 l4
  rw [hQ, hV] at LO1
  rw [hP, hR] at LO2
  have HQ := Lib.hid hQ
  have HP := Lib.hid hP
  clear hQ hV hP hR
  obtain ⟨F1, F2, F3, F4, F5⟩ := dg_first U (L / 4294967296) Y hU0 hUY hY1 hY2 l1 l2
  obtain ⟨G1, G2, G3, G4, G5⟩ := dg_first V (L % 4294967296) Y V1 V2 hY1 hY2 l3 l4
  have HF := Lib.hid F1
  have HG := Lib.hid G1
  clear F1 G1
  go_enter Try.func20, Try.ntmps20
  go_wp2_with (go_at_call 21; with_reducible refine (C.out _).mono ?_; rintro e w' ⟨rfl, rfl⟩)
  go_loop [15, 16] (fun q r => ∃ a b : Int, q = .int .u64 a ∧ r = .int .u64 b ∧ Hid (Dig U (L / 4294967296) (Y / 4294967296) (Y % 4294967296) a b) ∧ b < 4294967296) (fun _ r => (4294967296 - intOf r).toNat)
  case atStart => exact ⟨_, _, rfl, rfl, HF, F2⟩
  case round =>
    obtain ⟨a, b, rfl, rfl, HD, hb⟩ := hrel
    obtain ⟨p1, p2, p3⟩ := dg_pos HD.out hU0 hY1 l1
    by_cases t1 : 4294967296 ≤ a
    · obtain ⟨D1, D2, D3, D4⟩ := dg_go HD.out hU0 hUY hY1 l1 l2 (Or.inl t1)
      have HD' := Lib.hid D1
      clear D1
      by_cases t3 : 4294967296 ≤ b + Y / 4294967296
      · obtain rfl : a = Q + 1 := by have := dg_break HD'.out hY1 l1 HQ.out (by omega) D2 t3; omega
        clear HD HD'
        go_wp2
        go_loop [16, 18] (fun r q => ∃ a b : Int, q = .int .u64 a ∧ r = .int .u64 b ∧ Hid (Dig V (L % 4294967296) (Y / 4294967296) (Y % 4294967296) a b) ∧ b < 4294967296) (fun r _ => (4294967296 - intOf r).toNat)
        case atStart => exact ⟨_, _, rfl, rfl, HG, G2⟩
        case round =>
          obtain ⟨a, b, rfl, rfl, HD, hb⟩ := hrel
          obtain ⟨p1, p2, p3⟩ := dg_pos HD.out V1 hY1 l3
          by_cases t1 : 4294967296 ≤ a
          · obtain ⟨D1, D2, D3, D4⟩ := dg_go HD.out V1 V2 hY1 l3 l4 (Or.inl t1)
            have HD' := Lib.hid D1
            clear D1
            by_cases t3 : 4294967296 ≤ b + Y / 4294967296
            · obtain rfl : a = P + 1 := by have := dg_break HD'.out hY1 l3 HP.out (by omega) D2 t3; omega
              clear HD HD'
              go_wp2
              go_ret2
              exact ⟨rfl, rfl⟩
            · go_wp2
              go_round
              case rel => exact ⟨_, _, rfl, rfl, HD', by omega⟩
              case measure => simp [intOf]; omega
          · obtain ⟨m1, m2⟩ := small_prod a (Y % 4294967296) p1 (by omega) y3 y4
            by_cases t2 : 4294967296 * b + L % 4294967296 < a * (Y % 4294967296)
            · obtain ⟨D1, D2, D3, D4⟩ := dg_go HD.out V1 V2 hY1 l3 l4 (Or.inr t2)
              have HD' := Lib.hid D1
              clear D1
              by_cases t3 : 4294967296 ≤ b + Y / 4294967296
              · have e := dg_break HD'.out hY1 l3 HP.out (by omega) D2 t3
                obtain rfl : a = P + 1 := by omega
                clear HD HD' e
                go_wp2
                go_ret2
                exact ⟨rfl, rfl⟩
              · go_wp2
                go_round
                case rel => exact ⟨_, _, rfl, rfl, HD', by omega⟩
                case measure => simp [intOf]; omega
            · obtain rfl := dg_stop HD.out hY1 HP.out (by omega)
              clear HD
              go_wp2
              go_ret2
              exact ⟨rfl, rfl⟩
      · go_wp2
        go_round
        case rel => exact ⟨_, _, rfl, rfl, HD', by omega⟩
        case measure => simp [intOf]; omega
    · obtain ⟨m1, m2⟩ := small_prod a (Y % 4294967296) p1 (by omega) y3 y4
      by_cases t2 : 4294967296 * b + L / 4294967296 < a * (Y % 4294967296)
      · obtain ⟨D1, D2, D3, D4⟩ := dg_go HD.out hU0 hUY hY1 l1 l2 (Or.inr t2)
        have HD' := Lib.hid D1
        clear D1
        by_cases t3 : 4294967296 ≤ b + Y / 4294967296
        · have e := dg_break HD'.out hY1 l1 HQ.out (by omega) D2 t3
          obtain rfl : a = Q + 1 := by omega
          clear HD HD' e
          go_wp2
          go_loop [16, 18] (fun r q => ∃ a b : Int, q = .int .u64 a ∧ r = .int .u64 b ∧ Hid (Dig V (L % 4294967296) (Y / 4294967296) (Y % 4294967296) a b) ∧ b < 4294967296) (fun r _ => (4294967296 - intOf r).toNat)
          case atStart => exact ⟨_, _, rfl, rfl, HG, G2⟩
          case round =>
            obtain ⟨a, b, rfl, rfl, HD, hb⟩ := hrel
            obtain ⟨p1, p2, p3⟩ := dg_pos HD.out V1 hY1 l3
            by_cases t1 : 4294967296 ≤ a
            · obtain ⟨D1, D2, D3, D4⟩ := dg_go HD.out V1 V2 hY1 l3 l4 (Or.inl t1)
              have HD' := Lib.hid D1
              clear D1
              by_cases t3 : 4294967296 ≤ b + Y / 4294967296
              · obtain rfl : a = P + 1 := by have := dg_break HD'.out hY1 l3 HP.out (by omega) D2 t3; omega
                clear HD HD'
                go_wp2
                go_ret2
                exact ⟨rfl, rfl⟩
              · go_wp2
                go_round
                case rel => exact ⟨_, _, rfl, rfl, HD', by omega⟩
                case measure => simp [intOf]; omega
            · obtain ⟨m1, m2⟩ := small_prod a (Y % 4294967296) p1 (by omega) y3 y4
              by_cases t2 : 4294967296 * b + L % 4294967296 < a * (Y % 4294967296)
              · obtain ⟨D1, D2, D3, D4⟩ := dg_go HD.out V1 V2 hY1 l3 l4 (Or.inr t2)
                have HD' := Lib.hid D1
                clear D1
                by_cases t3 : 4294967296 ≤ b + Y / 4294967296
                · have e := dg_break HD'.out hY1 l3 HP.out (by omega) D2 t3
                  obtain rfl : a = P + 1 := by omega
                  clear HD HD' e
                  go_wp2
                  go_ret2
                  exact ⟨rfl, rfl⟩
                · go_wp2
                  go_round
                  case rel => exact ⟨_, _, rfl, rfl, HD', by omega⟩
                  case measure => simp [intOf]; omega
              · obtain rfl := dg_stop HD.out hY1 HP.out (by omega)
                clear HD
                go_wp2
                go_ret2
                exact ⟨rfl, rfl⟩
        · go_wp2
          go_round
          case rel => exact ⟨_, _, rfl, rfl, HD', by omega⟩
          case measure => simp [intOf]; omega
      · obtain rfl := dg_stop HD.out hY1 HQ.out (by omega)
        clear HD
        go_wp2
        go_loop [16, 18] (fun r q => ∃ a b : Int, q = .int .u64 a ∧ r = .int .u64 b ∧ Hid (Dig V (L % 4294967296) (Y / 4294967296) (Y % 4294967296) a b) ∧ b < 4294967296) (fun r _ => (4294967296 - intOf r).toNat)
        case atStart => exact ⟨_, _, rfl, rfl, HG, G2⟩
        case round =>
          obtain ⟨a, b, rfl, rfl, HD, hb⟩ := hrel
          obtain ⟨p1, p2, p3⟩ := dg_pos HD.out V1 hY1 l3
          by_cases t1 : 4294967296 ≤ a
          · obtain ⟨D1, D2, D3, D4⟩ := dg_go HD.out V1 V2 hY1 l3 l4 (Or.inl t1)
            have HD' := Lib.hid D1
            clear D1
            by_cases t3 : 4294967296 ≤ b + Y / 4294967296
            · obtain rfl : a = P + 1 := by have := dg_break HD'.out hY1 l3 HP.out (by omega) D2 t3; omega
              clear HD HD'
              go_wp2
              go_ret2
              exact ⟨rfl, rfl⟩
            · go_wp2
              go_round
              case rel => exact ⟨_, _, rfl, rfl, HD', by omega⟩
              case measure => simp [intOf]; omega
          · obtain ⟨m1, m2⟩ := small_prod a (Y % 4294967296) p1 (by omega) y3 y4
            by_cases t2 : 4294967296 * b + L % 4294967296 < a * (Y % 4294967296)
            · obtain ⟨D1, D2, D3, D4⟩ := dg_go HD.out V1 V2 hY1 l3 l4 (Or.inr t2)
              have HD' := Lib.hid D1
              clear D1
              by_cases t3 : 4294967296 ≤ b + Y / 4294967296
              · have e := dg_break HD'.out hY1 l3 HP.out (by omega) D2 t3
                obtain rfl : a = P + 1 := by omega
                clear HD HD' e
                go_wp2
                go_ret2
                exact ⟨rfl, rfl⟩
              · go_wp2
                go_round
                case rel => exact ⟨_, _, rfl, rfl, HD', by omega⟩
                case measure => simp [intOf]; omega
            · obtain rfl := dg_stop HD.out hY1 HP.out (by omega)
              clear HD
              go_wp2
              go_ret2
              exact ⟨rfl, rfl⟩

/-- a word that is shifted up, and the bits that come in from the lower word -/
theorem join_words (hi lo : Int) (S : Nat) (hS : S ≤ 63) (h0 : 0 ≤ hi) (h1 : hi * 2 ^ S < 18446744073709551616) (hl0 : 0 ≤ lo) (hl : lo < 18446744073709551616) :
    Go.bits .or .u64 (IntKind.u64.wrap (hi * 2 ^ S)) (lo / 2 ^ (64 - S)) = hi * 2 ^ S + lo / 2 ^ (64 - S) ∧
    (hi * 18446744073709551616 + lo) * 2 ^ S = (hi * 2 ^ S + lo / 2 ^ (64 - S)) * 18446744073709551616 + lo * 2 ^ S % 18446744073709551616 ∧ 0 ≤ lo / 2 ^ (64 - S) := by
  obtain ⟨H, rfl⟩ := Int.eq_ofNat_of_zero_le h0
  obtain ⟨M, rfl⟩ := Int.eq_ofNat_of_zero_le hl0
  have hp : 2 ^ S * 2 ^ (64 - S) = 18446744073709551616 := by rw [← Nat.pow_add, show S + (64 - S) = 64 by omega]
  have e1 : (H : Int) * 2 ^ S = ((2 ^ S * H : Nat) : Int) := by rw [Int.mul_comm]; simp
  have e2 : (M : Int) / 2 ^ (64 - S) = ((M / 2 ^ (64 - S) : Nat) : Int) := by simp
  have e3 : (M : Int) * 2 ^ S = ((2 ^ S * M : Nat) : Int) := by rw [Int.mul_comm]; simp
  have hlt : M / 2 ^ (64 - S) < 2 ^ S := by
    rw [Nat.div_lt_iff_lt_mul (Nat.two_pow_pos _), hp]; omega
  have hd : M / 2 ^ (64 - S) = 2 ^ S * M / 18446744073709551616 := by
    rw [← hp, Nat.mul_div_mul_left _ _ (Nat.two_pow_pos _)]
  have h3 : M / 2 ^ (64 - S) ≤ M := Nat.div_le_self _ _
  have hw : IntKind.u64.wrap ((2 ^ S * H : Nat) : Int) = ((2 ^ S * H : Nat) : Int) := by rw [IntKind.wrap_u64]; omega
  have h4 : (((H : Int) * 18446744073709551616 + M) * 2 ^ S) = ((2 ^ S * H : Nat) : Int) * 18446744073709551616 + ((2 ^ S * M : Nat) : Int) := by
    rw [Int.add_mul, e3, Int.mul_right_comm, e1]
  rw [h4, e1, e2, e3, hw, bits_or_u64_nat _ _ (by omega) (by omega), ← Nat.two_pow_add_eq_or_of_lt hlt]
  refine ⟨by rw [Int.natCast_add], ?_, by omega⟩
  rw [hd]
  omega

theorem div64 (hi lo y : Int) (w : World) (hh : 0 ≤ hi) (hhy : hi < y) (hl0 : 0 ≤ lo) (hl : lo < 18446744073709551616) (hy : y < 18446744073709551616) :
    Calls Try.prog 20 #[.int .u64 hi, .int .u64 lo, .int .u64 y] w fun e w' => e = .returned (.tuple #[.int .u64 ((hi * 18446744073709551616 + lo) / y), .int .u64 ((hi * 18446744073709551616 + lo) % y)]) ∧ ∃ n, w' = w.drewN n := by
  by_cases hz : hi = 0
  · subst hz
    rw [Int.zero_mul, Int.zero_add]
    exact div64_low lo y w hl0 hl (by omega) hy
  · obtain ⟨b1, b2, b3, b4⟩ := lack_bounds y (by omega) hy
    have hp := pow_pos (lack y).toNat
    have hlt : hi * 2 ^ (lack y).toNat < y * 2 ^ (lack y).toNat := Int.mul_lt_mul_of_pos_right hhy hp
    have h0 : 0 ≤ hi * 2 ^ (lack y).toNat := Int.mul_nonneg hh (by omega)
    obtain ⟨j1, j2, j3⟩ := join_words hi lo (lack y).toNat (by omega) hh (by omega) hl0 hl
    have e64 : (64 - lack y).toNat = 64 - (lack y).toNat := by omega
    obtain ⟨s1, s2⟩ := shifted (hi * 18446744073709551616 + lo) y (lack y).toNat (by omega)
    have hN : (hi * 18446744073709551616 + lo) * 2 ^ (lack y).toNat < y * 2 ^ (lack y).toNat * 18446744073709551616 := by
      rw [Int.mul_right_comm]
      exact Int.mul_lt_mul_of_pos_right (by omega) hp
    have hm0 : 0 ≤ lo * 2 ^ (lack y).toNat % 18446744073709551616 := by omega
    have hm1 : lo * 2 ^ (lack y).toNat % 18446744073709551616 < 18446744073709551616 := by omega
    have hUY : hi * 2 ^ (lack y).toNat + lo / 2 ^ (64 - (lack y).toNat) < y * 2 ^ (lack y).toNat := by omega
    have hn : (hi * 18446744073709551616 + lo) * 2 ^ (lack y).toNat = (hi * 2 ^ (lack y).toNat + lo / 2 ^ (64 - (lack y).toNat)) * 18446744073709551616 + lo * 2 ^ (lack y).toNat % 18446744073709551616 / 4294967296 * 4294967296 + lo * 2 ^ (lack y).toNat % 18446744073709551616 % 4294967296 := by omega
    obtain ⟨d1, d2⟩ := two_digits _ (y * 2 ^ (lack y).toNat) _ _ _ (by omega) hn
    have key := div64_high hi lo y (lack y) (y * 2 ^ (lack y).toNat) (hi * 2 ^ (lack y).toNat + lo / 2 ^ (64 - (lack y).toNat)) (lo * 2 ^ (lack y).toNat % 18446744073709551616) _ _ _ _ w (by omega) hhy hl0 hl hy rfl b1 b2
      (by rw [IntKind.wrap_u64]; omega) (by rw [e64]; exact j1) (IntKind.wrap_u64 _) b3 b4 (by omega) hUY hm0 hm1 rfl rfl rfl rfl
    rw [← d1, ← d2, s1, s2] at key
    exact key.mono fun e w' ⟨he, hw⟩ => ⟨he, 0, hw.symm⟩

end Go.Proofs.Ytfebdpiefhaddaa.bits
