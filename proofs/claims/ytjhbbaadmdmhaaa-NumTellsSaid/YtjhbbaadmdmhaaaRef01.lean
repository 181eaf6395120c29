/-
  What the document's own Add, Sub, Mul, Div and Sum of layer 1 answer: the same as num's, for all numbers of 64 bits and all slices of them.
-/
import Derived.Test.YtjhbbaadmdmhaaaSame
namespace Go.Proofs.Ytjhbbaadmdmhaaa.ref01
open Go.ChangeShapes Go.WideShapes Go.ChangeAt Go.RowKit
open num (fit sums IntsAt tdiv_neg tdiv_neg' wrap_off mul_off quo_fit drop_step)
set_option linter.unusedVariables false

theorem add_yes (a b : Int) (w : World) (ha : fit a) (hb : fit b) (h : fit (a + b)) :
    Calls Try.prog 12 #[.int .i64 a, .int .i64 b] w fun e w' => e = .returned (.tuple #[.int .i64 (a + b), .bool true]) ∧ w = w' := by
  unfold fit at ha hb h
  obtain ⟨ha1, ha2⟩ := ha; obtain ⟨hb1, hb2⟩ := hb; obtain ⟨h1, h2⟩ := h
  rcases Int.lt_trichotomy b 0 with hs | rfl | hs
  · have t1 : ¬ (b > 0) := by omega
    have t2 : ¬ (a < -9223372036854775808 - b) := by omega
    go_enter Try.func12, Try.ntmps12
    go_wp2
    go_ret2
    exact ⟨rfl, rfl⟩
  · rw [Int.add_zero]
    go_enter Try.func12, Try.ntmps12
    go_wp2
    go_ret2
    exact ⟨rfl, rfl⟩
  · have t1 : ¬ (b < 0) := by omega
    have t2 : ¬ (a > 9223372036854775807 - b) := by omega
    go_enter Try.func12, Try.ntmps12
    go_wp2
    go_ret2
    exact ⟨rfl, rfl⟩
theorem add_no (a b : Int) (w : World) (ha : fit a) (hb : fit b) (h : ¬ fit (a + b)) :
    Calls Try.prog 12 #[.int .i64 a, .int .i64 b] w fun e w' => e = .returned (.tuple #[.int .i64 0, .bool false]) ∧ w = w' := by
  unfold fit at ha hb h
  obtain ⟨ha1, ha2⟩ := ha; obtain ⟨hb1, hb2⟩ := hb
  by_cases hs : b < 0
  · have t1 : ¬ (b > 0) := by omega
    have t2 : (a < -9223372036854775808 - b) := by omega
    clear h
    go_enter Try.func12, Try.ntmps12
    go_wp2
    go_ret2
    exact ⟨rfl, rfl⟩
  · have t0 : 0 < b := by omega
    have t2 : (a > 9223372036854775807 - b) := by omega
    clear h
    go_enter Try.func12, Try.ntmps12
    go_wp2
    go_ret2
    exact ⟨rfl, rfl⟩
theorem sub_yes (a b : Int) (w : World) (ha : fit a) (hb : fit b) (h : fit (a - b)) :
    Calls Try.prog 14 #[.int .i64 a, .int .i64 b] w fun e w' => e = .returned (.tuple #[.int .i64 (a - b), .bool true]) ∧ w = w' := by
  unfold fit at ha hb h
  obtain ⟨ha1, ha2⟩ := ha; obtain ⟨hb1, hb2⟩ := hb; obtain ⟨h1, h2⟩ := h
  rcases Int.lt_trichotomy b 0 with hs | rfl | hs
  · have t1 : ¬ (b > 0) := by omega
    have t2 : ¬ (a > 9223372036854775807 + b) := by omega
    go_enter Try.func14, Try.ntmps14
    go_wp2
    go_ret2
    exact ⟨rfl, rfl⟩
  · rw [Int.sub_zero]
    go_enter Try.func14, Try.ntmps14
    go_wp2
    go_ret2
    exact ⟨rfl, rfl⟩
  · have t1 : ¬ (b < 0) := by omega
    have t2 : ¬ (a < -9223372036854775808 + b) := by omega
    go_enter Try.func14, Try.ntmps14
    go_wp2
    go_ret2
    exact ⟨rfl, rfl⟩
theorem sub_no (a b : Int) (w : World) (ha : fit a) (hb : fit b) (h : ¬ fit (a - b)) :
    Calls Try.prog 14 #[.int .i64 a, .int .i64 b] w fun e w' => e = .returned (.tuple #[.int .i64 0, .bool false]) ∧ w = w' := by
  unfold fit at ha hb h
  obtain ⟨ha1, ha2⟩ := ha; obtain ⟨hb1, hb2⟩ := hb
  by_cases hs : b < 0
  · have t1 : ¬ (b > 0) := by omega
    have t2 : (a > 9223372036854775807 + b) := by omega
    clear h
    go_enter Try.func14, Try.ntmps14
    go_wp2
    go_ret2
    exact ⟨rfl, rfl⟩
  · have t0 : 0 < b := by omega
    have t2 : (a < -9223372036854775808 + b) := by omega
    clear h
    go_enter Try.func14, Try.ntmps14
    go_wp2
    go_ret2
    exact ⟨rfl, rfl⟩

theorem div_no (a b : Int) (w : World) (hb : b < 1) :
    Calls Try.prog 18 #[.int .i64 a, .int .i64 b] w fun e w' => e = .returned (.tuple #[.int .i64 0, .int .i64 0, .bool false]) ∧ ∃ n, w' = w.drewN n := by
  go_enter Try.func18, Try.ntmps18
  go_wp2
  go_ret3
  exact ⟨rfl, 0, rfl⟩
theorem div_yes (a b : Int) (w : World) (ha : fit a) (hb : fit b) (h : 1 ≤ b) :
    Calls Try.prog 18 #[.int .i64 a, .int .i64 b] w fun e w' => e = .returned (.tuple #[.int .i64 (a / b), .int .i64 (a % b), .bool true]) ∧ ∃ n, w' = w.drewN n := by
  have hb0 : b ≠ 0 := by omega
  have m1 := Int.emod_nonneg a hb0
  have m2 := Int.emod_lt_of_pos a (b := b) (by omega)
  unfold fit at ha hb
  obtain ⟨ha1, ha2⟩ := ha; obtain ⟨hb1, hb2⟩ := hb
  by_cases h0 : 0 ≤ a
  · go_enter Try.func18, Try.ntmps18
    go_wp2
    go_ret3
    exact ⟨rfl, 0, rfl⟩
  · have q1 : a / b < 0 := Int.ediv_neg_of_neg_of_pos (by omega) (by omega)
    have q2 : -9223372036854775808 ≤ a / b := by
      have := Int.mul_ediv_add_emod a b
      have h3 : -9223372036854775808 * b ≤ a := by omega
      exact Int.le_ediv_of_mul_le (by omega) h3
    by_cases hz : a % b = 0
    · obtain ⟨e1, e2⟩ := tdiv_neg' a b (by omega) h hz
      rw [hz]
      clear m1 m2 hz
      generalize a / b = Q at *
      go_enter Try.func18, Try.ntmps18
      go_wp2
      go_ret3
      exact ⟨rfl, 0, rfl⟩
    · obtain ⟨e1, e2⟩ := tdiv_neg a b (by omega) h hz
      generalize a / b = Q at *
      generalize a % b = R at *
      go_enter Try.func18, Try.ntmps18
      go_wp2
      go_ret3
      exact ⟨rfl, 0, rfl⟩

theorem mul_yes (a b : Int) (w : World) (ha : fit a) (hb : fit b) (h : fit (a * b)) :
    Calls Try.prog 16 #[.int .i64 a, .int .i64 b] w fun e w' => e = .returned (.tuple #[.int .i64 (a * b), .bool true]) ∧ w = w' := by
  by_cases a0 : a = 0
  · subst a0
    rw [Int.zero_mul]
    go_enter Try.func16, Try.ntmps16
    go_wp2
    go_ret2
    exact ⟨rfl, rfl⟩
  by_cases b0 : b = 0
  · subst b0
    rw [Int.mul_zero]
    have a0' : (a == 0) = false := by simpa using a0
    clear ha hb h a0
    go_enter Try.func16, Try.ntmps16
    go_wp2
    go_ret2
    exact ⟨rfl, rfl⟩
  have hq : (a * b).tdiv b = a := Int.mul_tdiv_cancel a b0
  have m1 : ¬ (a = -1 ∧ b = -9223372036854775808) := by rintro ⟨rfl, rfl⟩; exact absurd h (by decide)
  have m2 : ¬ (b = -1 ∧ a = -9223372036854775808) := by rintro ⟨rfl, rfl⟩; exact absurd h (by decide)
  unfold fit at ha hb h
  obtain ⟨ha1, ha2⟩ := ha; obtain ⟨hb1, hb2⟩ := hb; obtain ⟨hp1, hp2⟩ := h
  have hq2 : IntKind.i64.wrap ((a * b).tdiv b) = a := by rw [hq]; exact IntWalk.i64_in _ ⟨ha1, ha2⟩
  have hq3 : wrap64 ((a * b).tdiv b) = a := by rw [hq]; exact IntWalk.wrap64_in _ ⟨ha1, ha2⟩
  have a0' : (a == 0) = false := by simpa using a0
  have b0' : (b == 0) = false := by simpa using b0
  clear hq a0
  have k1 : (a == -1) = true ∧ (b == -9223372036854775808) = false ∨ (a == -1) = false := by
    by_cases h : a = -1
    · left; exact ⟨by simpa using h, by simpa using fun hb => m1 ⟨h, hb⟩⟩
    · right; simpa using h
  have k2 : (b == -1) = true ∧ (a == -9223372036854775808) = false ∨ (b == -1) = false := by
    by_cases h : b = -1
    · left; exact ⟨by simpa using h, by simpa using fun hb => m2 ⟨h, hb⟩⟩
    · right; simpa using h
  clear m1 m2
  rcases k1 with ⟨k1, k1'⟩ | k1 <;> rcases k2 with ⟨k2, k2'⟩ | k2
  all_goals
    go_enter Try.func16, Try.ntmps16
    go_wp2
    go_ret2
    exact ⟨rfl, rfl⟩
theorem mul_no (a b : Int) (w : World) (ha : fit a) (hb : fit b) (h : ¬ fit (a * b)) :
    Calls Try.prog 16 #[.int .i64 a, .int .i64 b] w fun e w' => e = .returned (.tuple #[.int .i64 0, .bool false]) ∧ w = w' := by
  have a0 : a ≠ 0 := by rintro rfl; apply h; rw [Int.zero_mul]; exact ⟨by omega, by omega⟩
  have b0 : b ≠ 0 := by rintro rfl; apply h; rw [Int.mul_zero]; exact ⟨by omega, by omega⟩
  have a0' : (a == 0) = false := by simpa using a0
  have b0' : (b == 0) = false := by simpa using b0
  by_cases a1 : a = -1
  · have b1 : b = -9223372036854775808 := by subst a1; unfold fit at *; omega
    subst a1; subst b1
    clear ha hb h a0 a0' b0 b0'
    go_enter Try.func16, Try.ntmps16
    go_wp2
    go_ret2
    exact ⟨rfl, rfl⟩
  by_cases b1 : b = -1
  · have a2 : a = -9223372036854775808 := by subst b1; unfold fit at *; omega
    subst a2; subst b1
    clear ha hb h a0 a0' b0 b0' a1
    go_enter Try.func16, Try.ntmps16
    go_wp2
    go_ret2
    exact ⟨rfl, rfl⟩
  have a1' : (a == -1) = false := by simpa using a1
  have b1' : (b == -1) = false := by simpa using b1
  have ho := mul_off b a b0 hb (by rw [Int.mul_comm]; exact h)
  rw [Int.mul_comm] at ho
  have hf := (wrap_off _ h).1
  have hq := quo_fit (wrap64 (a * b)) b b0 b1 hf
  have hne : (wrap64 ((wrap64 (a * b)).tdiv b) != a) = true := by rw [IntWalk.wrap64_in _ hq]; simpa using ho
  have hne2 : (IntKind.i64.wrap ((IntKind.i64.wrap (a * b)).tdiv b) != a) = true := by rw [IntWalk.i64_left, IntWalk.i64_left]; exact hne
  clear ho hf hq h ha hb a1 b1 a0
  go_enter Try.func16, Try.ntmps16
  go_wp2
  go_ret2
  exact ⟨rfl, rfl⟩

theorem sum_any (A : Option Addr) (n c : Nat) (zs : List Int) (w : World) (h : IntsAt w A n zs) :
    Calls Try.prog 20 #[.slice A n c] w fun e w' => e = .returned (.tuple #[.int .i64 (sums 0 zs).1, .bool (sums 0 zs).2]) ∧ w = w' := by
  obtain ⟨hl, hm, hc, hf⟩ := h
  have HF := Lib.hid hf
  have HC := Lib.hid hc
  have HL := Lib.hid hl
  clear hf hc hl
  go_enter Try.func20, Try.ntmps20
  go_wp2
  go_loop [4, 5] (fun t i => ∃ (k : Nat) (T : Int), k ≤ n ∧ i = .int .i64 k ∧ t = .int .i64 T ∧ fit T ∧ Hid (sums 0 zs = sums T (zs.drop k))) (fun _ i => n - (intOf i).toNat)
  case atStart => exact ⟨0, 0, by omega, rfl, rfl, ⟨by omega, by omega⟩, rfl⟩
  case round =>
    obtain ⟨k, T, hk, rfl, rfl, hT, HS⟩ := hrel
    by_cases hlt : k < n
    · obtain ⟨b, off, rfl, hcell⟩ := HC.out (by omega)
      have hck := hcell k hlt
      have hz : fit (zs.getD k 0) := by
        have hkl : k < zs.length := by have := HL.out; omega
        have := HF.out (zs[k]) (List.getElem_mem hkl)
        simpa [List.getD, hkl] using this
      have hd := drop_step zs k (by have := HL.out; omega)
      have HD := Lib.hid hd
      clear hd hcell HC HF
      generalize zs.getD k 0 = z at *
      by_cases hfit : fit (T + z)
      · go_wp2_with (go_at_call 12; refine (add_yes _ _ _ hT hz hfit).mono ?_; rintro e w' ⟨rfl, rfl⟩)
        go_round
        case rel => exact ⟨k + 1, T + z, by omega, by go_num, rfl, hfit, by show sums 0 zs = _; rw [HS.out, HD.out, sums, if_pos hfit]⟩
        case measure => simp [intOf]; omega
      · have hv : sums 0 zs = (0, false) := by rw [HS.out, HD.out, sums, if_neg hfit]
        have HV := Lib.hid hv
        clear hv
        go_wp2_with (go_at_call 12; refine (add_no _ _ _ hT hz hfit).mono ?_; rintro e w' ⟨rfl, rfl⟩)
        go_ret2
        exact ⟨by rw [HV.out]; rfl, rfl⟩
    · have hv : sums 0 zs = (T, true) := by rw [HS.out, List.drop_eq_nil_of_le (by have := HL.out; omega), sums]
      have HV := Lib.hid hv
      clear hv
      go_wp2
      go_ret2
      exact ⟨by rw [HV.out]; rfl, rfl⟩
end Go.Proofs.Ytjhbbaadmdmhaaa.ref01
