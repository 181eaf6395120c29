/-
  What the document's own MulDiv, Up and Less of layer 2 answer: the same as wide's, for all numbers of 64 bits.
-/
import Derived.Test.YtfebdpiefhaddaaRef02
namespace Go.Proofs.Ytfebdpiefhaddaa.ref02
open Go.ChangeShapes Go.WideShapes Go.ChangeAt Go.RowKit
open wide (fit)
set_option linter.unusedVariables false

/-- what is answered: the quotient and the rest, or nothing where the quotient is too great -/
def Says (P c Q R : Int) (t : Bool) : Prop := (P / c ≤ 9223372036854775807 → Q = P / c ∧ R = P % c ∧ t = true) ∧ (9223372036854775807 < P / c → Q = 0 ∧ R = 0 ∧ t = false)
def cellAt (w : World) (h l : Int) : World := w.alloc (.cells #[.int .u64 h, .int .u64 l] 36)
theorem cell_eq {w : World} {h l h' l' : Int} (e1 : h = h') (e2 : l = l') : w.alloc (.cells #[.int .u64 h, .int .u64 l] 36) = cellAt w h' l' := by rw [e1, e2]; rfl
theorem top_pos (P i : Int) (h0 : 0 ≤ P) : 0 ≤ top P i := Int.ediv_nonneg h0 (Int.le_of_lt (wm.pow_pos _))
theorem rot_pos (P i : Int) : 0 ≤ rot P i ∧ rot P i < 340282366920938463463374607431768211456 := by unfold rot; omega

set_option maxHeartbeats 16000000 in
theorem md_all (a b c Q R : Int) (t : Bool) (w : World) (ha : fit a) (hb : fit b) (hc : fit c) (ha0 : 0 ≤ a) (hb0 : 0 ≤ b) (hc0 : 1 ≤ c) (hS : Says (a * b) c Q R t) :
    Calls Try.prog 13 #[.int .i64 a, .int .i64 b, .int .i64 c] w fun e w' => e = .returned (.tuple #[.int .i64 Q, .int .i64 R, .bool t]) ∧ Below w.heap.size w w' := by
  obtain ⟨_, ha⟩ := ha; obtain ⟨_, hb⟩ := hb; obtain ⟨_, hc⟩ := hc
  have C := Lib.hid (fun W => product a b W ha0 ha hb0 hb)
  obtain ⟨p0, p1⟩ := wide.prod_bounds a b ha0 ha hb0 hb
  generalize a * b = P at *
  have t1 : decide (a < 0) = false := by simp; omega
  have t2 : decide (b < 0) = false := by simp; omega
  have t3 : decide (c < 1) = false := by simp; omega
  have HS := Lib.hid hS
  clear hS
  go_enter Try.func13, Try.ntmps13
  go_wp2_with (first
    | (go_at_call 19; (with_reducible refine (C.out _).mono ?_; rintro e w1 ⟨rfl, hb1⟩)))
  go_loopw [10, 11, 12] (fun qv rv iv wr => ∃ i : Int, -1 ≤ i ∧ i ≤ 127 ∧ iv = .int .i64 i ∧ top P i / c ≤ 9223372036854775807 ∧ qv = .int .u64 (top P i / c) ∧ rv = .int .u64 (top P i % c) ∧ Hid (wr = cellAt w1 (rot P i / 18446744073709551616) (rot P i % 18446744073709551616))) (fun _ _ iv _ => (intOf iv + 1).toNat)
  case atStart =>
    have z := top_first P p0 p1
    refine ⟨127, by omega, by omega, rfl, ?_, ?_, ?_, ?_⟩
    · rw [z, Int.zero_ediv]; omega
    · rw [z, Int.zero_ediv]
    · rw [z, Int.zero_emod]
    · rw [rot_first P p0 p1]; rfl
  case round =>
    obtain ⟨i, hi0, hi1, rfl, hq1, rfl, rfl, HW⟩ := hrel
    have hw := HW.out
    unfold cellAt at hw
    subst hw
    clear HW
    by_cases hi : 0 ≤ i
    · have hrn := rot_next P i hi1
      have hrb := rot_bit P i p0 hi hi1
      have htn := top_next P i hi
      obtain ⟨v0, v1⟩ := rot_pos P i
      have hT := top_pos P i p0
      obtain ⟨e1, e2⟩ := rot_words (rot P i) v0 v1
      have hg := too_great P c i p0 hc0 hi
      have b0 : 0 ≤ P / 2 ^ i.toNat % 2 := by omega
      have b1 : P / 2 ^ i.toNat % 2 ≤ 1 := by omega
      generalize P / 2 ^ i.toNat % 2 = B at *
      obtain ⟨qb1, qb2⟩ := quo_bit (top P i) B c hc0 b0 b1
      rw [← htn] at qb1 qb2
      have q0 : 0 ≤ top P i / c := Int.ediv_nonneg hT (by omega)
      have r0 := Int.emod_nonneg (top P i) (b := c) (by omega)
      have r1 := Int.emod_lt_of_pos (top P i) (b := c) (by omega)
      generalize top P i / c = q at *
      generalize top P i % c = r at *
      have o1 := or_bit r B r0 (by omega) b0 b1
      have HR := Lib.hid hrn
      rw [← hrn] at e1 e2
      have HB := Lib.hid hrb
      clear hrn htn hT
      obtain ⟨H', hH⟩ : ∃ x, x = rot P (i - 1) / 18446744073709551616 := ⟨_, rfl⟩
      obtain ⟨L', hL⟩ : ∃ x, x = rot P (i - 1) % 18446744073709551616 := ⟨_, rfl⟩
      rw [← hH] at e1
      rw [← hL] at e2
      have HH := Lib.hid hH
      have HL := Lib.hid hL
      clear hH hL
      have h0 : 0 ≤ rot P i / 18446744073709551616 := by omega
      have h1 : rot P i / 18446744073709551616 < 18446744073709551616 := by omega
      have l0 : 0 ≤ rot P i % 18446744073709551616 := by omega
      have l1 : rot P i % 18446744073709551616 < 18446744073709551616 := by omega
      clear v0 v1 HR HB
      generalize rot P i / 18446744073709551616 = H at *
      generalize rot P i % 18446744073709551616 = L at *
      by_cases hz : 4611686018427387904 ≤ q
      · have hS := HS.out.2 (hg hz)
        obtain ⟨rfl, rfl, rfl⟩ := hS
        have z1 : (q / 4611686018427387904 != 0) = true := by simp; omega
        clear hg qb1 qb2 HS
        by_cases hd : c ≤ r * 2 + B
        · go_wp2
          go_ret3
          exact ⟨rfl, hb1.alloc (by have := hb1.size; omega) _⟩
        · go_wp2
          go_ret3
          exact ⟨rfl, hb1.alloc (by have := hb1.size; omega) _⟩
      · have z1 : (q / 4611686018427387904 != 0) = false := by simp; omega
        have o2 := or_bit q 1 q0 (by omega) (by omega) (by omega)
        have o3 : Go.bits .or .u64 (q * 2) 0 = q * 2 := by have := or_bit q 0 q0 (by omega) (by omega) (by omega); omega
        clear hg
        by_cases hd : c ≤ r * 2 + B
        · have HQ := Lib.hid (qb1 hd)
          clear qb1 qb2
          go_wp2
          go_roundw
          case rel => exact ⟨i - 1, by omega, by omega, rfl, by have := HQ.out.1; omega, by rw [HQ.out.1], by rw [HQ.out.2], cell_eq HH.out HL.out⟩
          case measure => simp [intOf]; omega
        · have HQ := Lib.hid (qb2 (by omega))
          clear qb1 qb2
          go_wp2
          go_roundw
          case rel => exact ⟨i - 1, by omega, by omega, rfl, by have := HQ.out.1; omega, by rw [HQ.out.1], by rw [HQ.out.2], cell_eq HH.out HL.out⟩
          case measure => simp [intOf]; omega
    · obtain rfl : i = -1 := by omega
      rw [top_last] at *
      obtain ⟨rfl, rfl, rfl⟩ := HS.out.1 hq1
      have q0 : 0 ≤ P / c := Int.ediv_nonneg p0 (by omega)
      have r0 := Int.emod_nonneg P (b := c) (by omega)
      have r1 := Int.emod_lt_of_pos P (b := c) (by omega)
      clear HS hi0 hi1 hi
      go_wp2
      go_ret3
      exact ⟨rfl, hb1.alloc (by have := hb1.size; omega) _⟩

theorem md_yes (a b c : Int) (w : World) (ha : fit a) (hb : fit b) (hc : fit c) (ha0 : 0 ≤ a) (hb0 : 0 ≤ b) (hc0 : 1 ≤ c) (h : a * b / c ≤ 9223372036854775807) :
    Calls Try.prog 13 #[.int .i64 a, .int .i64 b, .int .i64 c] w fun e w' => e = .returned (.tuple #[.int .i64 (a * b / c), .int .i64 (a * b % c), .bool true]) ∧ Below w.heap.size w w' :=
  md_all a b c _ _ true w ha hb hc ha0 hb0 hc0 ⟨fun _ => ⟨rfl, rfl, rfl⟩, fun h' => by omega⟩
theorem md_no (a b c : Int) (w : World) (ha : fit a) (hb : fit b) (hc : fit c) (h : a < 0 ∨ b < 0 ∨ c < 1 ∨ 9223372036854775807 < a * b / c) :
    Calls Try.prog 13 #[.int .i64 a, .int .i64 b, .int .i64 c] w fun e w' => e = .returned (.tuple #[.int .i64 0, .int .i64 0, .bool false]) ∧ Below w.heap.size w w' := by
  by_cases h1 : a < 0
  · clear h ha hb hc
    go_enter Try.func13, Try.ntmps13
    go_wp2
    go_ret3
    exact ⟨rfl, Below.refl _ _⟩
  by_cases h2 : b < 0
  · clear h ha hb hc
    go_enter Try.func13, Try.ntmps13
    go_wp2
    go_ret3
    exact ⟨rfl, Below.refl _ _⟩
  by_cases h3 : c < 1
  · clear h ha hb hc
    go_enter Try.func13, Try.ntmps13
    go_wp2
    go_ret3
    exact ⟨rfl, Below.refl _ _⟩
  exact md_all a b c 0 0 false w ha hb hc (by omega) (by omega) (by omega) ⟨fun h' => by omega, fun _ => ⟨rfl, rfl, rfl⟩⟩

/-! Up -/
theorem up_no (a b c : Int) (w : World) (ha : fit a) (hb : fit b) (hc : fit c) (h : a < 0 ∨ b < 0 ∨ c < 1 ∨ 9223372036854775807 < a * b / c) :
    Calls Try.prog 15 #[.int .i64 a, .int .i64 b, .int .i64 c] w fun e w' => e = .returned (.tuple #[.int .i64 0, .bool false]) ∧ Below w.heap.size w w' := by
  have C := Lib.hid (fun W => md_no a b c W ha hb hc h)
  clear h ha hb hc
  go_enter Try.func15, Try.ntmps15
  go_wp2_with (first
    | (go_at_call 13; (with_reducible refine (C.out _).mono ?_; rintro e w1 ⟨rfl, hb1⟩)))
  go_ret2
  exact ⟨rfl, hb1⟩
theorem up_even (a b c q : Int) (w : World) (ha : fit a) (hb : fit b) (hc : fit c) (ha0 : 0 ≤ a) (hb0 : 0 ≤ b) (hc0 : 1 ≤ c) (h : a * b / c ≤ 9223372036854775807) (hq : a * b / c = q) (hr : a * b % c = 0) :
    Calls Try.prog 15 #[.int .i64 a, .int .i64 b, .int .i64 c] w fun e w' => e = .returned (.tuple #[.int .i64 q, .bool true]) ∧ Below w.heap.size w w' := by
  have C := Lib.hid (fun W => md_yes a b c W ha hb hc ha0 hb0 hc0 h)
  rw [hq, hr] at C
  clear h ha hb hc hq hr
  go_enter Try.func15, Try.ntmps15
  go_wp2_with (first
    | (go_at_call 13; (with_reducible refine (C.out _).mono ?_; rintro e w1 ⟨rfl, hb1⟩)))
  go_ret2
  exact ⟨rfl, hb1⟩
theorem up_more (a b c q : Int) (w : World) (ha : fit a) (hb : fit b) (hc : fit c) (ha0 : 0 ≤ a) (hb0 : 0 ≤ b) (hc0 : 1 ≤ c) (h : a * b / c < 9223372036854775807) (hq : a * b / c = q) (hr : a * b % c ≠ 0) :
    Calls Try.prog 15 #[.int .i64 a, .int .i64 b, .int .i64 c] w fun e w' => e = .returned (.tuple #[.int .i64 (q + 1), .bool true]) ∧ Below w.heap.size w w' := by
  have C := Lib.hid (fun W => md_yes a b c W ha hb hc ha0 hb0 hc0 (by omega))
  have hq0 : 0 ≤ q := by rw [← hq]; exact Int.ediv_nonneg (Int.mul_nonneg ha0 hb0) (by omega)
  have hr0 := Int.emod_nonneg (a * b) (b := c) (by omega)
  rw [hq] at C
  rw [hq] at h
  generalize a * b % c = r at *
  have t1 : decide (0 < r) = true := by simp; omega
  have t2 : (q == 9223372036854775807) = false := by simp; omega
  clear ha hb hc hq hr
  go_enter Try.func15, Try.ntmps15
  go_wp2_with (first
    | (go_at_call 13; (with_reducible refine (C.out _).mono ?_; rintro e w1 ⟨rfl, hb1⟩)))
  go_ret2
  exact ⟨rfl, hb1⟩
theorem up_over (a b c : Int) (w : World) (ha : fit a) (hb : fit b) (hc : fit c) (ha0 : 0 ≤ a) (hb0 : 0 ≤ b) (hc0 : 1 ≤ c) (hq : a * b / c = 9223372036854775807) (hr : a * b % c ≠ 0) :
    Calls Try.prog 15 #[.int .i64 a, .int .i64 b, .int .i64 c] w fun e w' => e = .returned (.tuple #[.int .i64 0, .bool false]) ∧ Below w.heap.size w w' := by
  have C := Lib.hid (fun W => md_yes a b c W ha hb hc ha0 hb0 hc0 (by omega))
  have hr0 := Int.emod_nonneg (a * b) (b := c) (by omega)
  rw [hq] at C
  generalize a * b % c = r at *
  have t1 : decide (0 < r) = true := by simp; omega
  clear ha hb hc hq hr
  go_enter Try.func15, Try.ntmps15
  go_wp2_with (first
    | (go_at_call 13; (with_reducible refine (C.out _).mono ?_; rintro e w1 ⟨rfl, hb1⟩)))
  go_ret2
  exact ⟨rfl, hb1⟩
/-! Less -/
theorem two {w w1 w2 : World} (h1 : Below w.heap.size w w1) (h2 : Below w1.heap.size w1 w2) : Below w.heap.size w w2 := h1.trans (h2.mono h1.size)
theorem less_neg (a b c d : Int) (w : World) (ha : fit a) (hb : fit b) (hc : fit c) (hd : fit d) (h : a < 0 ∨ b < 0 ∨ c < 0 ∨ d < 0) :
    Calls Try.prog 17 #[.int .i64 a, .int .i64 b, .int .i64 c, .int .i64 d] w fun e w' => e = .returned (.bool false) ∧ Below w.heap.size w w' := by
  by_cases h1 : a < 0 ∨ b < 0
  · have C := Lib.hid (fun W => mul_no a b W h1)
    by_cases h2 : c < 0 ∨ d < 0
    · have D := Lib.hid (fun W => mul_no c d W h2)
      clear h h1 h2 ha hb hc hd
      go_enter Try.func17, Try.ntmps17
      go_wp2_with (first
        | (go_at_call 11; (first | (with_reducible refine (C.out _).mono ?_; rintro e w1 ⟨rfl, hb1⟩) | (with_reducible refine (D.out _).mono ?_; rintro e w2 ⟨rfl, hb2⟩))))
      go_ret
      exact ⟨rfl, two ‹Below w.heap.size w _› ‹_›⟩
    · have D := Lib.hid (fun W => mul_yes c d W hc hd (by omega) (by omega))
      clear h h1 h2 ha hb hc hd
      generalize c * d = R at *
      go_enter Try.func17, Try.ntmps17
      go_wp2_with (first
        | (go_at_call 11; (first | (with_reducible refine (C.out _).mono ?_; rintro e w1 ⟨rfl, hb1⟩) | (with_reducible refine (D.out _).mono ?_; rintro e w2 ⟨rfl, hb2⟩))))
      go_ret
      exact ⟨rfl, two ‹Below w.heap.size w _› ‹_›⟩
  · have C := Lib.hid (fun W => mul_yes a b W ha hb (by omega) (by omega))
    have D := Lib.hid (fun W => mul_no c d W (by omega))
    clear h h1 ha hb hc hd
    generalize a * b = R at *
    go_enter Try.func17, Try.ntmps17
    go_wp2_with (first
      | (go_at_call 11; (first | (with_reducible refine (C.out _).mono ?_; rintro e w1 ⟨rfl, hb1⟩) | (with_reducible refine (D.out _).mono ?_; rintro e w2 ⟨rfl, hb2⟩))))
    go_ret
    exact ⟨rfl, two ‹Below w.heap.size w _› ‹_›⟩
theorem less_pos (a b c d : Int) (w : World) (ha : fit a) (hb : fit b) (hc : fit c) (hd : fit d) (ha0 : 0 ≤ a) (hb0 : 0 ≤ b) (hc0 : 0 ≤ c) (hd0 : 0 ≤ d) :
    Calls Try.prog 17 #[.int .i64 a, .int .i64 b, .int .i64 c, .int .i64 d] w fun e w' => e = .returned (.bool (decide (a * b < c * d))) ∧ Below w.heap.size w w' := by
  have C := Lib.hid (fun W => mul_yes a b W ha hb ha0 hb0)
  have D := Lib.hid (fun W => mul_yes c d W hc hd hc0 hd0)
  have p0 := (wide.prod_bounds a b ha0 ha.2 hb0 hb.2).1
  have p1 := (wide.prod_bounds c d hc0 hc.2 hd0 hd.2).1
  clear ha hb hc hd
  generalize a * b = P at *
  generalize c * d = R at *
  by_cases h1 : P / 9223372036854775808 < R / 9223372036854775808
  · have e : decide (P < R) = true := by simp; omega
    rw [e]
    clear e
    have t1 : decide (P / 9223372036854775808 < R / 9223372036854775808) = true := by simpa using h1
    clear h1 p0 p1
    generalize P / 9223372036854775808 = x at *
    generalize R / 9223372036854775808 = y at *
    go_enter Try.func17, Try.ntmps17
    go_wp2_with (first
      | (go_at_call 11; (first | (with_reducible refine (C.out _).mono ?_; rintro e w1 ⟨rfl, hb1⟩) | (with_reducible refine (D.out _).mono ?_; rintro e w2 ⟨rfl, hb2⟩))))
    go_ret
    exact ⟨rfl, two ‹Below w.heap.size w _› ‹_›⟩
  · have t1 : decide (P / 9223372036854775808 < R / 9223372036854775808) = false := by simpa using h1
    by_cases h2 : P / 9223372036854775808 = R / 9223372036854775808
    · have e : decide (P < R) = decide (P % 9223372036854775808 < R % 9223372036854775808) := by
        rw [Bool.eq_iff_iff]; simp; omega
      rw [e]
      clear e
      rw [h2] at C t1
      clear h1 h2 p0 p1
      generalize R / 9223372036854775808 = y at *
      generalize P % 9223372036854775808 = x1 at *
      generalize R % 9223372036854775808 = y1 at *
      go_enter Try.func17, Try.ntmps17
      go_wp2_with (first
        | (go_at_call 11; (first | (with_reducible refine (C.out _).mono ?_; rintro e w1 ⟨rfl, hb1⟩) | (with_reducible refine (D.out _).mono ?_; rintro e w2 ⟨rfl, hb2⟩))))
      go_ret
      exact ⟨rfl, two ‹Below w.heap.size w _› ‹_›⟩
    · have e : decide (P < R) = false := by simp; omega
      rw [e]
      clear e
      have t2 : (P / 9223372036854775808 == R / 9223372036854775808) = false := by simpa using h2
      clear h1 h2 p0 p1
      generalize P / 9223372036854775808 = x at *
      generalize R / 9223372036854775808 = y at *
      generalize P % 9223372036854775808 = x1 at *
      generalize R % 9223372036854775808 = y1 at *
      go_enter Try.func17, Try.ntmps17
      go_wp2_with (first
        | (go_at_call 11; (first | (with_reducible refine (C.out _).mono ?_; rintro e w1 ⟨rfl, hb1⟩) | (with_reducible refine (D.out _).mono ?_; rintro e w2 ⟨rfl, hb2⟩))))
      go_ret
      exact ⟨rfl, two ‹Below w.heap.size w _› ‹_›⟩
end Go.Proofs.Ytfebdpiefhaddaa.ref02
