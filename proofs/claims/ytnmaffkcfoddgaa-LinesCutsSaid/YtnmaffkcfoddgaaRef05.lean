/-
  What the document's own trimmed, blank, Number, Cut, Fold and Same of layer 5 are: the same answers as the plain functions of rows of bytes. Conditions: the texts are no longer than an int can tell; of Same: two slices that read alike.
-/
import Derived.Test.YtnmaffkcfoddgaaLinesSplit
import Derived.Test.YtnmaffkcfoddgaaLinesNumber
import Derived.Test.YtnmaffkcfoddgaaLinesFold
import Derived.Deep.QuietTactic
import Derived.BigQuiet
namespace Go.Proofs.Ytnmaffkcfoddgaa.ref05
open Go.ChangeShapes Go.WideShapes Go.ChangeAt Go.RowKit
open lx lines
set_option linter.unusedVariables false

/-! trimmed, blank -/
theorem trim_yes {s : ByteArray} (h : 0 < s.size) (h13 : bt s (s.size - 1) = 13) : s.extract 0 (s.size - 1) = B (trim (L s)) := by
  obtain ⟨c, e1, e2, _⟩ := drop_at s (s.size - 1) (by omega)
  obtain rfl : c = 13 := UInt8.toNat_inj.1 (by rw [e1, h13]; rfl)
  rw [drop_end s (s.size - 1 + 1) (by omega)] at e2
  have e3 : L s = (L s).take (s.size - 1) ++ [13] := by rw [← e2, List.take_append_drop]
  rw [ext_B, List.drop_zero, Nat.sub_zero]
  conv => rhs; rw [e3]
  rw [trim_off]
theorem trim_no {s : ByteArray} (h : s.size = 0 ∨ bt s (s.size - 1) ≠ 13) : s = B (trim (L s)) := by
  rw [trim_keep, B_L]
  intro m e
  have z : (L s).length = s.size := rfl
  have hl := congrArg List.length e
  simp at hl
  rcases h with h | h
  · omega
  · apply h
    unfold bt
    rw [e, List.getD_eq_getElem?_getD, List.getElem?_append_right (by omega), show s.size - 1 - m.length = 0 by omega]
    rfl
theorem ret_s {a b : ByteArray} (h : a = b) : Ending.returned (.string a) = .returned (.string b) := by rw [h]
theorem trimmed_is (s : ByteArray) (W : World) (hs : s.size < 4294967281) : Calls Try.prog 26 #[.string s] W fun e w' => e = .returned (.string (B (trim (L s)))) ∧ W = w' := by
  by_cases h0 : s.size = 0
  · have E := Lib.hid (trim_no (s := s) (.inl h0))
    generalize B (trim (L s)) = X at *
    obtain rfl := tl_nil h0
    clear h0 hs
    go_enter Try.func26, Try.ntmps26
    go_wp2
    go_ret
    exact ⟨ret_s E.out, rfl⟩
  · have hp : 0 < s.size := by omega
    have hb := bt_at s (s.size - 1) (by omega)
    by_cases h : bt s (s.size - 1) = 13
    · have E := Lib.hid (trim_yes hp h)
      generalize B (trim (L s)) = X at *
      go_enter Try.func26, Try.ntmps26
      go_wp2
      go_ret
      exact ⟨ret_s E.out, rfl⟩
    · have E := Lib.hid (trim_no (s := s) (.inr h))
      have t1 : ((bt s (s.size - 1) : Int) == 13) = false := by simp; omega
      generalize B (trim (L s)) = X at *
      clear h
      go_enter Try.func26, Try.ntmps26
      go_wp2
      go_ret
      exact ⟨ret_s E.out, rfl⟩
theorem blank_yes (b : Nat) (W : World) (h : b = 32 ∨ b = 9) : Calls Try.prog 27 #[.int .u8 (b : Nat)] W fun e w' => e = .returned (.bool true) ∧ W = w' := by
  rcases h with rfl | rfl
  · go_enter Try.func27, Try.ntmps27
    go_wp2
    go_ret
    exact ⟨rfl, rfl⟩
  · go_enter Try.func27, Try.ntmps27
    go_wp2
    go_ret
    exact ⟨rfl, rfl⟩
theorem blank_no (b : Nat) (W : World) (h1 : b ≠ 32) (h2 : b ≠ 9) : Calls Try.prog 27 #[.int .u8 (b : Nat)] W fun e w' => e = .returned (.bool false) ∧ W = w' := by
  have t1 : ((b : Int) == 32) = false := by simp; omega
  have t2 : ((b : Int) == 9) = false := by simp; omega
  clear h1 h2
  go_enter Try.func27, Try.ntmps27
  go_wp2
  go_ret
  exact ⟨rfl, rfl⟩

/-! Number -/
def RHead (s : ByteArray) (t i : Value) : Prop :=
  ∃ (p : Nat) (n : Int), t = .int .i64 n ∧ i = .int .i64 p ∧ p ≤ s.size ∧ 0 ≤ n ∧ n ≤ 9223372036854775807 ∧ nmb n ((L s).drop p) = nm (L s)
set_option maxHeartbeats 1000000 in
theorem number_at (s : ByteArray) (w : World) (hs : s.size < 4294967281) : Calls Try.prog 12 #[.string s] w (NTold s w) := by
  by_cases h0 : s.size = 0
  · obtain rfl := tl_nil h0
    have R := Lib.hid (ntold_no (s := ⟨#[]⟩) (w := w) (W := w) rfl (Below.refl _ _))
    clear h0 hs
    go_enter Try.func12, Try.ntmps12
    go_wp2
    refine wp_loop_rounds 1 ?_
    rw [rounds_succ]
    go_wp2
    go_ret2
    exact R.out
  have t0 := tl_ne (show 0 < s.size by omega)
  have N0 := Lib.hid (nm_of s (by omega))
  go_enter Try.func12, Try.ntmps12
  go_wp2
  go_loop [4, 5] (fun t i => RHead s t i) (fun _ i => s.size - (intOf i).toNat)
  case atStart => exact ⟨0, 0, rfl, rfl, by omega, by omega, by omega, N0.out.symm⟩
  case round =>
    obtain ⟨p, n, rfl, rfl, hp, hn0, hn1, e⟩ := hrel
    by_cases hlt : p < s.size
    · have hb := bt_at s p hlt
      have bd := bt_lt s p
      by_cases hd : 48 ≤ bt s p ∧ bt s p ≤ 57
      · obtain ⟨d1, d2⟩ := hd
        by_cases hq : 10 * n + ((bt s p : Int) - 48) ≤ 9223372036854775807
        · have E2 := Lib.hid ((nmb_go s p n hlt d1 d2 hq).symm.trans e)
          have q1 : ¬ ((9223372036854775807 - ((bt s p : Int) - 48)) / 10 < n) := by omega
          clear e
          go_wp2
          go_round
          case rel => exact ⟨p + 1, _, rfl, by go_num, by omega, by omega, by omega, E2.out⟩
          case measure => simp [intOf]; omega
        · have R := Lib.hid (ntold_no (w := w) (W := w) (e.symm.trans (nmb_stop s p n hlt (by omega))) (Below.refl _ _))
          have q1 : ((9223372036854775807 - ((bt s p : Int) - 48)) / 10 < n) := by omega
          clear e
          go_wp2
          go_ret2
          exact R.out
      · have R := Lib.hid (ntold_no (w := w) (W := w) (e.symm.trans (nmb_stop s p n hlt (by omega))) (Below.refl _ _))
        clear e
        by_cases d1 : bt s p < 48
        · clear hd
          go_wp2
          go_ret2
          exact R.out
        · have d2 : 57 < bt s p := by omega
          clear hd
          go_wp2
          go_ret2
          exact R.out
    · have R := Lib.hid (ntold_yes (w := w) (W := w) (e.symm.trans (nmb_done s p n (by omega))) (Below.refl _ _))
      clear e
      go_wp2
      go_ret2
      exact R.out
theorem number_on {w : World} (W : World) (hb : Below w.heap.size w W) (s : ByteArray) (hs : s.size < 4294967281) : Calls Try.prog 12 #[.string s] W fun e w' => e = .returned (.tuple #[.int .i64 (nmI (L s)), .bool (nmT (L s))]) ∧ Below w.heap.size w w' :=
  (number_at s W hs).mono fun e w' ⟨he, hw⟩ => ⟨he, hb.trans (hw.mono hb.size)⟩

/-! Cut -/
def CHead (m : Nat) (i : Value) : Prop := ∃ k : Nat, k ≤ m ∧ i = .int .i64 k
set_option maxHeartbeats 1000000 in
theorem cut_hit {w : World} (W : World) (hb : Below w.heap.size w W) (s t : ByteArray) (i : Nat) (hs : s.size < 4294967281) (h : Hit s t i) :
    Calls Try.prog 14 #[.string s, .string t] W fun e w' => e = .returned (.tuple #[.string (s.extract 0 i), .string (s.extract (i + t.size) s.size), .bool true]) ∧ Below w.heap.size w w' := by
  have t0 := tl_ne h.1
  have z := h.2.1
  go_enter Try.func14, Try.ntmps14
  go_wp2
  go_loop [7] (fun k => CHead i k) (fun k => s.size - (intOf k).toNat)
  case atStart => exact ⟨0, by omega, rfl⟩
  case round =>
    obtain ⟨k, hk, rfl⟩ := hrel
    have hroom : k + t.size ≤ s.size := by omega
    have oc := beq_s (s.extract k (k + t.size)) t
    rw [← occ_ext s t k hroom] at oc
    have hsl := fun W => sl_run W s k (k + t.size) ((k : Int) + (t.size : Int)) rfl (by omega) hroom
    by_cases hlt : k < i
    · rw [h.2.2.2 k hlt] at oc
      have z0 := h.1
      clear h
      go_wp2
      go_round
      case rel => exact ⟨k + 1, by omega, by go_num⟩
      case measure => simp [intOf]; omega
    · obtain rfl : i = k := by omega
      rw [h.2.2.1] at oc
      clear h
      have hs2 := fun W => sl_from W s (i + t.size) ((i : Int) + (t.size : Int)) rfl hroom
      go_wp2
      have hw : IntKind.i64.wrap ((i : Int) + (t.size : Int)) = (i : Int) + (t.size : Int) := IntWalk.i64_in _ (by omega)
      go_quiet (fail)
      go_wp2
      go_ret3
      exact ⟨rfl, below_drewN hb _⟩
set_option maxHeartbeats 1000000 in
theorem cut_miss {w : World} (W : World) (hb : Below w.heap.size w W) (s t : ByteArray) (hs : s.size < 4294967281) (ht : t.size < 4294967281) (h : Miss s t) :
    Calls Try.prog 14 #[.string s, .string t] W fun e w' => e = .returned (.tuple #[.string s, .string ⟨#[]⟩, .bool false]) ∧ Below w.heap.size w w' := by
  by_cases h0 : t.size = 0
  · obtain rfl := tl_nil h0
    clear h h0
    go_enter Try.func14, Try.ntmps14
    go_wp2
    refine wp_loop_rounds 1 ?_
    rw [rounds_succ]
    go_wp2
    go_ret3
    exact ⟨rfl, hb⟩
  · have t0 := tl_ne (show 0 < t.size by omega)
    go_enter Try.func14, Try.ntmps14
    go_wp2
    go_loop [7] (fun k => CHead (s.size + 1) k) (fun k => s.size + 1 - (intOf k).toNat)
    case atStart => exact ⟨0, by omega, rfl⟩
    case round =>
      obtain ⟨k, hk, rfl⟩ := hrel
      by_cases hroom : k + t.size ≤ s.size
      · have oc := beq_s (s.extract k (k + t.size)) t
        rw [← occ_ext s t k hroom] at oc
        rw [(by rcases h with h | h; exact absurd h h0; exact h k (by omega) : Lib.occAt (L s) (L t) k = false)] at oc
        have hsl := fun W => sl_run W s k (k + t.size) ((k : Int) + (t.size : Int)) rfl (by omega) hroom
        clear h
        go_wp2
        go_round
        case rel => exact ⟨k + 1, by omega, by go_num⟩
        case measure => simp [intOf]; omega
      · clear h
        have q1 : ¬ ((k : Int) + (t.size : Int) ≤ (s.size : Int)) := by omega
        go_wp2
        go_ret3
        exact ⟨rfl, hb⟩
end Go.Proofs.Ytnmaffkcfoddgaa.ref05
