/-
  What the document's own answers of layer 3 (Leap, days, Last, first, Number, Date) are: the same dates and numbers. No condition on the memory; the arguments as said.
-/
import Derived.Test.YtiboijhfieaepaaGreatDoorDayDate
namespace Go.Proofs.YtiboijhfieaepaaGreatDoor.ref03
open Go.ChangeShapes Go.WideShapes Go.ChangeAt Go.RowKit
open cal
open day (tmod_zero ret_b ret_i)
set_option linter.unusedVariables false
set_option maxRecDepth 100000

theorem bal {w W : World} (hb : Below w.heap.size w W) (o : Obj) : Below w.heap.size w (W.alloc o) := hb.alloc hb.size o
theorem leap_any (y : Int) (w : World) :
    Calls Tryz.prog 76 #[.int .i64 y] w fun e w' => e = .returned (.bool (leapB y)) ∧ w = w' := by
  have p4 := tmod_zero y 4 (by omega)
  have p100 := tmod_zero y 100 (by omega)
  have p400 := tmod_zero y 400 (by omega)
  by_cases h4 : y % 4 = 0
  · have a4 : (y.tmod 4 == 0) = true := by simpa using p4.2 h4
    by_cases h100 : y % 100 = 0
    · have a100 : (y.tmod 100 != 0) = false := by simpa using p100.2 h100
      by_cases h400 : y % 400 = 0
      · have a400 : (y.tmod 400 == 0) = true := by simpa using p400.2 h400
        have E : Hid (leapB y = true) := (leapB_iff y).2 (Or.inr h400)
        clear p4 p100 p400 h4 h100 h400
        go_enter Tryz.func76, Tryz.ntmps76
        go_wp2
        go_ret
        exact ⟨ret_b (E.out).symm, rfl⟩
      · have a400 : (y.tmod 400 == 0) = false := by simpa using fun h => h400 (p400.1 h)
        have E : Hid (leapB y = false) := (leapB_not y).2 (by omega)
        clear p4 p100 p400 h4 h100 h400
        go_enter Tryz.func76, Tryz.ntmps76
        go_wp2
        go_ret
        exact ⟨ret_b (E.out).symm, rfl⟩
    · have a100 : (y.tmod 100 != 0) = true := by simpa using fun h => h100 (p100.1 h)
      have E : Hid (leapB y = true) := (leapB_iff y).2 (Or.inl ⟨h4, h100⟩)
      clear p4 p100 p400 h4 h100
      go_enter Tryz.func76, Tryz.ntmps76
      go_wp2
      go_ret
      exact ⟨ret_b (E.out).symm, rfl⟩
  · have a4 : (y.tmod 4 == 0) = false := by simpa using fun h => h4 (p4.1 h)
    have a400 : (y.tmod 400 == 0) = false := by simpa using fun h => h4 (by have := p400.1 h; omega)
    have E : Hid (leapB y = false) := (leapB_not y).2 (by omega)
    clear p4 p100 p400 h4
    go_enter Tryz.func76, Tryz.ntmps76
    go_wp2
    go_ret
    exact ⟨ret_b (E.out).symm, rfl⟩

theorem len_lit (m : Int) (h1 : 1 ≤ m) (h2 : m ≤ 12) : (#[Value.int .i64 31, .int .i64 28, .int .i64 31, .int .i64 30, .int .i64 31, .int .i64 30, .int .i64 31, .int .i64 31, .int .i64 30, .int .i64 31, .int .i64 30, .int .i64 31] : Array Value)[m.toNat - 1]? = some (.int .i64 (len m)) := by
  rcases twelve h1 h2 with rfl | rfl | rfl | rfl | rfl | rfl | rfl | rfl | rfl | rfl | rfl | rfl <;> rfl
theorem days_on {w : World} (W : World) (hb : Below w.heap.size w W) (y m : Int) (h1 : 1 ≤ m) (h2 : m ≤ 12) :
    Calls Tryz.prog 53 #[.int .i64 y, .int .i64 m] W fun e w' => e = .returned (.int .i64 (dim y m)) ∧ Below w.heap.size w w' := by
  have C := Lib.hid (fun W => leap_any y W)
  by_cases hm : m = 2
  · subst hm
    have E := dim_feb y
    cases hl : leapB y
    · rw [hl] at C
      rw [lp_no hl] at E
      rw [E]
      clear hl E
      go_enter Tryz.func53, Tryz.ntmps53
      go_wp2_with (first
        | (go_at_call 76; (with_reducible refine (C.out _).mono ?_; rintro e w' ⟨rfl, rfl⟩)))
      go_ret
      exact ⟨rfl, bal ‹_› _⟩
    · rw [hl] at C
      rw [lp_yes hl] at E
      rw [E]
      clear hl E
      go_enter Tryz.func53, Tryz.ntmps53
      go_wp2_with (first
        | (go_at_call 76; (with_reducible refine (C.out _).mono ?_; rintro e w' ⟨rfl, rfl⟩)))
      go_ret
      exact ⟨rfl, bal ‹_› _⟩
  · have e2 : (m == 2) = false := by simpa using hm
    have hc := len_lit m h1 h2
    rw [dim_other hm]
    generalize len m = L at *
    clear hm C
    go_enter Tryz.func53, Tryz.ntmps53
    go_wp2
    go_ret
    exact ⟨rfl, bal ‹_› _⟩
theorem first_any (y : Int) (w : World) (h1 : 1 ≤ y) (h2 : y ≤ 100000) :
    Calls Tryz.prog 52 #[.int .i64 y] w fun e w' => e = .returned (.int .i64 (dby y - 719162)) ∧ w = w' := by
  have E : Hid (dby y - 719162 = 365 * (y - 1) + (y - 1) / 4 - (y - 1) / 100 + (y - 1) / 400 + -719162) := by show dby y - 719162 = _; unfold dby; omega
  go_enter Tryz.func52, Tryz.ntmps52
  go_wp2
  go_ret
  exact ⟨ret_i (by have := E.out; omega), rfl⟩
theorem last_on {w : World} (W : World) (hb : Below w.heap.size w W) (y m : Int) (h1 : 1 ≤ y) (h2 : y ≤ 9999) (h3 : 1 ≤ m) (h4 : m ≤ 12) :
    Calls Tryz.prog 51 #[.int .i64 y, .int .i64 m] W fun e w' => e = .returned (.tuple #[.int .i64 (dim y m), .bool true]) ∧ Below w.heap.size w w' := by
  have C := Lib.hid (fun W hb => days_on (w := w) W hb y m h3 h4)
  generalize dim y m = D at *
  go_enter Tryz.func51, Tryz.ntmps51
  go_wp2_with (first
    | (go_at_call 53; (with_reducible refine (C.out _ (by assumption)).mono ?_; rintro e w1 ⟨rfl, hb1⟩)))
  go_ret2
  exact ⟨rfl, by assumption⟩
theorem last_no (y m : Int) (w : World) (h : y < 1 ∨ 9999 < y ∨ m < 1 ∨ 12 < m) :
    Calls Tryz.prog 51 #[.int .i64 y, .int .i64 m] w fun e w' => e = .returned (.tuple #[.int .i64 0, .bool false]) ∧ w = w' := by
  by_cases h1 : y < 1
  · clear h
    go_enter Tryz.func51, Tryz.ntmps51
    go_wp2
    go_ret2
    exact ⟨rfl, rfl⟩
  by_cases h2 : 9999 < y
  · clear h
    go_enter Tryz.func51, Tryz.ntmps51
    go_wp2
    go_ret2
    exact ⟨rfl, rfl⟩
  by_cases h3 : m < 1
  · clear h
    go_enter Tryz.func51, Tryz.ntmps51
    go_wp2
    go_ret2
    exact ⟨rfl, rfl⟩
  have h4 : 12 < m := by omega
  clear h
  go_enter Tryz.func51, Tryz.ntmps51
  go_wp2
  go_ret2
  exact ⟨rfl, rfl⟩
theorem number_off {w : World} (W : World) (hb : Below w.heap.size w W) (y m d : Int) (h : ¬ Vld y m d) :
    Calls Tryz.prog 25 #[.int .i64 y, .int .i64 m, .int .i64 d] W fun e w' => e = .returned (.tuple #[.int .i64 0, .bool false]) ∧ Below w.heap.size w w' := by
  by_cases hm : y < 1 ∨ 9999 < y ∨ m < 1 ∨ 12 < m
  · have C := Lib.hid (fun W => last_no y m W hm)
    clear h hm
    go_enter Tryz.func25, Tryz.ntmps25
    go_wp2_with (first
      | (go_at_call 51; (with_reducible refine (C.out _).mono ?_; rintro e w' ⟨rfl, rfl⟩)))
    go_ret2
    exact ⟨rfl, by assumption⟩
  · have C := Lib.hid (fun W hb => last_on (w := w) W hb y m (by omega) (by omega) (by omega) (by omega))
    have hd : d < 1 ∨ dim y m < d := by unfold Vld at h; omega
    generalize dim y m = D at *
    clear h hm
    by_cases h1 : d < 1
    · clear hd
      go_enter Tryz.func25, Tryz.ntmps25
      go_wp2_with (first
        | (go_at_call 51; (with_reducible refine (C.out _ (by assumption)).mono ?_; rintro e w1 ⟨rfl, hb1⟩)))
      go_ret2
      exact ⟨rfl, by assumption⟩
    · have h2 : D < d := by omega
      clear hd
      go_enter Tryz.func25, Tryz.ntmps25
      go_wp2_with (first
        | (go_at_call 51; (with_reducible refine (C.out _ (by assumption)).mono ?_; rintro e w1 ⟨rfl, hb1⟩)))
      go_ret2
      exact ⟨rfl, by assumption⟩
set_option maxHeartbeats 1000000 in
theorem number_on {w : World} (W : World) (hb : Below w.heap.size w W) (y m d : Int) (h : Vld y m d) :
    Calls Tryz.prog 25 #[.int .i64 y, .int .i64 m, .int .i64 d] W fun e w' => e = .returned (.tuple #[.int .i64 (num y m d), .bool true]) ∧ Below w.heap.size w w' := by
  have L := Lib.hid (fun W hb => last_on (w := w) W hb y m h.1 h.2.1 h.2.2.1 h.2.2.2.1)
  have C := Lib.hid (fun W hb k (g1 : 1 ≤ k) (g2 : k ≤ 12) => days_on (w := w) W hb y k g1 g2)
  have A := Lib.hid (fun W => first_any y W h.1 (by have := h.2.1; omega))
  have hbd := dby_bd y h.1 (by have := h.2.1; omega)
  obtain ⟨h1, h2, h3, h4, h5, h6⟩ := h
  have hd := dim_bd y m
  have t1 : decide (d < 1) = false := by simp; omega
  have t2 : decide (dim y m < d) = false := by simp; omega
  go_enter Tryz.func25, Tryz.ntmps25
  go_wp2_with (first
    | (go_at_call 51; with_reducible refine (L.out _ (by assumption)).mono ?_; rintro e w1 ⟨rfl, hb1⟩)
    | (go_at_call 52; with_reducible refine (A.out _).mono ?_; rintro e w' ⟨rfl, rfl⟩))
  go_loopw [10, 11] (fun r k V => ∃ i : Int, 1 ≤ i ∧ i ≤ m ∧ k = .int .i64 i ∧ r = .int .i64 (num y i d) ∧ Below w.heap.size w V) (fun _ k _ => (m - intOf k).toNat)
  case atStart => exact ⟨1, by omega, by omega, rfl, by unfold num; rw [cum_one]; congr 1; omega, hb1⟩
  case round =>
    obtain ⟨i, hi1, hi2, rfl, rfl, hbr⟩ := hrel
    have cb := cum_bd y i hi1 (by omega)
    have l01 := lp_01 y
    have nb : -719162 ≤ num y i d ∧ num y i d ≤ 3652059 := by unfold num; omega
    have db := dim_bd y i
    by_cases hc : i < m
    · have HS : Hid (num y (i + 1) d = num y i d + dim y i) := by
        show num y (i + 1) d = num y i d + dim y i
        unfold num; rw [cum_succ y i hi1 (by omega)]; omega
      clear cb l01
      generalize num y i d = N at *
      go_wp2_with (go_at_call 53; with_reducible refine (C.out _ hbr _ hi1 (by omega)).mono ?_; rintro e w2 ⟨rfl, hb2⟩)
      go_roundw
      case rel => exact ⟨i + 1, by omega, by omega, rfl, by rw [HS.out], hb2⟩
      case measure => simp [intOf]; omega
    · obtain rfl : i = m := by omega
      clear hc cb l01
      go_wp2
      go_ret2
      exact ⟨rfl, hbr⟩

/-! Date -/
theorem date_no (n : Int) (w : World) (h : n < -719162 ∨ 2932896 < n) :
    Calls Tryz.prog 62 #[.int .i64 n] w fun e w' => e = .returned (.tuple #[.int .i64 0, .int .i64 0, .int .i64 0, .bool false]) ∧ w = w' := by
  by_cases h1 : n < -719162
  · clear h
    go_enter Tryz.func62, Tryz.ntmps62
    go_wp2
    exact bodyPost_ret (v := .tuple #[.int .i64 0, .int .i64 0, .int .i64 0, .bool false]) (by simp [results, Tryz.results62, go_sem]) rfl ⟨rfl, rfl⟩
  · have h2 : 2932896 < n := by omega
    clear h
    go_enter Tryz.func62, Tryz.ntmps62
    go_wp2
    exact bodyPost_ret (v := .tuple #[.int .i64 0, .int .i64 0, .int .i64 0, .bool false]) (by simp [results, Tryz.results62, go_sem]) rfl ⟨rfl, rfl⟩
theorem guess (y D : Int) (h1 : 1 ≤ y) (h : D < dby y + 366) (h0 : 0 ≤ D) : 1 ≤ D / 366 + 1 ∧ D / 366 + 1 ≤ y := by
  unfold dby at h; omega
theorem dby_le_iff (t y D : Int) (h1 : 1 ≤ t) (h2 : 1 ≤ y) (a : dby y ≤ D) (b : D < dby y + 365 + lp y) : dby (t + 1) ≤ D ↔ t < y := by
  constructor
  · intro h
    rcases Int.lt_or_le t y with k | k
    · exact k
    · have := dby_mono (y + 1) (t + 1) (by omega) (by omega)
      rw [dby_succ y h2] at this
      omega
  · intro h
    have := dby_mono (t + 1) y (by omega) (by omega)
    omega
set_option maxHeartbeats 2000000 in
theorem date_on {w : World} (W : World) (hb : Below w.heap.size w W) (y m d n : Int) (v : Vld y m d) (hn : num y m d = n) :
    Calls Tryz.prog 62 #[.int .i64 n] W fun e w' => e = .returned (.tuple #[.int .i64 y, .int .i64 m, .int .i64 d, .bool true]) ∧ Below w.heap.size w w' := by
  have hbn := num_bd v
  have hlo := num_lo v
  rw [hn] at hbn hlo
  obtain ⟨v1, v2, v3, v4, v5, v6⟩ := v
  have l01 := lp_01 y
  have g := guess y (n + 719162) v1 (by omega) (by omega)
  have F := Lib.hid (fun W k (g1 : 1 ≤ k) (g2 : k ≤ 100000) => first_any k W g1 g2)
  have C := Lib.hid (fun W hb k (g1 : 1 ≤ k) (g2 : k ≤ 12) => days_on (w := w) W hb y k g1 g2)
  have HN : Hid (n = -719162 + dby y + cum y m + d - 1) := by show n = _; rw [← hn]; unfold num; rfl
  have LE := Lib.hid (fun k (g1 : 1 ≤ k) => dby_le_iff k y (n + 719162) g1 v1 hlo.1 hlo.2)
  have t1 : decide (n < -719162) = false := by simp; omega
  have t2 : decide (2932896 < n) = false := by simp; omega
  have bdy := dby_bd y v1 (by omega)
  clear hn hlo
  go_enter Tryz.func62, Tryz.ntmps62
  go_wp2
  go_loop [6] (fun t => ∃ k : Int, 1 ≤ k ∧ k ≤ y ∧ t = .int .i64 k) (fun t => (y - intOf t).toNat)
  case atStart => exact ⟨(n + 719162) / 366 + 1, g.1, g.2, rfl⟩
  case round =>
    obtain ⟨k, hk1, hk2, rfl⟩ := hrel
    have bdk := dby_bd (k + 1) (by omega) (by omega)
    have le := LE.out k hk1
    by_cases hc : k < y
    · have hle : dby (k + 1) - 719162 ≤ n := by have := le.2 hc; omega
      clear le
      go_wp2_with (go_at_call 52; with_reducible refine (F.out _ _ (by omega) (by omega)).mono ?_; rintro e w' ⟨rfl, rfl⟩)
      go_round
      case rel => exact ⟨k + 1, by omega, by omega, rfl⟩
      case measure => simp [intOf]; omega
    · obtain rfl : k = y := by omega
      have hgt : n < dby (k + 1) - 719162 := by
        rcases Int.lt_or_le n (dby (k + 1) - 719162) with h | h
        · exact h
        · have := le.1 (by omega); omega
      clear le hc
      go_wp2_with (go_at_call 52; with_reducible refine (F.out _ _ (by omega) (by omega)).mono ?_; rintro e w' ⟨rfl, rfl⟩)
      go_loopw [7, 8] (fun r q V => ∃ j : Int, 1 ≤ j ∧ j ≤ m ∧ q = .int .i64 j ∧ r = .int .i64 (cum k m + d - 1 - cum k j) ∧ Below w.heap.size w V) (fun _ q _ => (m - intOf q).toNat)
      case atStart => exact ⟨1, by omega, by omega, rfl, by rw [cum_one]; have := HN.out; congr 1; omega, hb⟩
      case round =>
        obtain ⟨j, hj1, hj2, rfl, rfl, hbr⟩ := hrel
        have cb := cum_bd k m v3 v4
        have dm := dim_bd k m
        have v7 : d ≤ 31 := by omega
        have cj := cum_bd k j hj1 (by omega)
        have dj := dim_bd k j
        by_cases hm : j < m
        · have lt := cum_lt k j m hj1 hm v4
          have HS := Lib.hid (cum_succ k j hj1 (by omega))
          have hge : dim k j ≤ cum k m + d - 1 - cum k j := by omega
          go_wp2_with (first
            | (go_at_call 53; with_reducible refine (C.out _ (by assumption) _ hj1 (by omega)).mono ?_; rintro e w2 ⟨rfl, hb2⟩))
          go_roundw
          case rel => exact ⟨j + 1, by omega, by omega, rfl, by rw [HS.out]; congr 1; omega, by assumption⟩
          case measure => simp [intOf]; omega
        · obtain rfl : j = m := by omega
          have hlt : cum k j + d - 1 - cum k j < dim k j := by omega
          clear hm
          go_wp2_with (first
            | (go_at_call 53; with_reducible refine (C.out _ (by assumption) _ hj1 (by omega)).mono ?_; rintro e w2 ⟨rfl, hb2⟩))
          exact bodyPost_ret (v := .tuple #[.int .i64 k, .int .i64 j, .int .i64 (cum k j + d - 1 - cum k j + 1), .bool true]) (by simp [results, Tryz.results62, go_sem]) rfl ⟨by rw [show cum k j + d - 1 - cum k j + 1 = d by omega], by assumption⟩
theorem date_off {w : World} (W : World) (hb : Below w.heap.size w W) (n : Int) (h : n < -719162 ∨ 2932896 < n) :
    Calls Tryz.prog 62 #[.int .i64 n] W fun e w' => e = .returned (.tuple #[.int .i64 0, .int .i64 0, .int .i64 0, .bool false]) ∧ Below w.heap.size w w' :=
  (date_no n W h).mono fun e w' ⟨he, hw⟩ => ⟨he, hw ▸ hb⟩
theorem end_off {w : World} (W : World) (hb : Below w.heap.size w W) (n : Int) (h : n < -719162 ∨ 2932896 < n) :
    Calls Tryz.prog 95 #[.int .i64 n] W fun e w' => e = .returned (.bool false) ∧ Below w.heap.size w w' := by
  have C := Lib.hid (fun W => date_no n W h)
  clear h
  go_enter Tryz.func95, Tryz.ntmps95
  go_wp2_with (first
    | (go_at_call 62; (with_reducible refine (C.out _).mono ?_; rintro e w' ⟨rfl, rfl⟩)))
  go_ret
  exact ⟨rfl, by assumption⟩
theorem end_on {w : World} (W : World) (hb : Below w.heap.size w W) (y m d n : Int) (v : Vld y m d) (hn : num y m d = n) (b : Bool) (h : (d == dim y m) = b) :
    Calls Tryz.prog 95 #[.int .i64 n] W fun e w' => e = .returned (.bool b) ∧ Below w.heap.size w w' := by
  subst h
  have C := Lib.hid (fun W hb => date_on (w := w) W hb y m d n v hn)
  have D := Lib.hid (fun W hb => days_on (w := w) W hb y m v.2.2.1 v.2.2.2.1)
  generalize dim y m = L at *
  clear v hn
  go_enter Tryz.func95, Tryz.ntmps95
  go_wp2_with (first
    | (go_at_call 62; (with_reducible refine (C.out _ (by assumption)).mono ?_; rintro e w1 ⟨rfl, hb1⟩))
    | (go_at_call 53; (with_reducible refine (D.out _ (by assumption)).mono ?_; rintro e w2 ⟨rfl, hb2⟩)))
  go_ret
  exact ⟨rfl, by assumption⟩
end Go.Proofs.YtiboijhfieaepaaGreatDoor.ref03
