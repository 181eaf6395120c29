/-
  What the document's own answers of layer 3 (Leap, days, Last, first, Number, Date) are: the same dates and numbers. No condition on the memory; the arguments as said.
-/
import Derived.Test.YtldieebiicblbaaGreatDoorG07
import Derived.Test.YtldieebiicblbaaGreatDoorG17
namespace Go.Proofs.YtldieebiicblbaaGreatDoor.ref03
open Go.ChangeShapes Go.WideShapes Go.ChangeAt Go.RowKit
open cal
open day (tmod_zero ret_b ret_i)
set_option linter.unusedVariables false
set_option maxRecDepth 100000

theorem bal {w W : World} (hb : Below w.heap.size w W) (o : Obj) : Below w.heap.size w (W.alloc o) := hb.alloc hb.size o
theorem leap_any (y : Int) (w : World) :
    Calls Tryz.prog 133 #[.int .i64 y] w fun e w' => e = .returned (.bool (leapB y)) ∧ w = w' := by
  have p4 := tmod_zero y 4 (by omega)
  have p100 := tmod_zero y 100 (by omega)
  have p400 := tmod_zero y 400 (by omega)
  by_cases h4 : y % 4 = 0
  · have a4 : (y.tmod 4 == 0) = true := by simpa using p4.2 h4
    by_cases h100 : y % 100 = 0
    · have a100 : (y.tmod 100 != 0) = false := by simpa using p100.2 h100
      by_cases h400 : y % 400 = 0
      · have a400 : (y.tmod 400 == 0) = true := by simpa using p400.2 h400
        have E : Hid (leapB y = true) := (leapB_iff y).2 (Or.inr h400)
        clear p4 p100 p400 h4 h100 h400
        go_enter Tryz.func133, Tryz.ntmps133
        go_wp2
        go_ret
        exact ⟨ret_b (E.out).symm, rfl⟩
      · have a400 : (y.tmod 400 == 0) = false := by simpa using fun h => h400 (p400.1 h)
        have E : Hid (leapB y = false) := (leapB_not y).2 (by omega)
        clear p4 p100 p400 h4 h100 h400
        go_enter Tryz.func133, Tryz.ntmps133
        go_wp2
        go_ret
        exact ⟨ret_b (E.out).symm, rfl⟩
    · have a100 : (y.tmod 100 != 0) = true := by simpa using fun h => h100 (p100.1 h)
      have E : Hid (leapB y = true) := (leapB_iff y).2 (Or.inl ⟨h4, h100⟩)
      clear p4 p100 p400 h4 h100
      go_enter Tryz.func133, Tryz.ntmps133
      go_wp2
      go_ret
      exact ⟨ret_b (E.out).symm, rfl⟩
  · have a4 : (y.tmod 4 == 0) = false := by simpa using fun h => h4 (p4.1 h)
    have a400 : (y.tmod 400 == 0) = false := by simpa using fun h => h4 (by have := p400.1 h; omega)
    have E : Hid (leapB y = false) := (leapB_not y).2 (by omega)
    clear p4 p100 p400 h4
    go_enter Tryz.func133, Tryz.ntmps133
    go_wp2
    go_ret
    exact ⟨ret_b (E.out).symm, rfl⟩

theorem len_lit (m : Int) (h1 : 1 ≤ m) (h2 : m ≤ 12) : (#[Value.int .i64 31, .int .i64 28, .int .i64 31, .int .i64 30, .int .i64 31, .int .i64 30, .int .i64 31, .int .i64 31, .int .i64 30, .int .i64 31, .int .i64 30, .int .i64 31] : Array Value)[m.toNat - 1]? = some (.int .i64 (len m)) := by
  rcases twelve h1 h2 with rfl | rfl | rfl | rfl | rfl | rfl | rfl | rfl | rfl | rfl | rfl | rfl <;> rfl
theorem days_on {w : World} (W : World) (hb : Below w.heap.size w W) (y m : Int) (h1 : 1 ≤ m) (h2 : m ≤ 12) :
    Calls Tryz.prog 121 #[.int .i64 y, .int .i64 m] W fun e w' => e = .returned (.int .i64 (dim y m)) ∧ Below w.heap.size w w' := by
  have C := Lib.hid (fun W => leap_any y W)
  by_cases hm : m = 2
  · subst hm
    have E := dim_feb y
    cases hl : leapB y
    · rw [hl] at C
      rw [lp_no hl] at E
      rw [E]
      clear hl E
      go_enter Tryz.func121, Tryz.ntmps121
      go_wp2_with (first
        | (go_at_call 133; (with_reducible refine (C.out _).mono ?_; rintro e w' ⟨rfl, rfl⟩)))
      go_ret
      exact ⟨rfl, bal ‹_› _⟩
    · rw [hl] at C
      rw [lp_yes hl] at E
      rw [E]
      clear hl E
      go_enter Tryz.func121, Tryz.ntmps121
      go_wp2_with (first
        | (go_at_call 133; (with_reducible refine (C.out _).mono ?_; rintro e w' ⟨rfl, rfl⟩)))
      go_ret
      exact ⟨rfl, bal ‹_› _⟩
  · have e2 : (m == 2) = false := by simpa using hm
    have hc := len_lit m h1 h2
    rw [dim_other hm]
    generalize len m = L at *
    clear hm C
    go_enter Tryz.func121, Tryz.ntmps121
    go_wp2
    go_ret
    exact ⟨rfl, bal ‹_› _⟩
theorem first_any (y : Int) (w : World) (h1 : 1 ≤ y) (h2 : y ≤ 100000) :
    Calls Tryz.prog 132 #[.int .i64 y] w fun e w' => e = .returned (.int .i64 (dby y - 719162)) ∧ w = w' := by
  have E : Hid (dby y - 719162 = 365 * (y - 1) + (y - 1) / 4 - (y - 1) / 100 + (y - 1) / 400 + -719162) := by show dby y - 719162 = _; unfold dby; omega
  go_enter Tryz.func132, Tryz.ntmps132
  go_wp2
  go_ret
  exact ⟨ret_i (by have := E.out; omega), rfl⟩
/-! Date -/
theorem date_no (n : Int) (w : World) (h : n < -719162 ∨ 2932896 < n) :
    Calls Tryz.prog 120 #[.int .i64 n] w fun e w' => e = .returned (.tuple #[.int .i64 0, .int .i64 0, .int .i64 0, .bool false]) ∧ w = w' := by
  by_cases h1 : n < -719162
  · clear h
    go_enter Tryz.func120, Tryz.ntmps120
    go_wp2
    exact bodyPost_ret (v := .tuple #[.int .i64 0, .int .i64 0, .int .i64 0, .bool false]) (by simp [results, Tryz.results120, go_sem]) rfl ⟨rfl, rfl⟩
  · have h2 : 2932896 < n := by omega
    clear h
    go_enter Tryz.func120, Tryz.ntmps120
    go_wp2
    exact bodyPost_ret (v := .tuple #[.int .i64 0, .int .i64 0, .int .i64 0, .bool false]) (by simp [results, Tryz.results120, go_sem]) rfl ⟨rfl, rfl⟩
theorem guess (y D : Int) (h1 : 1 ≤ y) (h : D < dby y + 366) (h0 : 0 ≤ D) : 1 ≤ D / 366 + 1 ∧ D / 366 + 1 ≤ y := by
  unfold dby at h; omega
theorem dby_le_iff (t y D : Int) (h1 : 1 ≤ t) (h2 : 1 ≤ y) (a : dby y ≤ D) (b : D < dby y + 365 + lp y) : dby (t + 1) ≤ D ↔ t < y := by
  constructor
  · intro h
    rcases Int.lt_or_le t y with k | k
    · exact k
    · have := dby_mono (y + 1) (t + 1) (by omega) (by omega)
      rw [dby_succ y h2] at this
      omega
  · intro h
    have := dby_mono (t + 1) y (by omega) (by omega)
    omega
set_option maxHeartbeats 2000000 in
theorem date_on {w : World} (W : World) (hb : Below w.heap.size w W) (y m d n : Int) (v : Vld y m d) (hn : num y m d = n) :
    Calls Tryz.prog 120 #[.int .i64 n] W fun e w' => e = .returned (.tuple #[.int .i64 y, .int .i64 m, .int .i64 d, .bool true]) ∧ Below w.heap.size w w' := by
  have hbn := num_bd v
  have hlo := num_lo v
  rw [hn] at hbn hlo
  obtain ⟨v1, v2, v3, v4, v5, v6⟩ := v
  have l01 := lp_01 y
  have g := guess y (n + 719162) v1 (by omega) (by omega)
  have F := Lib.hid (fun W k (g1 : 1 ≤ k) (g2 : k ≤ 100000) => first_any k W g1 g2)
  have C := Lib.hid (fun W hb k (g1 : 1 ≤ k) (g2 : k ≤ 12) => days_on (w := w) W hb y k g1 g2)
  have HN : Hid (n = -719162 + dby y + cum y m + d - 1) := by show n = _; rw [← hn]; unfold num; rfl
  have LE := Lib.hid (fun k (g1 : 1 ≤ k) => dby_le_iff k y (n + 719162) g1 v1 hlo.1 hlo.2)
  have t1 : decide (n < -719162) = false := by simp; omega
  have t2 : decide (2932896 < n) = false := by simp; omega
  have bdy := dby_bd y v1 (by omega)
  clear hn hlo
  go_enter Tryz.func120, Tryz.ntmps120
  go_wp2
  go_loop [6] (fun t => ∃ k : Int, 1 ≤ k ∧ k ≤ y ∧ t = .int .i64 k) (fun t => (y - intOf t).toNat)
  case atStart => exact ⟨(n + 719162) / 366 + 1, g.1, g.2, rfl⟩
  case round =>
    obtain ⟨k, hk1, hk2, rfl⟩ := hrel
    have bdk := dby_bd (k + 1) (by omega) (by omega)
    have le := LE.out k hk1
    by_cases hc : k < y
    · have hle : dby (k + 1) - 719162 ≤ n := by have := le.2 hc; omega
      clear le
      go_wp2_with (go_at_call 132; with_reducible refine (F.out _ _ (by omega) (by omega)).mono ?_; rintro e w' ⟨rfl, rfl⟩)
      go_round
      case rel => exact ⟨k + 1, by omega, by omega, rfl⟩
      case measure => simp [intOf]; omega
    · obtain rfl : k = y := by omega
      have hgt : n < dby (k + 1) - 719162 := by
        rcases Int.lt_or_le n (dby (k + 1) - 719162) with h | h
        · exact h
        · have := le.1 (by omega); omega
      clear le hc
      go_wp2_with (go_at_call 132; with_reducible refine (F.out _ _ (by omega) (by omega)).mono ?_; rintro e w' ⟨rfl, rfl⟩)
      go_loopw [7, 8] (fun r q V => ∃ j : Int, 1 ≤ j ∧ j ≤ m ∧ q = .int .i64 j ∧ r = .int .i64 (cum k m + d - 1 - cum k j) ∧ Below w.heap.size w V) (fun _ q _ => (m - intOf q).toNat)
      case atStart => exact ⟨1, by omega, by omega, rfl, by rw [cum_one]; have := HN.out; congr 1 <;> omega, hb⟩
      case round =>
        obtain ⟨j, hj1, hj2, rfl, rfl, hbr⟩ := hrel
        have cb := cum_bd k m v3 v4
        have dm := dim_bd k m
        have v7 : d ≤ 31 := by omega
        have cj := cum_bd k j hj1 (by omega)
        have dj := dim_bd k j
        by_cases hm : j < m
        · have lt := cum_lt k j m hj1 hm v4
          have HS := Lib.hid (cum_succ k j hj1 (by omega))
          have hge : dim k j ≤ cum k m + d - 1 - cum k j := by omega
          go_wp2_with (first
            | (go_at_call 121; with_reducible refine (C.out _ (by assumption) _ hj1 (by omega)).mono ?_; rintro e w2 ⟨rfl, hb2⟩))
          go_roundw
          case rel => exact ⟨j + 1, by omega, by omega, rfl, by rw [HS.out]; congr 1 <;> omega, by assumption⟩
          case measure => simp [intOf]; omega
        · obtain rfl : j = m := by omega
          have hlt : cum k j + d - 1 - cum k j < dim k j := by omega
          clear hm
          go_wp2_with (first
            | (go_at_call 121; with_reducible refine (C.out _ (by assumption) _ hj1 (by omega)).mono ?_; rintro e w2 ⟨rfl, hb2⟩))
          exact bodyPost_ret (v := .tuple #[.int .i64 k, .int .i64 j, .int .i64 (cum k j + d - 1 - cum k j + 1), .bool true]) (by simp [results, Tryz.results120, go_sem]) rfl ⟨by rw [show cum k j + d - 1 - cum k j + 1 = d by omega], by assumption⟩
theorem date_off {w : World} (W : World) (hb : Below w.heap.size w W) (n : Int) (h : n < -719162 ∨ 2932896 < n) :
    Calls Tryz.prog 120 #[.int .i64 n] W fun e w' => e = .returned (.tuple #[.int .i64 0, .int .i64 0, .int .i64 0, .bool false]) ∧ Below w.heap.size w w' :=
  (date_no n W h).mono fun e w' ⟨he, hw⟩ => ⟨he, hw ▸ hb⟩
theorem end_off {w : World} (W : World) (hb : Below w.heap.size w W) (n : Int) (h : n < -719162 ∨ 2932896 < n) :
    Calls Tryz.prog 101 #[.int .i64 n] W fun e w' => e = .returned (.bool false) ∧ Below w.heap.size w w' := by
  have C := Lib.hid (fun W => date_no n W h)
  clear h
  go_enter Tryz.func101, Tryz.ntmps101
  go_wp2_with (first
    | (go_at_call 120; (with_reducible refine (C.out _).mono ?_; rintro e w' ⟨rfl, rfl⟩)))
  go_ret
  exact ⟨rfl, by assumption⟩
theorem end_on {w : World} (W : World) (hb : Below w.heap.size w W) (y m d n : Int) (v : Vld y m d) (hn : num y m d = n) (b : Bool) (h : (d == dim y m) = b) :
    Calls Tryz.prog 101 #[.int .i64 n] W fun e w' => e = .returned (.bool b) ∧ Below w.heap.size w w' := by
  subst h
  have C := Lib.hid (fun W hb => date_on (w := w) W hb y m d n v hn)
  have D := Lib.hid (fun W hb => days_on (w := w) W hb y m v.2.2.1 v.2.2.2.1)
  generalize dim y m = L at *
  clear v hn
  go_enter Tryz.func101, Tryz.ntmps101
  go_wp2_with (first
    | (go_at_call 120; (with_reducible refine (C.out _ (by assumption)).mono ?_; rintro e w1 ⟨rfl, hb1⟩))
    | (go_at_call 121; (with_reducible refine (D.out _ (by assumption)).mono ?_; rintro e w2 ⟨rfl, hb2⟩)))
  go_ret
  exact ⟨rfl, by assumption⟩
end Go.Proofs.YtldieebiicblbaaGreatDoor.ref03

/-
  The document's own answers of layer 9 but for Copy, Add and Same: what is wrong of a leap, Check, Right, Find, Total, Step, Length. Conditions: the slice reads as the row; for Step that its leaps are right.
-/
namespace Go.Proofs.YtldieebiicblbaaGreatDoor.ref09
open Go.ChangeShapes Go.WideShapes Go.ChangeAt Go.RowKit
open lm mem leap
set_option linter.unusedVariables false
set_option maxRecDepth 100000

theorem end_at (n : Int) (w : World) (h1 : 730 ≤ n) (h2 : n < 2932896) : Calls Tryz.prog 101 #[.int .i64 n] w fun e w' => e = .returned (.bool (endB n)) ∧ Below w.heap.size w w' := by
  obtain ⟨y, m, d, v, hn⟩ := day.exists_date n (by omega) (by omega)
  exact ref03.end_on w (Below.refl _ _) y m d n v hn (endB n) (endB_of v hn)
set_option maxHeartbeats 2000000 in
set_option maxRecDepth 100000 in
theorem wrong_at (l : List Lp) (A : Option Addr) (c : Nat) (has : Bool) (x : Int) (k : Nat) (w : World) (h : Lps w A l) (hk : k < l.length) (hn : l.length ≤ 9223372036854775807) :
    Calls Tryz.prog 78 #[.agg #[.slice A l.length c, .bool has, .int .i64 x], .int .i64 k] w fun e w' => e = .returned (.int .i64 (wr l k)) ∧ Below w.heap.size w w' := by
  have hl0 : l.length ≠ 0 := by omega
  obtain ⟨b, o, rfl, hb0, hc⟩ := h hl0
  obtain ⟨x0, x1, x2⟩ := hc k hk
  have EN : Hid (730 ≤ dy l k → dy l k < 2932896 → ∀ W, Below w.heap.size w W → Calls Tryz.prog 101 #[.int .i64 (dy l k)] W fun e w' => e = .returned (.bool (endB (dy l k))) ∧ Below W.heap.size W w') := fun a b W hb => end_at _ W a b
  have PV : Hid (0 < k → ∀ W, Below w.heap.size w W → W.cell? ⟨b, o + (k - 1) * 3, none⟩ = some (.int .i64 (dy l (k - 1)))) := fun h0 W hb => (hb.cell (p := ⟨b, o + (k - 1) * 3, none⟩) hb0).trans (hc (k - 1) (by omega)).1
  have WR : Hid (wr l k = if 200 ≤ k then 8 else if dy l k < 730 ∨ 2932896 ≤ dy l k then 9 else if endB (dy l k) = false then 5 else if st l k ≠ 1 ∧ st l k ≠ -1 then 6 else if 0 < k ∧ dy l k ≤ dy l (k - 1) then 4 else 0) := rfl
  clear hc h
  generalize wr l k = R at *
  generalize dy l k = D at *
  generalize st l k = S at *
  generalize rl l k = O at *
  generalize dy l (k - 1) = P at *
  generalize endB D = E at *
  generalize l.length = n at *
  have B0 := Lib.hid (bal (bal (Below.refl w.heap.size w) (.cells #[.slice (some ⟨b, o, none⟩) n c, .bool has, .int .i64 x] 24)) (.cells #[.int .i64 D, .int .i64 S, .bool O] 40))
  have y3 : ∀ ob, (w.alloc ob).cell? ⟨b, o + k * 3, none⟩ = some (.int .i64 D) := fun ob => ((bal (Below.refl w.heap.size w) ob).cell (p := ⟨b, o + k * 3, none⟩) hb0).trans x0
  have y4 : ∀ ob, (w.alloc ob).cell? ⟨b, o + k * 3 + 1, none⟩ = some (.int .i64 S) := fun ob => ((bal (Below.refl w.heap.size w) ob).cell (p := ⟨b, o + k * 3 + 1, none⟩) hb0).trans x1
  have y5 : ∀ ob, (w.alloc ob).cell? ⟨b, o + k * 3 + 2, none⟩ = some (.bool O) := fun ob => ((bal (Below.refl w.heap.size w) ob).cell (p := ⟨b, o + k * 3 + 2, none⟩) hb0).trans x2
  by_cases h200 : 200 ≤ k
  · have e : R = 8 := by rw [WR.out, if_pos h200]
    subst e
    clear WR EN PV
    go_enter Tryz.func78, Tryz.ntmps78
    go_wp2
    go_ret
    exact ⟨rfl, B0.out⟩
  by_cases hd : D < 730
  · have e : R = 9 := by rw [WR.out, if_neg h200, if_pos (Or.inl hd)]
    subst e
    clear WR EN PV
    go_enter Tryz.func78, Tryz.ntmps78
    go_wp2
    go_ret
    exact ⟨rfl, B0.out⟩
  by_cases hd2 : 2932896 ≤ D
  · have e : R = 9 := by rw [WR.out, if_neg h200, if_pos (Or.inr hd2)]
    subst e
    clear WR EN PV
    go_enter Tryz.func78, Tryz.ntmps78
    go_wp2
    go_ret
    exact ⟨rfl, B0.out⟩
  have W2 : Hid (R = if E = false then 5 else if S ≠ 1 ∧ S ≠ -1 then 6 else if 0 < k ∧ D ≤ P then 4 else 0) := by
    show R = _
    rw [WR.out, if_neg h200, if_neg (by omega)]
  have EN2 := Lib.hid (EN.out (by omega) (by omega) _ B0.out)
  clear WR EN
  cases E
  · have e : R = 5 := by rw [W2.out, if_pos rfl]
    subst e
    clear W2 PV
    go_enter Tryz.func78, Tryz.ntmps78
    go_wp2_with (go_at_call 101; with_reducible refine (EN2.out).mono ?_; rintro e w1 ⟨rfl, hb1⟩)
    go_ret
    exact ⟨rfl, btr B0.out hb1⟩
  have W3 : Hid (R = if S ≠ 1 ∧ S ≠ -1 then 6 else if 0 < k ∧ D ≤ P then 4 else 0) := by
    show R = _
    rw [W2.out, if_neg (by simp)]
  clear W2
  have CC : Hid (∀ w1, Below ((w.alloc (.cells #[.slice (some ⟨b, o, none⟩) n c, .bool has, .int .i64 x] 24)).alloc (.cells #[.int .i64 D, .int .i64 S, .bool O] 40)).heap.size ((w.alloc (.cells #[.slice (some ⟨b, o, none⟩) n c, .bool has, .int .i64 x] 24)).alloc (.cells #[.int .i64 D, .int .i64 S, .bool O] 40)) w1 → w1.cell? ⟨w.heap.size + 1, 0, none⟩ = some (.int .i64 D) ∧ w1.cell? ⟨w.heap.size + 1, 1, none⟩ = some (.int .i64 S) ∧ w1.cell? ⟨w.heap.size, 0, none⟩ = some (.slice (some ⟨b, o, none⟩) n c)) := fun w1 hb1 => ⟨row_cell (kept (hp_new1 w _ _) hb1) 0, row_cell (kept (hp_new1 w _ _) hb1) 1, row_cell (kept (hp_old (hp_new w _) _) hb1) 0⟩
  by_cases hs : S ≠ 1 ∧ S ≠ -1
  · have e : R = 6 := by rw [W3.out, if_pos hs]
    subst e
    have t1 : (S != 1) = true := by simpa using hs.1
    have t2 : (S != -1) = true := by simpa using hs.2
    clear W3 PV hs
    go_enter Tryz.func78, Tryz.ntmps78
    go_wp2_with (go_at_call 101; with_reducible refine (EN2.out).mono ?_; rintro e w1 ⟨rfl, hb1⟩; obtain ⟨y0, y1, y2⟩ := CC.out w1 hb1)
    go_ret
    exact ⟨rfl, btr B0.out hb1⟩
  have W4 : Hid (R = if 0 < k ∧ D ≤ P then 4 else 0) := by
    show R = _
    rw [W3.out, if_neg hs]
  clear W3
  have hs2 : S = 1 ∨ S = -1 := by omega
  clear hs
  by_cases h0 : 0 < k
  · have t3 : decide (0 < (k : Int)) = true := by simp; omega
    have PV2 := Lib.hid (PV.out h0)
    clear PV
    rcases hs2 with rfl | rfl
    · by_cases hp : D ≤ P
      · have e : R = 4 := by rw [W4.out, if_pos ⟨h0, hp⟩]
        subst e
        have t4 : decide (D ≤ P) = true := by simpa using hp
        clear W4
        go_enter Tryz.func78, Tryz.ntmps78
        go_wp2_with (go_at_call 101; with_reducible refine (EN2.out).mono ?_; rintro e w1 ⟨rfl, hb1⟩; obtain ⟨y0, y1, y2⟩ := CC.out w1 hb1; have y6 := PV2.out w1 (btr B0.out hb1))
        go_quiet (fail)
        go_wp2
        go_ret
        exact ⟨rfl, bel_drewN (btr B0.out hb1) _⟩
      · have e : R = 0 := by rw [W4.out, if_neg (fun g => hp g.2)]
        subst e
        have t4 : decide (D ≤ P) = false := by simpa using hp
        clear W4
        go_enter Tryz.func78, Tryz.ntmps78
        go_wp2_with (go_at_call 101; with_reducible refine (EN2.out).mono ?_; rintro e w1 ⟨rfl, hb1⟩; obtain ⟨y0, y1, y2⟩ := CC.out w1 hb1; have y6 := PV2.out w1 (btr B0.out hb1))
        go_quiet (fail)
        go_wp2
        go_ret
        exact ⟨rfl, bel_drewN (btr B0.out hb1) _⟩
    · by_cases hp : D ≤ P
      · have e : R = 4 := by rw [W4.out, if_pos ⟨h0, hp⟩]
        subst e
        have t4 : decide (D ≤ P) = true := by simpa using hp
        clear W4
        go_enter Tryz.func78, Tryz.ntmps78
        go_wp2_with (go_at_call 101; with_reducible refine (EN2.out).mono ?_; rintro e w1 ⟨rfl, hb1⟩; obtain ⟨y0, y1, y2⟩ := CC.out w1 hb1; have y6 := PV2.out w1 (btr B0.out hb1))
        go_quiet (fail)
        go_wp2
        go_ret
        exact ⟨rfl, bel_drewN (btr B0.out hb1) _⟩
      · have e : R = 0 := by rw [W4.out, if_neg (fun g => hp g.2)]
        subst e
        have t4 : decide (D ≤ P) = false := by simpa using hp
        clear W4
        go_enter Tryz.func78, Tryz.ntmps78
        go_wp2_with (go_at_call 101; with_reducible refine (EN2.out).mono ?_; rintro e w1 ⟨rfl, hb1⟩; obtain ⟨y0, y1, y2⟩ := CC.out w1 hb1; have y6 := PV2.out w1 (btr B0.out hb1))
        go_quiet (fail)
        go_wp2
        go_ret
        exact ⟨rfl, bel_drewN (btr B0.out hb1) _⟩
  · have t3 : decide (0 < (k : Int)) = false := by simp; omega
    have e : R = 0 := by rw [W4.out, if_neg (fun g => h0 g.1)]
    subst e
    clear W4 PV
    rcases hs2 with rfl | rfl
    · go_enter Tryz.func78, Tryz.ntmps78
      go_wp2_with (go_at_call 101; with_reducible refine (EN2.out).mono ?_; rintro e w1 ⟨rfl, hb1⟩; obtain ⟨y0, y1, y2⟩ := CC.out w1 hb1)
      go_quiet (fail)
      go_wp2
      go_ret
      exact ⟨rfl, bel_drewN (btr B0.out hb1) _⟩
    · go_enter Tryz.func78, Tryz.ntmps78
      go_wp2_with (go_at_call 101; with_reducible refine (EN2.out).mono ?_; rintro e w1 ⟨rfl, hb1⟩; obtain ⟨y0, y1, y2⟩ := CC.out w1 hb1)
      go_quiet (fail)
      go_wp2
      go_ret
      exact ⟨rfl, bel_drewN (btr B0.out hb1) _⟩

/-- the least second of an expiry behind the first k leaps. -/
def lk (l : List Lp) (k : Nat) : Int := if k = 0 then 63072000 else 86400 * (dy l (k - 1) + 1)
theorem lk_all (l : List Lp) : lk l l.length = lm.lst l := by unfold lk lm.lst; split <;> omega
/-- at the head of a round of Check. -/
def RHead (l : List Lp) (A : Option Addr) (c : Nat) (has : Bool) (x : Int) (w : World) (s i : Value) (W : World) : Prop :=
  ∃ k : Nat, k ≤ l.length ∧ i = .int .i64 (k : Nat) ∧ s = .int .i64 (lk l k) ∧ Below w.heap.size w W ∧ W.heap[w.heap.size]? = some (.cells (tcs A l.length c has x) 24) ∧ ∀ j, j < k → lm.wr l j = 0
set_option maxHeartbeats 2000000 in
set_option maxRecDepth 100000 in
theorem check_at (l : List Lp) (A : Option Addr) (c : Nat) (has : Bool) (x : Int) (w : World) (h : Lps w A l) (hn : l.length ≤ 9223372036854775807) :
    Calls Tryz.prog 48 #[.agg #[.slice A l.length c, .bool has, .int .i64 x]] w (leap.Checked l has x w) := by
  go_enter Tryz.func48, Tryz.ntmps48
  go_wp2
  go_loopw [4, 5] (fun s i W => RHead l A c has x w s i W) (fun _ i _ => l.length - (intOf i).toNat)
  case atStart => exact ⟨0, Nat.zero_le _, rfl, rfl, bal (Below.refl _ _) _, hp_new _ _, fun j hj => by omega⟩
  case round =>
    obtain ⟨k, hk, rfl, rfl, hb, H0, hok⟩ := hrel
    obtain ⟨x0, x1, x2⟩ := tcs_cells H0
    by_cases hlt : k < l.length
    · have L := Lib.hid (wrong_at l A c has x k wr (h.below hb) hlt hn)
      by_cases hw : lm.wr l k = 0
      · rw [hw] at L
        obtain ⟨b, o, rfl, hb0, hc⟩ := h.below hb (by omega)
        have CE : Hid (∀ W', Below wr.heap.size wr W' → W'.cell? ⟨b, o + k * 3, none⟩ = some (.int .i64 (dy l k)) ∧ W'.cell? ⟨w.heap.size, 0, none⟩ = some (.slice (some ⟨b, o, none⟩) l.length c)) := fun W' hb' => ⟨(hb'.cell (p := ⟨b, o + k * 3, none⟩) hb0).trans (hc k hlt).1, (tcs_cells (kept H0 hb')).1⟩
        have bd := (wr_ok.1 hw).2
        have R : Hid (∀ W', Below wr.heap.size wr W' → RHead l (some ⟨b, o, none⟩) c has x w (.int .i64 (86400 * (dy l k + 1))) (.int .i64 ((k : Int) + 1)) W') := fun W' hb' => ⟨k + 1, by omega, rfl, by unfold lk; rw [if_neg (by omega), Nat.add_sub_cancel], btr hb hb', kept H0 hb', fun j hj => by
          rcases Nat.eq_or_lt_of_le (Nat.le_of_lt_succ hj) with rfl | g
          · exact hw
          · exact hok j g⟩
        have b1 := bd.1
        have b2 := bd.2.1
        clear hok h H0 hw hc bd
        generalize dy l k = D at *
        generalize lk l k = Q at *
        generalize l.length = n at *
        go_wp2_with (go_at_call 78; with_reducible refine (L.out).mono ?_; rintro e w1 ⟨rfl, hb1⟩; have R1 := R.out _ hb1; obtain ⟨z0, z1⟩ := CE.out _ hb1)
        go_roundw
        case rel => exact R1
        case measure => simp [intOf]; omega
      · obtain ⟨e1, e2⟩ := ce_at (has := has) (x := x) hok hlt hw
        have R : Hid (∀ W', Below wr.heap.size wr W' → leap.Checked l has x w (.returned (.tuple #[.int .i64 (k : Nat), .int .i64 (lm.wr l k)])) W') := fun W' hb' => ⟨by rw [e1, e2], btr hb hb'⟩
        clear hok h H0 e1 e2
        have t : (lm.wr l k == 0) = false := by simpa using hw
        clear hw
        generalize lm.wr l k = z at *
        generalize lk l k = Q at *
        generalize l.length = n at *
        go_wp2_with (go_at_call 78; with_reducible refine (L.out).mono ?_; rintro e w1 ⟨rfl, hb1⟩; have R1 := R.out _ hb1)
        (try simp only [Exit.inBlock, Exit.then])
        exact bodyPost_ret (v := .tuple #[.int .i64 (k : Nat), .int .i64 z]) (by simp [results, Tryz.results48, go_sem]) rfl R1
    · obtain rfl : k = l.length := by omega
      obtain ⟨e1, e2⟩ := ce_end (has := has) (x := x) hok
      have R : Hid (∀ z, z = xp l has x → ∀ W', Below w.heap.size w W' → leap.Checked l has x w (.returned (.tuple #[.int .i64 (l.length : Nat), .int .i64 z])) W') := fun z hz W' hb' => ⟨by rw [e1, e2, hz], hb'⟩
      have XP : Hid (∀ L, L = lm.lst l → xp l has x = if has then (if x < L ∨ 253402300799 < x then 9 else 0) else if x = 0 then 0 else 9) := fun L hL => xp_cases l has x L hL
      have hq := lk_all l
      clear hok h hlt hk e1 e2 H0
      generalize lk l l.length = Q at *
      have XQ := XP.out Q hq
      clear XP hq
      generalize xp l has x = z at *
      generalize l.length = n at *
      cases has
      · by_cases hx : x = 0
        · have R2 := Lib.hid (R.out 0 (by rw [XQ, if_neg (by decide), if_pos hx]))
          clear R XQ
          subst hx
          go_wp2
          exact bodyPost_ret (v := .tuple #[.int .i64 (n : Nat), .int .i64 0]) (by simp [results, Tryz.results48, go_sem]) rfl (R2.out _ hb)
        · have R2 := Lib.hid (R.out 9 (by rw [XQ, if_neg (by decide), if_neg hx]))
          have t : (x != 0) = true := by simpa using hx
          clear R XQ hx
          go_wp2
          exact bodyPost_ret (v := .tuple #[.int .i64 (n : Nat), .int .i64 9]) (by simp [results, Tryz.results48, go_sem]) rfl (R2.out _ hb)
      · by_cases h1 : x < Q
        · have R2 := Lib.hid (R.out 9 (by rw [XQ, if_pos rfl, if_pos (Or.inl h1)]))
          have t : decide (x < Q) = true := by simpa using h1
          clear R XQ h1
          go_wp2
          exact bodyPost_ret (v := .tuple #[.int .i64 (n : Nat), .int .i64 9]) (by simp [results, Tryz.results48, go_sem]) rfl (R2.out _ hb)
        · have t : decide (x < Q) = false := by simp; omega
          by_cases h2 : 253402300799 < x
          · have R2 := Lib.hid (R.out 9 (by rw [XQ, if_pos rfl, if_pos (Or.inr h2)]))
            have t2 : decide (253402300799 < x) = true := by simpa using h2
            clear R XQ h1 h2
            go_wp2
            exact bodyPost_ret (v := .tuple #[.int .i64 (n : Nat), .int .i64 9]) (by simp [results, Tryz.results48, go_sem]) rfl (R2.out _ hb)
          · have R2 := Lib.hid (R.out 0 (by rw [XQ, if_pos rfl, if_neg (by omega)]))
            have t2 : decide (253402300799 < x) = false := by simp; omega
            clear R XQ h1 h2
            go_wp2
            exact bodyPost_ret (v := .tuple #[.int .i64 (n : Nat), .int .i64 0]) (by simp [results, Tryz.results48, go_sem]) rfl (R2.out _ hb)
theorem right_at (l : List Lp) (A : Option Addr) (c : Nat) (has : Bool) (x : Int) (w : World) (h : Lps w A l) (hn : l.length ≤ 9223372036854775807) :
    Calls Tryz.prog 22 #[.agg #[.slice A l.length c, .bool has, .int .i64 x]] w fun e w' => e = .returned (.bool (ce l has x == 0)) ∧ Below w.heap.size w w' := by
  have hb0 := bal (Below.refl w.heap.size w) (.cells #[.slice A l.length c, .bool has, .int .i64 x] 24)
  have C := Lib.hid (check_at l A c has x _ (h.below hb0) hn)
  unfold leap.Checked at C
  have HB := Lib.hid hb0
  clear h hb0
  generalize ce l has x = z at *
  generalize cp l = p at *
  generalize l.length = n at *
  go_enter Tryz.func22, Tryz.ntmps22
  go_wp2_with (go_at_call 48; with_reducible refine (C.out).mono ?_; rintro e w1 ⟨rfl, hb1⟩)
  go_ret
  exact ⟨rfl, btr HB.out hb1⟩
end Go.Proofs.YtldieebiicblbaaGreatDoor.ref09

/-
  The document's own answers of layer 9: Total, Step, Length. Conditions: the slice reads as the row; its leaps are right.
-/
namespace Go.Proofs.YtldieebiicblbaaGreatDoor.ref09
open Go.ChangeShapes Go.WideShapes Go.ChangeAt Go.RowKit
open lm mem leap
set_option linter.unusedVariables false
set_option maxRecDepth 100000

/-- at the head of a round of Total. -/
def RTot (l : List Lp) (A : Option Addr) (c : Nat) (has : Bool) (x : Int) (f : Nat) (w : World) (s i : Value) (W : World) : Prop :=
  ∃ k : Nat, k ≤ f ∧ i = .int .i64 (k : Nat) ∧ s = .int .i64 (tot l k) ∧ Below w.heap.size w W ∧ W.heap[w.heap.size]? = some (.cells (tcs A l.length c has x) 24)
end Go.Proofs.YtldieebiicblbaaGreatDoor.ref09

/-
  The document's own answers of layer 9: Copy and Add. Conditions: the slice reads as the row.
-/
namespace Go.Proofs.YtldieebiicblbaaGreatDoor.ref09
open Go.ChangeShapes Go.WideShapes Go.ChangeAt Go.RowKit
open lm mem leap
set_option linter.unusedVariables false
set_option maxRecDepth 100000

/-- a row of leaps of a call's own, as the library tells it. -/
def Row (w : World) (B : Nat) (v : Value) (l : List Lp) : Prop := w.ownsRow B 40 3 v l.length (pcs l)
theorem Row.slice {w : World} {B : Nat} {v : Value} {l : List Lp} (h : Row w B v l) : ∃ A c, v = .slice A l.length c ∧ Lps w A l ∧ l.length ≤ c := by
  have h0 := h
  rcases h.2 with ⟨rfl, hn⟩ | ⟨g, cap, cur, rfl, hb, hh, hnc, _, _, ht⟩
  · rw [hn]
    exact ⟨none, 0, rfl, fun hl => absurd hn hl, Nat.le_refl _⟩
  · exact ⟨_, _, rfl, Own.lps ⟨cur, hh, ht⟩, hnc⟩
theorem Row.below {w W : World} {B : Nat} {v : Value} {l : List Lp} (h : Row w B v l) (hb : Below w.heap.size w W) : Row W B v l := by
  refine ⟨h.1, ?_⟩
  rcases h.2 with e | ⟨g, cap, cur, e, hb', hh, a⟩
  · exact Or.inl e
  · exact Or.inr ⟨g, cap, cur, e, hb', kept hh hb, a⟩
theorem Row.notIn {w : World} {B : Nat} {v : Value} {l : List Lp} (h : Row w B v l) {k : Nat} (hk : w.heap.size ≤ k ∨ k < B) : v.ownBlock ≠ some k := by
  intro e
  have := World.ownsRow.lt h k e
  omega
/-- 'append(v, A...)' of a whole row. -/
theorem all_run (W : World) (B : Nat) (g : Nat) (v : Value) (ev : v = .slice (some ⟨g, 0, none⟩) 0 0) (hv : Row W B v []) (A : Option Addr) (l : List Lp) (c : Nat) (h : Lps W A l) (hn : l.length ≤ 1000000) (hB : B ≤ W.heap.size) (ty : TypeId) :
    ∃ v' W', (Builtin.append_ #[22, 22] ty #[v, .slice A l.length c]).run Tryz.prog W = .ok v' W' ∧ Row W' B v' l ∧ W.grownBy W' v.ownBlock := by
  obtain ⟨i0, hi, hz0, hz1, hz2⟩ := info_parts infoL
  have hm : l.length ≤ maxLen := by unfold maxLen; omega
  have some' : ∀ a, A = some a → (∀ j u, (pcs l)[j]? = some u → W.cell? (a.add j) = some u) → ∃ v' W', (Builtin.append_ #[22, 22] ty #[v, .slice A l.length c]).run Tryz.prog W = .ok v' W' ∧ Row W' B v' l ∧ W.grownBy W' v.ownBlock := by
    rintro a rfl hcell
    obtain ⟨v', W', hr, ho, hg, _⟩ := run_append_own (P := Tryz.prog) W B 22 ty 40 i0 _ 3 24 Tryz.underlying22 hi hz0 hz1 hz2 rfl (by decide) v 0 [] hv a l.length c (pcs l) (pcs_len l) hcell (pcs_one l) (by omega) (by omega) hB
    rw [Nat.zero_add, List.nil_append] at ho
    exact ⟨v', W', hr, ho, hg⟩
  by_cases h0 : l.length = 0
  · cases A with
    | none =>
      have el : l = [] := List.eq_nil_of_length_eq_zero h0
      subst el
      subst ev
      have hr := run_append_room_src (P := Tryz.prog) W 22 22 ty 40 i0 Tryz.underlying22 hi g 0 0 0 _ 0 [] (Src.ofNil W (e' := 40) Tryz.underlying22 c) (Nat.le_refl _) (fun j hj => by simp at hj) (fun j hj => by simp at hj)
      exact ⟨_, W, hr, hv, ⟨rfl, rfl, rfl, Nat.le_refl _, fun _ _ _ => rfl⟩⟩
    | some a =>
      have el : l = [] := List.eq_nil_of_length_eq_zero h0
      exact some' a rfl (fun j u hj => by rw [el] at hj; simp [pcs] at hj)
  · obtain ⟨b, o, e, _, hc⟩ := h.src h0
    exact some' _ e hc
/-- an 'append' whose run is known, in a list of operations. -/
theorem list_app {P : Program} {ops : Array Oper} {o : Oper} {rest : List Oper} {a : Act} {W : World} {Q : Exit → Act → World → Prop} (hgd : o.guard = none) (s x : Operand) (t : TypeId)
    (ho : o.op = .call { callee := .builtin .append, args := #[s, x], argTypes := #[t, t] }) (va vx v : Value) (W' : World) (hs : a.eval s = va) (hx : a.eval x = vx)
    (run : (Builtin.append_ #[t, t] o.type #[va, vx]).run P W = .ok v W') (h : wpList P ops Q rest (a.put o.dst v) W') : wpList P ops Q (o :: rest) a W := by
  refine wpList_plain hgd fun K hK => ?_
  unfold Oper.wp execOp
  simp only [ho, resolve, invoke, builtin, Sem.run_bind, Sem.run_pure, Result.andThen_ok, List.map_toArray, List.map_cons, List.map_nil, hs, hx, run]
  exact hK _ _ h
def Copied (l : List Lp) (has : Bool) (x : Int) (w : World) (e : Ending) (w' : World) : Prop :=
  ∃ A c, e = .returned (.agg #[.slice A l.length c, .bool has, .int .i64 x]) ∧ l.length ≤ c ∧ Row w' w.heap.size (.slice A l.length c) l ∧ Below w.heap.size w w'
set_option maxHeartbeats 1000000 in
theorem copy_at (l : List Lp) (A : Option Addr) (c : Nat) (has : Bool) (x : Int) (w : World) (h : Lps w A l) (hn : l.length ≤ 1000000) :
    Calls Tryz.prog 77 #[.agg #[.slice A l.length c, .bool has, .int .i64 x]] w (Copied l has x w) := by
  have hb3 : Below w.heap.size w (((w.alloc (.cells #[.slice A l.length c, .bool has, .int .i64 x] 24)).alloc (.cells #[.slice none 0 0, .bool false, .int .i64 0] 24)).alloc (.cells #[] 40)) := bal (bal (bal (Below.refl _ _) _) _) _
  have own : Row (((w.alloc (.cells #[.slice A l.length c, .bool has, .int .i64 x] 24)).alloc (.cells #[.slice none 0 0, .bool false, .int .i64 0] 24)).alloc (.cells #[] 40)) (w.heap.size + 1 + 1) (.slice (some ⟨w.heap.size + 1 + 1, 0, none⟩) 0 0) [] := by
    have := World.ownsRow_made (base := w.heap.size + 1 + 1) (e := 40) (size := 3) ((w.alloc (.cells #[.slice A l.length c, .bool has, .int .i64 x] 24)).alloc (.cells #[.slice none 0 0, .bool false, .int .i64 0] 24)) #[] 0 (by simp) (by decide) (by simp)
    simp only [World.size_alloc] at this
    exact this
  have b0 : (((w.alloc (.cells #[.slice A l.length c, .bool has, .int .i64 x] 24)).alloc (.cells #[.slice none 0 0, .bool false, .int .i64 0] 24)).alloc (.cells #[] 40)).heap[w.heap.size]? = some (.cells (tcs A l.length c has x) 24) := hp_old (hp_old (hp_new w _) _) _
  have b1 : (((w.alloc (.cells #[.slice A l.length c, .bool has, .int .i64 x] 24)).alloc (.cells #[.slice none 0 0, .bool false, .int .i64 0] 24)).alloc (.cells #[] 40)).heap[w.heap.size + 1]? = some (.cells (tcs none 0 0 false 0) 24) := hp_old (hp_new1 w _ _) _
  obtain ⟨v', W3, run, hrow, hg⟩ := all_run _ _ _ _ rfl own A l c (h.below hb3) hn (by simp) 22
  obtain ⟨A', c', rfl, hlp, hcap⟩ := hrow.slice
  have k0 : W3.heap[w.heap.size]? = some (.cells (tcs A l.length c has x) 24) := (hg.block _ (hp_lt b0) (by simp [Value.ownBlock]; omega)).trans b0
  have k1 : W3.heap[w.heap.size + 1]? = some (.cells (tcs none 0 0 false 0) 24) := (hg.block _ (hp_lt b1) (by simp [Value.ownBlock])).trans b1
  have hbW : Below w.heap.size w W3 := hb3.grown hg (by simp; omega) (fun k e => by simp [Value.ownBlock] at e; omega)
  have fz := tcs_frozen k0
  obtain ⟨c0, c1, c2⟩ := tcs_cells k0
  obtain ⟨e0, e1, e2⟩ := tcs_cells (tcs_set (B := A') (m := l.length) (d := c') k0)
  have K1 := Lib.hid ((heap_setCell_other W3 ⟨w.heap.size, 0, none⟩ (w.heap.size + 1) (.slice A' l.length c') (by show w.heap.size + 1 ≠ w.heap.size; omega)).trans k1)
  have R : Hid (∀ C, Copied l has x w (.returned (.agg (tcs A' l.length c' has x))) ((W3.setCell ⟨w.heap.size, 0, none⟩ (.slice A' l.length c')).setRow (w.heap.size + 1) C)) := fun C => by
    refine ⟨A', c', rfl, hcap, ?_, bel_setRow (hbW.setCell (Nat.le_refl _) _) (by omega) _⟩
    refine ⟨hrow.1, ?_⟩
    rcases hrow.2 with e | ⟨g, cap, cur, e, hb', hh, a⟩
    · exact Or.inl e
    · exact Or.inr ⟨g, cap, cur, e, by omega, (setRow_other _ _ _ _ (by omega)).trans ((heap_setCell_other _ ⟨w.heap.size, 0, none⟩ _ _ (by show g ≠ w.heap.size; omega)).trans hh), a⟩
  clear hrow hlp hg b0 b1 k0 k1 own hb3 h hbW
  go_enter Tryz.func77, Tryz.ntmps77
  go_wp2_with (first
    | (refine list_app rfl _ _ _ rfl _ _ _ _ rfl rfl run ?_)
    | (refine wpList_store_row rfl 24 (.tmp 2) (.tmp 8) rfl (w.heap.size + 1) (tcs A' l.length c' has x) rfl rfl 24 _ K1.out szT rfl (tcs_one _ _ _ _ _) ?_))
  exact end_row Tryz.results77 _ _ (w.heap.size + 1) 24 (tcs A' l.length c' has x) _ rfl (setRow_heap _ _ _ _ _ _ K1.out) Tryz.underlying24 szT rfl (R.out _)
end Go.Proofs.YtldieebiicblbaaGreatDoor.ref09
