/-
  What day's Date answers, where the two tables of package day hold what their initialisers lay: the date of a number from -719162 to 2932896, and true; noughts and false of any other. Conditions: those tables.
-/
import Derived.Test.YtiboijhfieaepaaGreatDoorDayNum
import Derived.Test.YtiboijhfieaepaaGreatDoorDayYear
namespace Go.Proofs.YtiboijhfieaepaaGreatDoor.day
open Go.ChangeShapes Go.WideShapes Go.ChangeAt Go.RowKit
open cal
set_option linter.unusedVariables false
set_option maxRecDepth 100000

theorem date_no (n : Int) (w : World) (h : n < -719162 ∨ 2932896 < n) :
    Calls Tryz.prog 55 #[.int .i64 n] w fun e w' => e = .returned (.tuple #[.int .i64 0, .int .i64 0, .int .i64 0, .bool false]) ∧ w = w' := by
  by_cases h1 : n < -719162
  · clear h
    go_enter Tryz.func55, Tryz.ntmps55
    go_wp2
    exact bodyPost_ret (v := .tuple #[.int .i64 0, .int .i64 0, .int .i64 0, .bool false]) (by simp [results, Tryz.results55, go_sem]) rfl ⟨rfl, rfl⟩
  · have h2 : 2932896 < n := by omega
    clear h
    go_enter Tryz.func55, Tryz.ntmps55
    go_wp2
    exact bodyPost_ret (v := .tuple #[.int .i64 0, .int .i64 0, .int .i64 0, .bool false]) (by simp [results, Tryz.results55, go_sem]) rfl ⟨rfl, rfl⟩

def Dated (n : Int) (w : World) (e : Ending) (w' : World) : Prop := ∃ y m d : Int, e = .returned (.tuple #[.int .i64 y, .int .i64 m, .int .i64 d, .bool true]) ∧ Vld y m d ∧ num y m d = n ∧ Below w.heap.size w w'

set_option maxHeartbeats 1000000 in
theorem date_some (n : Int) (w : World) (T : Tabs w) (h1 : -719162 ≤ n) (h2 : n ≤ 2932896) :
    Calls Tryz.prog 55 #[.int .i64 n] w (Dated n w) := by
  have C := Lib.hid (yearOf_yes (n + 719162) w T (by omega) (by omega))
  obtain ⟨q1, q2, q3, q4, q5⟩ := year_at (n + 719162) (by omega) (by omega)
  have Q5 := Lib.hid q5
  clear q5
  generalize y4 (n + 719162) = y at *
  generalize x4 (n + 719162) = r at *
  have l01 := lp_01 y
  have t1 : decide (n < -719162) = false := by simp; omega
  have t2 : decide (2932896 < n) = false := by simp; omega
  go_enter Tryz.func55, Tryz.ntmps55
  go_wp2_with (go_at_call 78; with_reducible refine (C.out).mono ?_; rintro e w1 ⟨rfl, hb⟩)
  have C2 := Lib.hid (fun k (g1 : 1 ≤ k) (g2 : k ≤ 12) => last_yes y k w1 (T.below hb) q1 q2 g1 g2)
  have HB := Lib.hid hb
  clear hb C
  go_loop [7, 8] (fun x k => ∃ m : Int, 1 ≤ m ∧ m ≤ 12 ∧ k = .int .i64 m ∧ 0 ≤ r - cum y m ∧ x = .int .i64 (r - cum y m)) (fun _ k => (12 - intOf k).toNat)
  case atStart => exact ⟨1, by omega, by omega, rfl, by rw [cum_one]; omega, by rw [cum_one]; congr 1; omega⟩
  case round =>
    obtain ⟨m, hm1, hm2, rfl, hr, rfl⟩ := hrel
    have cb := cum_bd y m hm1 hm2
    have db := dim_bd y m
    have HS := Lib.hid (cum_succ y m hm1 hm2)
    by_cases hc : m < 12 ∧ dim y m ≤ r - cum y m
    · obtain ⟨hm, hd⟩ := hc
      go_wp2_with (go_at_call 79; with_reducible refine (C2.out _ hm1 hm2).mono ?_; rintro e w' ⟨rfl, rfl⟩)
      go_round
      case rel => exact ⟨m + 1, by omega, by omega, rfl, by rw [HS.out]; omega, by rw [HS.out]; congr 1; omega⟩
      case measure => simp [intOf]; omega
    · have hv : r - cum y m < dim y m := by
        by_cases e : m = 12
        · subst e; rw [cum_dec, dim_dec]; omega
        · omega
      have V : Hid (Vld y m (r - cum y m + 1)) := ⟨q1, q2, hm1, hm2, by omega, by omega⟩
      have HN := Lib.hid (num_of y m r)
      clear hc
      by_cases hm : m < 12
      · go_wp2_with (go_at_call 79; with_reducible refine (C2.out _ hm1 hm2).mono ?_; rintro e w' ⟨rfl, rfl⟩)
        exact bodyPost_ret (v := .tuple #[.int .i64 y, .int .i64 m, .int .i64 (r - cum y m + 1), .bool true]) (by simp [results, Tryz.results55, go_sem]) rfl ⟨y, m, _, rfl, V.out, by rw [HN.out]; have := Q5.out; omega, HB.out⟩
      · clear hv HS
        go_wp2
        exact bodyPost_ret (v := .tuple #[.int .i64 y, .int .i64 m, .int .i64 (r - cum y m + 1), .bool true]) (by simp [results, Tryz.results55, go_sem]) rfl ⟨y, m, _, rfl, V.out, by rw [HN.out]; have := Q5.out; omega, HB.out⟩

theorem month_in (y r : Int) (h0 : 0 ≤ r) (k : Nat) (hk : k ≤ 12) (h : r < cum y (k + 1)) : ∃ m : Int, 1 ≤ m ∧ m ≤ 12 ∧ 0 ≤ r - cum y m ∧ r - cum y m < dim y m := by
  induction k with
  | zero =>
    have := cum_one y
    simp only [Int.natCast_zero, Int.zero_add] at h
    omega
  | succ k ih =>
    by_cases hl : r < cum y (k + 1)
    · exact ih (by omega) hl
    · have hs := cum_succ y (k + 1) (by omega) (by omega)
      refine ⟨k + 1, by omega, by omega, by omega, ?_⟩
      have e : ((k + 1 : Nat) : Int) + 1 = (k : Int) + 1 + 1 := by omega
      rw [e, hs] at h
      omega
theorem exists_date (n : Int) (h1 : -719162 ≤ n) (h2 : n ≤ 2932896) : ∃ y m d : Int, Vld y m d ∧ num y m d = n := by
  obtain ⟨q1, q2, q3, q4, q5⟩ := year_at (n + 719162) (by omega) (by omega)
  have he := cum_end (y4 (n + 719162))
  obtain ⟨m, m1, m2, m3, m4⟩ := month_in (y4 (n + 719162)) (x4 (n + 719162)) q3 12 (by omega) (by show _ < cum _ 13; omega)
  refine ⟨y4 (n + 719162), m, x4 (n + 719162) - cum (y4 (n + 719162)) m + 1, ⟨q1, q2, m1, m2, by omega, by omega⟩, ?_⟩
  rw [num_of]; omega
theorem date_yes (y m d n : Int) (w : World) (T : Tabs w) (v : Vld y m d) (hn : num y m d = n) :
    Calls Tryz.prog 55 #[.int .i64 n] w fun e w' => e = .returned (.tuple #[.int .i64 y, .int .i64 m, .int .i64 d, .bool true]) ∧ Below w.heap.size w w' := by
  have hb := num_bd v
  refine (date_some n w T (by omega) (by omega)).mono ?_
  rintro e w' ⟨y', m', d', rfl, v', hn', hb'⟩
  obtain ⟨rfl, rfl, rfl⟩ := num_inj v v' (by omega)
  exact ⟨rfl, hb'⟩

/-! all of them, behind a world whose tables are known: for callers that go on and on -/
theorem leap_on {w : World} (T : Tabs w) (W : World) (hb : Below w.heap.size w W) (y : Int) : Calls Tryz.prog 96 #[.int .i64 y] W fun e w' => e = .returned (.bool (leapB y)) ∧ Below w.heap.size w w' :=
  (leap_any y W).mono fun e w' ⟨he, hw⟩ => ⟨he, hw ▸ hb⟩
theorem last_on {w : World} (T : Tabs w) (W : World) (hb : Below w.heap.size w W) (y m : Int) (h1 : 1 ≤ y) (h2 : y ≤ 9999) (h3 : 1 ≤ m) (h4 : m ≤ 12) :
    Calls Tryz.prog 79 #[.int .i64 y, .int .i64 m] W fun e w' => e = .returned (.tuple #[.int .i64 (dim y m), .bool true]) ∧ Below w.heap.size w w' :=
  (last_yes y m W (T.below hb) h1 h2 h3 h4).mono fun e w' ⟨he, hw⟩ => ⟨he, hw ▸ hb⟩
theorem number_on {w : World} (T : Tabs w) (W : World) (hb : Below w.heap.size w W) (y m d n : Int) (v : Vld y m d) (hn : num y m d = n) :
    Calls Tryz.prog 71 #[.int .i64 y, .int .i64 m, .int .i64 d] W fun e w' => e = .returned (.tuple #[.int .i64 n, .bool true]) ∧ Below w.heap.size w w' := by
  subst hn
  exact (number_yes y m d W (T.below hb) v).mono fun e w' ⟨he, hw⟩ => ⟨he, hw ▸ hb⟩
theorem number_off {w : World} (T : Tabs w) (W : World) (hb : Below w.heap.size w W) (y m d : Int) (v : ¬ Vld y m d) :
    Calls Tryz.prog 71 #[.int .i64 y, .int .i64 m, .int .i64 d] W fun e w' => e = .returned (.tuple #[.int .i64 0, .bool false]) ∧ Below w.heap.size w w' :=
  (number_no y m d W (T.below hb) v).mono fun e w' ⟨he, hw⟩ => ⟨he, hw ▸ hb⟩
theorem date_on {w : World} (T : Tabs w) (W : World) (hb : Below w.heap.size w W) (y m d n : Int) (v : Vld y m d) (hn : num y m d = n) :
    Calls Tryz.prog 55 #[.int .i64 n] W fun e w' => e = .returned (.tuple #[.int .i64 y, .int .i64 m, .int .i64 d, .bool true]) ∧ Below w.heap.size w w' :=
  (date_yes y m d n W (T.below hb) v hn).mono fun e w' ⟨he, hw⟩ => ⟨he, hb.trans (hw.mono hb.size)⟩
theorem date_off {w : World} (T : Tabs w) (W : World) (hb : Below w.heap.size w W) (n : Int) (h : n < -719162 ∨ 2932896 < n) :
    Calls Tryz.prog 55 #[.int .i64 n] W fun e w' => e = .returned (.tuple #[.int .i64 0, .int .i64 0, .int .i64 0, .bool false]) ∧ Below w.heap.size w w' :=
  (date_no n W h).mono fun e w' ⟨he, hw⟩ => ⟨he, hw ▸ hb⟩
end Go.Proofs.YtiboijhfieaepaaGreatDoor.day
