/-
  What day's yearOf answers, where the two tables of package day hold what their initialisers lay: the year of a day by how many days it is behind the first one of the year 1, and its place in that year. Conditions: those tables; from 0 to 3652058 days.
-/
import Derived.Test.YtldieebiicblbaaGreatDoorG06
import Derived.WalkSmall
namespace Go.Proofs.YtldieebiicblbaaGreatDoor.day
open Go.ChangeShapes Go.WideShapes Go.ChangeAt Go.RowKit
open cal
set_option linter.unusedVariables false
set_option maxRecDepth 100000

/-- how many spans of each kind, and the days that are left. -/
def cnt (x s most : Int) : Int := min (x / s) most
def x1 (D : Int) : Int := D - cnt D 146097 24 * 146097
def x2 (D : Int) : Int := x1 D - cnt (x1 D) 36524 3 * 36524
def x3 (D : Int) : Int := x2 D - cnt (x2 D) 1461 24 * 1461
def x4 (D : Int) : Int := x3 D - cnt (x3 D) 365 3 * 365
def y1 (D : Int) : Int := 1 + cnt D 146097 24 * 400
def y2 (D : Int) : Int := y1 D + cnt (x1 D) 36524 3 * 100
def y3 (D : Int) : Int := y2 D + cnt (x2 D) 1461 24 * 4
def y4 (D : Int) : Int := y3 D + cnt (x3 D) 365 3
def leftD (D : Int) (k : Int) : Int := if k = 0 then D else if k = 1 then x1 D else if k = 2 then x2 D else if k = 3 then x3 D else x4 D
def yearD (D : Int) (k : Int) : Int := if k = 0 then 1 else if k = 1 then y1 D else if k = 2 then y2 D else if k = 3 then y3 D else y4 D
theorem year_at (D : Int) (h0 : 0 ≤ D) (h1 : D ≤ 3652058) :
    1 ≤ y4 D ∧ y4 D ≤ 9999 ∧ 0 ≤ x4 D ∧ x4 D < 365 + lp (y4 D) ∧ dby (y4 D) + x4 D = D :=
  year_of D (cnt D 146097 24) (cnt (x1 D) 36524 3) (cnt (x2 D) 1461 24) (cnt (x3 D) 365 3) (x1 D) (x2 D) (x3 D) (x4 D) h0 h1 rfl rfl rfl rfl rfl rfl rfl rfl
theorem left_bd (D : Int) (h0 : 0 ≤ D) (h1 : D ≤ 3652058) :
    (0 ≤ x1 D ∧ x1 D ≤ 146096) ∧ (0 ≤ x2 D ∧ x2 D ≤ 36524) ∧ (0 ≤ x3 D ∧ x3 D ≤ 1460) ∧ (1 ≤ y1 D ∧ y1 D ≤ 9999) ∧ (1 ≤ y2 D ∧ y2 D ≤ 9999) ∧ (1 ≤ y3 D ∧ y3 D ≤ 9999) := by
  have e1 : x1 D = D - cnt D 146097 24 * 146097 := rfl
  have e2 : x2 D = x1 D - cnt (x1 D) 36524 3 * 36524 := rfl
  have e3 : x3 D = x2 D - cnt (x2 D) 1461 24 * 1461 := rfl
  have f1 : y1 D = 1 + cnt D 146097 24 * 400 := rfl
  have f2 : y2 D = y1 D + cnt (x1 D) 36524 3 * 100 := rfl
  have f3 : y3 D = y2 D + cnt (x2 D) 1461 24 * 4 := rfl
  unfold cnt at *
  have b1 : 0 ≤ x1 D ∧ x1 D ≤ 146096 := by omega
  have b2 : 0 ≤ x2 D ∧ x2 D ≤ 36524 := by omega
  have b3 : 0 ≤ x3 D ∧ x3 D ≤ 1460 := by omega
  exact ⟨b1, b2, b3, by omega, by omega, by omega⟩

theorem Tabs.spans {w : World} (T : Tabs w) : w.cell? ⟨4, 0, none⟩ = some (.int .i64 400) ∧ w.cell? ⟨4, 1, none⟩ = some (.int .i64 146097) ∧ w.cell? ⟨4, 2, none⟩ = some (.int .i64 24) ∧
    w.cell? ⟨4, 3, none⟩ = some (.int .i64 100) ∧ w.cell? ⟨4, 4, none⟩ = some (.int .i64 36524) ∧ w.cell? ⟨4, 5, none⟩ = some (.int .i64 3) ∧
    w.cell? ⟨4, 6, none⟩ = some (.int .i64 4) ∧ w.cell? ⟨4, 7, none⟩ = some (.int .i64 1461) ∧ w.cell? ⟨4, 8, none⟩ = some (.int .i64 24) ∧
    w.cell? ⟨4, 9, none⟩ = some (.int .i64 1) ∧ w.cell? ⟨4, 10, none⟩ = some (.int .i64 365) ∧ w.cell? ⟨4, 11, none⟩ = some (.int .i64 3) :=
  ⟨T.2 0 _ rfl, T.2 1 _ rfl, T.2 2 _ rfl, T.2 3 _ rfl, T.2 4 _ rfl, T.2 5 _ rfl, T.2 6 _ rfl, T.2 7 _ rfl, T.2 8 _ rfl, T.2 9 _ rfl, T.2 10 _ rfl, T.2 11 _ rfl⟩

theorem run_span (w : World) (k : Int) (a b c : Int) (h : k = 0 ∧ a = 400 ∧ b = 146097 ∧ c = 24 ∨ k = 1 ∧ a = 100 ∧ b = 36524 ∧ c = 3 ∨ k = 2 ∧ a = 4 ∧ b = 1461 ∧ c = 24 ∨ k = 3 ∧ a = 1 ∧ b = 365 ∧ c = 3) :
    (Instr.index 162 (.agg #[.int .i64 400, .int .i64 146097, .int .i64 24, .int .i64 100, .int .i64 36524, .int .i64 3, .int .i64 4, .int .i64 1461, .int .i64 24, .int .i64 1, .int .i64 365, .int .i64 3]) (.int .i64 k)).run Tryz.prog w = .ok (.agg #[.int .i64 a, .int .i64 b, .int .i64 c]) w := by
  rcases h with ⟨rfl, rfl, rfl, rfl⟩ | ⟨rfl, rfl, rfl, rfl⟩ | ⟨rfl, rfl, rfl, rfl⟩ | ⟨rfl, rfl, rfl, rfl⟩ <;> kernel_rfl

set_option maxHeartbeats 1000000 in
theorem yearOf_yes (D : Int) (w : World) (T : Tabs w) (h0 : 0 ≤ D) (h1 : D ≤ 3652058) :
    Calls Tryz.prog 130 #[.int .i64 D] w fun e w' => e = .returned (.tuple #[.int .i64 (y4 D), .int .i64 (x4 D)]) ∧ Below w.heap.size w w' := by
  obtain ⟨c0, c1, c2, c3, c4, c5, c6, c7, c8, c9, c10, c11⟩ := T.spans
  have hbd := Lib.hid (left_bd D h0 h1)
  clear T
  go_enter Tryz.func130, Tryz.ntmps130
  go_wp2
  clear c0 c1 c2 c3 c4 c5 c6 c7 c8 c9 c10 c11
  go_loopw [0, 4, 9] (fun x y i W => ∃ k : Int, (k = 0 ∨ k = 1 ∨ k = 2 ∨ k = 3 ∨ k = 4) ∧ i = .int .i64 k ∧ x = .int .i64 (leftD D k) ∧ y = .int .i64 (yearD D k) ∧ Below w.heap.size w W) (fun _ _ i _ => (4 - intOf i).toNat)
  case atStart => exact ⟨0, Or.inl rfl, rfl, rfl, rfl, Below.refl _ _⟩
  case round =>
    obtain ⟨k, hk, rfl, rfl, rfl, hb⟩ := hrel
    rcases hk with rfl | rfl | rfl | rfl | rfl
    · have hi := run_span wr 0 400 146097 24 (by omega)
      have e1 : leftD D 0 = D := rfl
      have e2 : yearD D 0 = 1 := rfl
      have HX : Hid (x1 D = D - cnt (D) 146097 24 * 146097) := rfl
      have HY : Hid (y1 D = 1 + cnt (D) 146097 24 * 400) := by first | rfl | exact (show _ = _ by unfold y4; omega)
      rw [e1, e2]
      clear e1 e2
      go_wp2
      clear hi
      go_quiet (fail)
      go_wp2
      refine ⟨⟨1, by omega, rfl, ?_, ?_, below_drewN (hb.alloc hb.size _) _⟩, by simp [intOf]⟩
      · show Value.int .i64 _ = Value.int .i64 (x1 D)
        rw [HX.out]; unfold cnt; congr 1 <;> omega
      · show Value.int .i64 _ = Value.int .i64 (y1 D)
        rw [HY.out]; unfold cnt; congr 1 <;> omega
    · have hi := run_span wr 1 100 36524 3 (by omega)
      have e1 : leftD D 1 = x1 D := rfl
      have e2 : yearD D 1 = y1 D := rfl
      have HX : Hid (x2 D = x1 D - cnt (x1 D) 36524 3 * 36524) := rfl
      have HY : Hid (y2 D = y1 D + cnt (x1 D) 36524 3 * 100) := by first | rfl | exact (show _ = _ by unfold y4; omega)
      rw [e1, e2]
      clear e1 e2
      have bx := hbd.out.1
      have by' := hbd.out.2.2.2.1
      obtain ⟨bx1, bx2⟩ := bx
      obtain ⟨by1, by2⟩ := by'
      generalize x1 D = X at *
      generalize y1 D = Y at *
      by_cases hq : X / 36524 ≤ 3
      · skip
        go_wp2
        clear hi
        go_quiet (fail)
        go_wp2
        refine ⟨⟨2, by omega, rfl, ?_, ?_, below_drewN (hb.alloc hb.size _) _⟩, by simp [intOf]⟩
        · show Value.int .i64 _ = Value.int .i64 (x2 D)
          rw [HX.out]; unfold cnt; congr 1 <;> omega
        · show Value.int .i64 _ = Value.int .i64 (y2 D)
          rw [HY.out]; unfold cnt; congr 1 <;> omega
      · have hq' : 3 < X / 36524 := by omega
        clear hq
        go_wp2
        clear hi
        go_quiet (fail)
        go_wp2
        refine ⟨⟨2, by omega, rfl, ?_, ?_, below_drewN (hb.alloc hb.size _) _⟩, by simp [intOf]⟩
        · show Value.int .i64 _ = Value.int .i64 (x2 D)
          rw [HX.out]; unfold cnt; congr 1 <;> omega
        · show Value.int .i64 _ = Value.int .i64 (y2 D)
          rw [HY.out]; unfold cnt; congr 1 <;> omega
    · have hi := run_span wr 2 4 1461 24 (by omega)
      have e1 : leftD D 2 = x2 D := rfl
      have e2 : yearD D 2 = y2 D := rfl
      have HX : Hid (x3 D = x2 D - cnt (x2 D) 1461 24 * 1461) := rfl
      have HY : Hid (y3 D = y2 D + cnt (x2 D) 1461 24 * 4) := by first | rfl | exact (show _ = _ by unfold y4; omega)
      rw [e1, e2]
      clear e1 e2
      have bx := hbd.out.2.1
      have by' := hbd.out.2.2.2.2.1
      obtain ⟨bx1, bx2⟩ := bx
      obtain ⟨by1, by2⟩ := by'
      generalize x2 D = X at *
      generalize y2 D = Y at *
      by_cases hq : X / 1461 ≤ 24
      · skip
        go_wp2
        clear hi
        go_quiet (fail)
        go_wp2
        refine ⟨⟨3, by omega, rfl, ?_, ?_, below_drewN (hb.alloc hb.size _) _⟩, by simp [intOf]⟩
        · show Value.int .i64 _ = Value.int .i64 (x3 D)
          rw [HX.out]; unfold cnt; congr 1 <;> omega
        · show Value.int .i64 _ = Value.int .i64 (y3 D)
          rw [HY.out]; unfold cnt; congr 1 <;> omega
      · exfalso; omega
    · have hi := run_span wr 3 1 365 3 (by omega)
      have e1 : leftD D 3 = x3 D := rfl
      have e2 : yearD D 3 = y3 D := rfl
      have HX : Hid (x4 D = x3 D - cnt (x3 D) 365 3 * 365) := rfl
      have HY : Hid (y4 D = y3 D + cnt (x3 D) 365 3 * 1) := by first | rfl | exact (show _ = _ by unfold y4; omega)
      rw [e1, e2]
      clear e1 e2
      have bx := hbd.out.2.2.1
      have by' := hbd.out.2.2.2.2.2
      obtain ⟨bx1, bx2⟩ := bx
      obtain ⟨by1, by2⟩ := by'
      generalize x3 D = X at *
      generalize y3 D = Y at *
      by_cases hq : X / 365 ≤ 3
      · skip
        go_wp2
        clear hi
        go_quiet (fail)
        go_wp2
        refine ⟨⟨4, by omega, rfl, ?_, ?_, below_drewN (hb.alloc hb.size _) _⟩, by simp [intOf]⟩
        · show Value.int .i64 _ = Value.int .i64 (x4 D)
          rw [HX.out]; unfold cnt; congr 1 <;> omega
        · show Value.int .i64 _ = Value.int .i64 (y4 D)
          rw [HY.out]; unfold cnt; congr 1 <;> omega
      · have hq' : 3 < X / 365 := by omega
        clear hq
        go_wp2
        clear hi
        go_quiet (fail)
        go_wp2
        refine ⟨⟨4, by omega, rfl, ?_, ?_, below_drewN (hb.alloc hb.size _) _⟩, by simp [intOf]⟩
        · show Value.int .i64 _ = Value.int .i64 (x4 D)
          rw [HX.out]; unfold cnt; congr 1 <;> omega
        · show Value.int .i64 _ = Value.int .i64 (y4 D)
          rw [HY.out]; unfold cnt; congr 1 <;> omega
    · have e1 : leftD D 4 = x4 D := rfl
      have e2 : yearD D 4 = y4 D := rfl
      rw [e1, e2]
      clear e1 e2
      go_wp2
      go_ret2
      exact ⟨rfl, hb⟩
end Go.Proofs.YtldieebiicblbaaGreatDoor.day

/-
  What day's Date answers, where the two tables of package day hold what their initialisers lay: the date of a number from -719162 to 2932896, and true; noughts and false of any other. Conditions: those tables.
-/
namespace Go.Proofs.YtldieebiicblbaaGreatDoor.day
open Go.ChangeShapes Go.WideShapes Go.ChangeAt Go.RowKit
open cal
set_option linter.unusedVariables false
set_option maxRecDepth 100000

theorem date_no (n : Int) (w : World) (h : n < -719162 ∨ 2932896 < n) :
    Calls Tryz.prog 118 #[.int .i64 n] w fun e w' => e = .returned (.tuple #[.int .i64 0, .int .i64 0, .int .i64 0, .bool false]) ∧ w = w' := by
  by_cases h1 : n < -719162
  · clear h
    go_enter Tryz.func118, Tryz.ntmps118
    go_wp2
    exact bodyPost_ret (v := .tuple #[.int .i64 0, .int .i64 0, .int .i64 0, .bool false]) (by simp [results, Tryz.results118, go_sem]) rfl ⟨rfl, rfl⟩
  · have h2 : 2932896 < n := by omega
    clear h
    go_enter Tryz.func118, Tryz.ntmps118
    go_wp2
    exact bodyPost_ret (v := .tuple #[.int .i64 0, .int .i64 0, .int .i64 0, .bool false]) (by simp [results, Tryz.results118, go_sem]) rfl ⟨rfl, rfl⟩

def Dated (n : Int) (w : World) (e : Ending) (w' : World) : Prop := ∃ y m d : Int, e = .returned (.tuple #[.int .i64 y, .int .i64 m, .int .i64 d, .bool true]) ∧ Vld y m d ∧ num y m d = n ∧ Below w.heap.size w w'

set_option maxHeartbeats 1000000 in
theorem date_some (n : Int) (w : World) (T : Tabs w) (h1 : -719162 ≤ n) (h2 : n ≤ 2932896) :
    Calls Tryz.prog 118 #[.int .i64 n] w (Dated n w) := by
  have C := Lib.hid (yearOf_yes (n + 719162) w T (by omega) (by omega))
  obtain ⟨q1, q2, q3, q4, q5⟩ := year_at (n + 719162) (by omega) (by omega)
  have Q5 := Lib.hid q5
  clear q5
  generalize y4 (n + 719162) = y at *
  generalize x4 (n + 719162) = r at *
  have l01 := lp_01 y
  have t1 : decide (n < -719162) = false := by simp; omega
  have t2 : decide (2932896 < n) = false := by simp; omega
  go_enter Tryz.func118, Tryz.ntmps118
  go_wp2_with (go_at_call 130; with_reducible refine (C.out).mono ?_; rintro e w1 ⟨rfl, hb⟩)
  have C2 := Lib.hid (fun k (g1 : 1 ≤ k) (g2 : k ≤ 12) => last_yes y k w1 (T.below hb) q1 q2 g1 g2)
  have HB := Lib.hid hb
  clear hb C
  go_loop [7, 8] (fun x k => ∃ m : Int, 1 ≤ m ∧ m ≤ 12 ∧ k = .int .i64 m ∧ 0 ≤ r - cum y m ∧ x = .int .i64 (r - cum y m)) (fun _ k => (12 - intOf k).toNat)
  case atStart => exact ⟨1, by omega, by omega, rfl, by rw [cum_one]; omega, by rw [cum_one]; congr 1 <;> omega⟩
  case round =>
    obtain ⟨m, hm1, hm2, rfl, hr, rfl⟩ := hrel
    have cb := cum_bd y m hm1 hm2
    have db := dim_bd y m
    have HS := Lib.hid (cum_succ y m hm1 hm2)
    by_cases hc : m < 12 ∧ dim y m ≤ r - cum y m
    · obtain ⟨hm, hd⟩ := hc
      go_wp2_with (go_at_call 119; with_reducible refine (C2.out _ hm1 hm2).mono ?_; rintro e w' ⟨rfl, rfl⟩)
      go_round
      case rel => exact ⟨m + 1, by omega, by omega, rfl, by rw [HS.out]; omega, by rw [HS.out]; congr 1 <;> omega⟩
      case measure => simp [intOf]; omega
    · have hv : r - cum y m < dim y m := by
        by_cases e : m = 12
        · subst e; rw [cum_dec, dim_dec]; omega
        · omega
      have V : Hid (Vld y m (r - cum y m + 1)) := ⟨q1, q2, hm1, hm2, by omega, by omega⟩
      have HN := Lib.hid (num_of y m r)
      clear hc
      by_cases hm : m < 12
      · go_wp2_with (go_at_call 119; with_reducible refine (C2.out _ hm1 hm2).mono ?_; rintro e w' ⟨rfl, rfl⟩)
        exact bodyPost_ret (v := .tuple #[.int .i64 y, .int .i64 m, .int .i64 (r - cum y m + 1), .bool true]) (by simp [results, Tryz.results118, go_sem]) rfl ⟨y, m, _, rfl, V.out, by rw [HN.out]; have := Q5.out; omega, HB.out⟩
      · clear hv HS
        go_wp2
        exact bodyPost_ret (v := .tuple #[.int .i64 y, .int .i64 m, .int .i64 (r - cum y m + 1), .bool true]) (by simp [results, Tryz.results118, go_sem]) rfl ⟨y, m, _, rfl, V.out, by rw [HN.out]; have := Q5.out; omega, HB.out⟩

theorem month_in (y r : Int) (h0 : 0 ≤ r) (k : Nat) (hk : k ≤ 12) (h : r < cum y (k + 1)) : ∃ m : Int, 1 ≤ m ∧ m ≤ 12 ∧ 0 ≤ r - cum y m ∧ r - cum y m < dim y m := by
  induction k with
  | zero =>
    have := cum_one y
    simp only [Int.natCast_zero, Int.zero_add] at h
    omega
  | succ k ih =>
    by_cases hl : r < cum y (k + 1)
    · exact ih (by omega) hl
    · have hs := cum_succ y (k + 1) (by omega) (by omega)
      refine ⟨k + 1, by omega, by omega, by omega, ?_⟩
      have e : ((k + 1 : Nat) : Int) + 1 = (k : Int) + 1 + 1 := by omega
      rw [e, hs] at h
      omega
theorem exists_date (n : Int) (h1 : -719162 ≤ n) (h2 : n ≤ 2932896) : ∃ y m d : Int, Vld y m d ∧ num y m d = n := by
  obtain ⟨q1, q2, q3, q4, q5⟩ := year_at (n + 719162) (by omega) (by omega)
  have he := cum_end (y4 (n + 719162))
  obtain ⟨m, m1, m2, m3, m4⟩ := month_in (y4 (n + 719162)) (x4 (n + 719162)) q3 12 (by omega) (by show _ < cum _ 13; omega)
  refine ⟨y4 (n + 719162), m, x4 (n + 719162) - cum (y4 (n + 719162)) m + 1, ⟨q1, q2, m1, m2, by omega, by omega⟩, ?_⟩
  rw [num_of]; omega
theorem date_yes (y m d n : Int) (w : World) (T : Tabs w) (v : Vld y m d) (hn : num y m d = n) :
    Calls Tryz.prog 118 #[.int .i64 n] w fun e w' => e = .returned (.tuple #[.int .i64 y, .int .i64 m, .int .i64 d, .bool true]) ∧ Below w.heap.size w w' := by
  have hb := num_bd v
  refine (date_some n w T (by omega) (by omega)).mono ?_
  rintro e w' ⟨y', m', d', rfl, v', hn', hb'⟩
  obtain ⟨rfl, rfl, rfl⟩ := num_inj v v' (by omega)
  exact ⟨rfl, hb'⟩

/-! all of them, behind a world whose tables are known: for callers that go on and on -/
theorem leap_on {w : World} (T : Tabs w) (W : World) (hb : Below w.heap.size w W) (y : Int) : Calls Tryz.prog 131 #[.int .i64 y] W fun e w' => e = .returned (.bool (leapB y)) ∧ Below w.heap.size w w' :=
  (leap_any y W).mono fun e w' ⟨he, hw⟩ => ⟨he, hw ▸ hb⟩
theorem last_on {w : World} (T : Tabs w) (W : World) (hb : Below w.heap.size w W) (y m : Int) (h1 : 1 ≤ y) (h2 : y ≤ 9999) (h3 : 1 ≤ m) (h4 : m ≤ 12) :
    Calls Tryz.prog 119 #[.int .i64 y, .int .i64 m] W fun e w' => e = .returned (.tuple #[.int .i64 (dim y m), .bool true]) ∧ Below w.heap.size w w' :=
  (last_yes y m W (T.below hb) h1 h2 h3 h4).mono fun e w' ⟨he, hw⟩ => ⟨he, hw ▸ hb⟩
theorem date_on {w : World} (T : Tabs w) (W : World) (hb : Below w.heap.size w W) (y m d n : Int) (v : Vld y m d) (hn : num y m d = n) :
    Calls Tryz.prog 118 #[.int .i64 n] W fun e w' => e = .returned (.tuple #[.int .i64 y, .int .i64 m, .int .i64 d, .bool true]) ∧ Below w.heap.size w w' :=
  (date_yes y m d n W (T.below hb) v hn).mono fun e w' ⟨he, hw⟩ => ⟨he, hb.trans (hw.mono hb.size)⟩
theorem date_off {w : World} (T : Tabs w) (W : World) (hb : Below w.heap.size w W) (n : Int) (h : n < -719162 ∨ 2932896 < n) :
    Calls Tryz.prog 118 #[.int .i64 n] W fun e w' => e = .returned (.tuple #[.int .i64 0, .int .i64 0, .int .i64 0, .bool false]) ∧ Below w.heap.size w w' :=
  (date_no n W h).mono fun e w' ⟨he, hw⟩ => ⟨he, hw ▸ hb⟩
end Go.Proofs.YtldieebiicblbaaGreatDoor.day

/-
  Tables of leap seconds as plain mathematics: what is wrong of a leap, which one is the first wrong one, the expiry, what is found, totals and steps; days that end a month lie 28 days apart at least. No condition.
-/
namespace Go.Proofs.YtldieebiicblbaaGreatDoor.lm
open cal
set_option linter.unusedVariables false
set_option maxRecDepth 100000

/-- a leap: its day, its step, whether it is of local time. -/
abbrev Lp := Int × Int × Bool
def Endd (n : Int) : Prop := ∃ y m : Int, 1 ≤ y ∧ y ≤ 9999 ∧ 1 ≤ m ∧ m ≤ 12 ∧ num y m (dim y m) = n
open Classical in
noncomputable def endB (n : Int) : Bool := decide (Endd n)
open Classical in
theorem endB_iff (n : Int) : endB n = true ↔ Endd n := by unfold endB; exact decide_eq_true_iff
theorem vld_last {y m : Int} (h1 : 1 ≤ y) (h2 : y ≤ 9999) (h3 : 1 ≤ m) (h4 : m ≤ 12) : Vld y m (dim y m) := ⟨h1, h2, h3, h4, by have := dim_bd y m; omega, Int.le_refl _⟩
theorem endB_of {y m d n : Int} (v : Vld y m d) (hn : num y m d = n) : (d == dim y m) = endB n := by
  rw [Bool.eq_iff_iff, beq_iff_eq, endB_iff]
  constructor
  · rintro rfl
    exact ⟨y, m, v.1, v.2.1, v.2.2.1, v.2.2.2.1, hn⟩
  · rintro ⟨z, k, h1, h2, h3, h4, he⟩
    obtain ⟨rfl, rfl, rfl⟩ := num_inj v (vld_last h1 h2 h3 h4) (by omega)
    rfl
theorem end_far {a b : Int} (ha : Endd a) (hb : Endd b) (h : a < b) : 28 ≤ b - a := by
  obtain ⟨y, m, h1, h2, h3, h4, rfl⟩ := ha
  obtain ⟨z, k, g1, g2, g3, g4, rfl⟩ := hb
  have db := dim_bd z k
  by_cases hc : num y m (dim y m) < num z k 1
  · unfold num at hc ⊢; omega
  · exfalso
    have v : Vld z k (num y m (dim y m) - num z k 1 + 1) := ⟨g1, g2, g3, g4, by omega, by unfold num at h hc ⊢; omega⟩
    have hn : num z k (num y m (dim y m) - num z k 1 + 1) = num y m (dim y m) := by
      generalize hx : num y m (dim y m) = x at *
      unfold num; omega
    obtain ⟨rfl, rfl, e⟩ := num_inj (vld_last h1 h2 h3 h4) v hn.symm
    rw [← e] at hn
    omega
theorem end_yes {y m d n : Int} (v : Vld y m d) (hd : d = dim y m) (hn : num y m d = n) : endB n = true := by
  rw [← endB_of v hn]; simpa using hd
theorem end_not {y m d n : Int} (v : Vld y m d) (hd : d ≠ dim y m) (hn : num y m d = n) : endB n = false := by
  rw [← endB_of v hn]; simpa using hd
theorem end_911 : endB 911 = true := end_yes (y := 1972) (m := 6) (d := 30) (by decide) (by decide) (by decide)
theorem end_1095 : endB 1095 = true := end_yes (y := 1972) (m := 12) (d := 31) (by decide) (by decide) (by decide)
theorem end_912 : endB 912 = false := end_not (y := 1972) (m := 7) (d := 1) (by decide) (by decide) (by decide)

def z3 : Lp := (0, 0, false)
def dy (l : List Lp) (k : Nat) : Int := (l.getD k z3).1
def st (l : List Lp) (k : Nat) : Int := (l.getD k z3).2.1
/-- what is wrong of the leap at a place: an error's number. -/
noncomputable def wr (l : List Lp) (k : Nat) : Int :=
  if 200 ≤ k then 8 else if dy l k < 730 ∨ 2932896 ≤ dy l k then 9 else if endB (dy l k) = false then 5 else if st l k ≠ 1 ∧ st l k ≠ -1 then 6 else if 0 < k ∧ dy l k ≤ dy l (k - 1) then 4 else 0
theorem wr_ok {l : List Lp} {k : Nat} : wr l k = 0 ↔ (k < 200 ∧ 730 ≤ dy l k ∧ dy l k < 2932896 ∧ endB (dy l k) = true ∧ (st l k = 1 ∨ st l k = -1) ∧ (0 < k → dy l (k - 1) < dy l k)) := by
  unfold wr
  split
  · constructor <;> intro h <;> omega
  split
  · constructor <;> intro h <;> omega
  split
  · rename_i _ _ h; rw [h]; constructor <;> intro h <;> simp at h
  split
  · constructor <;> intro h <;> omega
  split
  · constructor <;> intro h <;> omega
  · rename_i a b c d e
    constructor
    · intro _
      refine ⟨by omega, by omega, by omega, by simpa using c, by omega, fun h => by omega⟩
    · intro _; rfl
theorem wr_bd (l : List Lp) (k : Nat) : 0 ≤ wr l k ∧ wr l k ≤ 9 := by
  unfold wr
  (repeat' split) <;> omega
/-- the place of the first wrong one. -/
noncomputable def cpF (l : List Lp) : Nat → Nat → Nat
  | 0, k => k
  | n + 1, k => if wr l k = 0 then cpF l n (k + 1) else k
noncomputable def cp (l : List Lp) : Nat := cpF l l.length 0
theorem cpF_spec (l : List Lp) : ∀ n k, (∀ i, k ≤ i → i < cpF l n k → wr l i = 0) ∧ k ≤ cpF l n k ∧ cpF l n k ≤ k + n ∧ (cpF l n k < k + n → wr l (cpF l n k) ≠ 0)
  | 0, k => ⟨fun i h1 h2 => by unfold cpF at h2; omega, by unfold cpF; omega, by unfold cpF; omega, fun h => by unfold cpF at h; omega⟩
  | n + 1, k => by
    by_cases h : wr l k = 0
    · have e : cpF l (n + 1) k = cpF l n (k + 1) := by rw [cpF, if_pos h]
      obtain ⟨a, b, c, d⟩ := cpF_spec l n (k + 1)
      rw [e]
      refine ⟨fun i h1 h2 => ?_, by omega, by omega, fun h => d (by omega)⟩
      rcases Nat.eq_or_lt_of_le h1 with rfl | h3
      · exact h
      · exact a i h3 h2
    · have e : cpF l (n + 1) k = k := by rw [cpF, if_neg h]
      rw [e]
      exact ⟨fun i h1 h2 => by omega, Nat.le_refl _, by omega, fun _ => h⟩
theorem cp_ok (l : List Lp) {i : Nat} (h : i < cp l) : wr l i = 0 := (cpF_spec l l.length 0).1 i (Nat.zero_le _) h
theorem cp_le (l : List Lp) : cp l ≤ l.length := by have := (cpF_spec l l.length 0).2.2.1; unfold cp; omega
theorem cp_wrong (l : List Lp) (h : cp l < l.length) : wr l (cp l) ≠ 0 := (cpF_spec l l.length 0).2.2.2 (by unfold cp at h; omega)
theorem cp_is (l : List Lp) (k : Nat) (h1 : ∀ i, i < k → wr l i = 0) (h2 : k ≤ l.length) (h3 : k < l.length → wr l k ≠ 0) : cp l = k := by
  rcases Nat.lt_trichotomy (cp l) k with h | h | h
  · exact absurd (h1 _ h) (cp_wrong l (by omega))
  · exact h
  · exact absurd (cp_ok l h) (h3 (by have := cp_le l; omega))
/-- the least second of an expiry, and what is wrong of it. -/
def lst (l : List Lp) : Int := if l.length = 0 then 63072000 else (dy l (l.length - 1) + 1) * 86400
def xp (l : List Lp) (has : Bool) (x : Int) : Int := if has then (if x < lst l ∨ 253402300799 < x then 9 else 0) else if x = 0 then 0 else 9
noncomputable def ce (l : List Lp) (has : Bool) (x : Int) : Int := if cp l < l.length then wr l (cp l) else xp l has x
theorem ce_at {l : List Lp} {has : Bool} {x : Int} {k : Nat} (h1 : ∀ i, i < k → wr l i = 0) (h2 : k < l.length) (h3 : wr l k ≠ 0) : cp l = k ∧ ce l has x = wr l k := by
  have e := cp_is l k h1 (by omega) (fun _ => h3)
  exact ⟨e, by unfold ce; rw [e, if_pos h2]⟩
theorem ce_end {l : List Lp} {has : Bool} {x : Int} (h1 : ∀ i, i < l.length → wr l i = 0) : cp l = l.length ∧ ce l has x = xp l has x := by
  have e := cp_is l l.length h1 (Nat.le_refl _) (fun h => by omega)
  exact ⟨e, by unfold ce; rw [e, if_neg (by omega)]⟩
theorem ce_ok {l : List Lp} {has : Bool} {x : Int} : ce l has x = 0 ↔ (∀ i, i < l.length → wr l i = 0) ∧ xp l has x = 0 := by
  constructor
  · intro h
    by_cases hc : cp l < l.length
    · unfold ce at h; rw [if_pos hc] at h; exact absurd h (cp_wrong l hc)
    · unfold ce at h; rw [if_neg hc] at h
      exact ⟨fun i hi => cp_ok l (by omega), h⟩
  · rintro ⟨h1, h2⟩
    rw [(ce_end h1).2, h2]
/-- all leaps are right. -/
def Good (l : List Lp) : Prop := ∀ i, i < l.length → wr l i = 0
theorem good_of {l : List Lp} {has : Bool} {x : Int} (h : ce l has x = 0) : Good l := (ce_ok.1 h).1
theorem Good.len {l : List Lp} (h : Good l) : l.length ≤ 200 := by
  rcases Nat.lt_or_ge 200 l.length with g | g
  · have := (wr_ok.1 (h 200 g)).1; omega
  · exact g
theorem Good.day {l : List Lp} (h : Good l) {i : Nat} (hi : i < l.length) : 730 ≤ dy l i ∧ dy l i < 2932896 := by
  have := wr_ok.1 (h i hi); exact ⟨this.2.1, this.2.2.1⟩
theorem Good.step {l : List Lp} (h : Good l) {i : Nat} (hi : i < l.length) : st l i = 1 ∨ st l i = -1 := (wr_ok.1 (h i hi)).2.2.2.2.1
theorem Good.lt {l : List Lp} (h : Good l) {i : Nat} (hi : i < l.length) : ∀ j, j < i → dy l j < dy l i := by
  induction i with
  | zero => intro j hj; omega
  | succ i ih =>
    intro j hj
    have e := (wr_ok.1 (h (i + 1) hi)).2.2.2.2.2 (by omega)
    rw [Nat.add_sub_cancel] at e
    rcases Nat.eq_or_lt_of_le (Nat.le_of_lt_succ hj) with rfl | g
    · exact e
    · have := ih (by omega) j g; omega
theorem Good.far {l : List Lp} (h : Good l) {i : Nat} (hi : i < l.length) (h0 : 0 < i) : 28 ≤ dy l i - dy l (i - 1) := by
  have a := wr_ok.1 (h i hi)
  have b := wr_ok.1 (h (i - 1) (by omega))
  exact end_far ((endB_iff _).1 b.2.2.2.1) ((endB_iff _).1 a.2.2.2.1) (a.2.2.2.2.2 h0)

/-! what is found -/
def fnd (l : List Lp) (d : Int) : Nat := match l with
  | [] => 0
  | x :: r => if x.1 < d then fnd r d + 1 else 0
theorem dy_cons (x : Lp) (r : List Lp) (i : Nat) : dy (x :: r) (i + 1) = dy r i := by unfold dy; simp
theorem dy_zero (x : Lp) (r : List Lp) : dy (x :: r) 0 = x.1 := by unfold dy; simp
theorem fnd_spec : ∀ (l : List Lp) (d : Int), fnd l d ≤ l.length ∧ (∀ i, i < fnd l d → dy l i < d) ∧ (fnd l d < l.length → d ≤ dy l (fnd l d))
  | [], d => ⟨by simp [fnd], fun i h => by simp [fnd] at h, fun h => by simp [fnd] at h⟩
  | x :: r, d => by
    obtain ⟨a, b, c⟩ := fnd_spec r d
    by_cases h : x.1 < d
    · have e : fnd (x :: r) d = fnd r d + 1 := by rw [fnd, if_pos h]
      rw [e]
      refine ⟨by simp; omega, fun i hi => ?_, fun g => ?_⟩
      · match i with
        | 0 => rw [dy_zero]; exact h
        | i + 1 => rw [dy_cons]; exact b i (by omega)
      · rw [dy_cons]; exact c (by simpa using g)
    · have e : fnd (x :: r) d = 0 := by rw [fnd, if_neg h]
      rw [e]
      exact ⟨Nat.zero_le _, fun i hi => by omega, fun _ => by rw [dy_zero]; omega⟩
theorem fnd_le (l : List Lp) (d : Int) : fnd l d ≤ l.length := (fnd_spec l d).1
theorem fnd_is {l : List Lp} {d : Int} {k : Nat} (h1 : k ≤ l.length) (h2 : ∀ i, i < k → dy l i < d) (h3 : k < l.length → d ≤ dy l k) : fnd l d = k := by
  obtain ⟨a, b, c⟩ := fnd_spec l d
  rcases Nat.lt_trichotomy (fnd l d) k with h | h | h
  · have := h2 _ h; have := c (by omega); omega
  · exact h
  · have := b _ h; have := h3 (by omega); omega
theorem Good.found {l : List Lp} (h : Good l) (d : Int) {i : Nat} (hi : i < l.length) : d ≤ dy l i ↔ fnd l d ≤ i := by
  obtain ⟨a, b, c⟩ := fnd_spec l d
  constructor
  · intro g
    rcases Nat.lt_or_ge i (fnd l d) with k | k
    · have := b i k; omega
    · exact k
  · intro g
    rcases Nat.eq_or_lt_of_le g with e | e
    · rw [← e]; exact c (by omega)
    · have := h.lt hi _ e; have := c (by omega); omega

/-! totals and steps -/
def tot (l : List Lp) : Nat → Int
  | 0 => 0
  | k + 1 => tot l k + st l k
theorem tot_bd {l : List Lp} (h : Good l) : ∀ k, k ≤ l.length → -(k : Int) ≤ tot l k ∧ tot l k ≤ k
  | 0, _ => ⟨by simp [tot], by simp [tot]⟩
  | k + 1, hk => by
    have := tot_bd h k (by omega)
    have s := h.step (i := k) (by omega)
    rw [tot]
    omega
def stp (l : List Lp) (d : Int) : Int := if fnd l d < l.length ∧ dy l (fnd l d) = d then st l (fnd l d) else 0
theorem stp_bd {l : List Lp} (h : Good l) (d : Int) : -1 ≤ stp l d ∧ stp l d ≤ 1 := by
  unfold stp
  split
  · rename_i g; have := h.step g.1; omega
  · omega
theorem stp_at {l : List Lp} (h : Good l) {i : Nat} (hi : i < l.length) : fnd l (dy l i) = i ∧ stp l (dy l i) = st l i := by
  have e : fnd l (dy l i) = i := fnd_is (Nat.le_of_lt hi) (fun j hj => h.lt hi j hj) (fun _ => Int.le_refl _)
  exact ⟨e, by unfold stp; rw [e, if_pos ⟨hi, rfl⟩]⟩
theorem stp_none {l : List Lp} {d : Int} (h : ∀ i, i < l.length → dy l i ≠ d) : stp l d = 0 := by
  unfold stp
  split
  · rename_i g; exact absurd g.2 (h _ g.1)
  · rfl
/-- the next day's. -/
theorem next_fnd {l : List Lp} (h : Good l) (d : Int) : (fnd l d < l.length ∧ dy l (fnd l d) = d ∧ fnd l (d + 1) = fnd l d + 1) ∨ (¬ (fnd l d < l.length ∧ dy l (fnd l d) = d) ∧ fnd l (d + 1) = fnd l d) := by
  obtain ⟨a, b, c⟩ := fnd_spec l d
  by_cases hc : fnd l d < l.length ∧ dy l (fnd l d) = d
  · refine Or.inl ⟨hc.1, hc.2, fnd_is (by omega) (fun i hi => ?_) (fun g => ?_)⟩
    · rcases Nat.eq_or_lt_of_le (Nat.le_of_lt_succ hi) with rfl | k
      · omega
      · have := b i k; omega
    · have := h.lt g (fnd l d) (by omega); omega
  · refine Or.inr ⟨hc, fnd_is a (fun i hi => by have := b i hi; omega) (fun g => ?_)⟩
    have := c g
    rcases Int.lt_or_eq_of_le this with k | k
    · omega
    · exact absurd ⟨g, k.symm⟩ hc
theorem next_tot {l : List Lp} (h : Good l) (d : Int) : tot l (fnd l (d + 1)) = tot l (fnd l d) + stp l d ∧ fnd l d ≤ fnd l (d + 1) := by
  rcases next_fnd h d with ⟨a, b, c⟩ | ⟨a, c⟩
  · rw [c]; exact ⟨by rw [tot, stp, if_pos ⟨a, b⟩], by omega⟩
  · rw [c]; exact ⟨by rw [stp, if_neg a]; omega, by omega⟩
theorem fnd_first {l : List Lp} {d : Int} (h : l.length = 0 ∨ d ≤ dy l 0) : fnd l d = 0 :=
  fnd_is (Nat.zero_le _) (fun i hi => by omega) (fun g => by rcases h with h | h; omega; exact h)
end Go.Proofs.YtldieebiicblbaaGreatDoor.lm
