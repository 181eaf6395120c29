/-
  What day's yearOf answers, where the two tables of package day hold what their initialisers lay: the year of a day by how many days it is behind the first one of the year 1, and its place in that year. Conditions: those tables; from 0 to 3652058 days.
-/
import Derived.Test.YtiboijhfieaepaaGreatDoorDay
import Derived.WalkSmall
namespace Go.Proofs.YtiboijhfieaepaaGreatDoor.day
open Go.ChangeShapes Go.WideShapes Go.ChangeAt Go.RowKit
open cal
set_option linter.unusedVariables false
set_option maxRecDepth 100000

/-- how many spans of each kind, and the days that are left. -/
def cnt (x s most : Int) : Int := min (x / s) most
def x1 (D : Int) : Int := D - cnt D 146097 24 * 146097
def x2 (D : Int) : Int := x1 D - cnt (x1 D) 36524 3 * 36524
def x3 (D : Int) : Int := x2 D - cnt (x2 D) 1461 24 * 1461
def x4 (D : Int) : Int := x3 D - cnt (x3 D) 365 3 * 365
def y1 (D : Int) : Int := 1 + cnt D 146097 24 * 400
def y2 (D : Int) : Int := y1 D + cnt (x1 D) 36524 3 * 100
def y3 (D : Int) : Int := y2 D + cnt (x2 D) 1461 24 * 4
def y4 (D : Int) : Int := y3 D + cnt (x3 D) 365 3
def leftD (D : Int) (k : Int) : Int := if k = 0 then D else if k = 1 then x1 D else if k = 2 then x2 D else if k = 3 then x3 D else x4 D
def yearD (D : Int) (k : Int) : Int := if k = 0 then 1 else if k = 1 then y1 D else if k = 2 then y2 D else if k = 3 then y3 D else y4 D
theorem year_at (D : Int) (h0 : 0 ≤ D) (h1 : D ≤ 3652058) :
    1 ≤ y4 D ∧ y4 D ≤ 9999 ∧ 0 ≤ x4 D ∧ x4 D < 365 + lp (y4 D) ∧ dby (y4 D) + x4 D = D :=
  year_of D (cnt D 146097 24) (cnt (x1 D) 36524 3) (cnt (x2 D) 1461 24) (cnt (x3 D) 365 3) (x1 D) (x2 D) (x3 D) (x4 D) h0 h1 rfl rfl rfl rfl rfl rfl rfl rfl
theorem left_bd (D : Int) (h0 : 0 ≤ D) (h1 : D ≤ 3652058) :
    (0 ≤ x1 D ∧ x1 D ≤ 146096) ∧ (0 ≤ x2 D ∧ x2 D ≤ 36524) ∧ (0 ≤ x3 D ∧ x3 D ≤ 1460) ∧ (1 ≤ y1 D ∧ y1 D ≤ 9999) ∧ (1 ≤ y2 D ∧ y2 D ≤ 9999) ∧ (1 ≤ y3 D ∧ y3 D ≤ 9999) := by
  have e1 : x1 D = D - cnt D 146097 24 * 146097 := rfl
  have e2 : x2 D = x1 D - cnt (x1 D) 36524 3 * 36524 := rfl
  have e3 : x3 D = x2 D - cnt (x2 D) 1461 24 * 1461 := rfl
  have f1 : y1 D = 1 + cnt D 146097 24 * 400 := rfl
  have f2 : y2 D = y1 D + cnt (x1 D) 36524 3 * 100 := rfl
  have f3 : y3 D = y2 D + cnt (x2 D) 1461 24 * 4 := rfl
  unfold cnt at *
  have b1 : 0 ≤ x1 D ∧ x1 D ≤ 146096 := by omega
  have b2 : 0 ≤ x2 D ∧ x2 D ≤ 36524 := by omega
  have b3 : 0 ≤ x3 D ∧ x3 D ≤ 1460 := by omega
  exact ⟨b1, b2, b3, by omega, by omega, by omega⟩

theorem Tabs.spans {w : World} (T : Tabs w) : w.cell? ⟨1, 0, none⟩ = some (.int .i64 400) ∧ w.cell? ⟨1, 1, none⟩ = some (.int .i64 146097) ∧ w.cell? ⟨1, 2, none⟩ = some (.int .i64 24) ∧
    w.cell? ⟨1, 3, none⟩ = some (.int .i64 100) ∧ w.cell? ⟨1, 4, none⟩ = some (.int .i64 36524) ∧ w.cell? ⟨1, 5, none⟩ = some (.int .i64 3) ∧
    w.cell? ⟨1, 6, none⟩ = some (.int .i64 4) ∧ w.cell? ⟨1, 7, none⟩ = some (.int .i64 1461) ∧ w.cell? ⟨1, 8, none⟩ = some (.int .i64 24) ∧
    w.cell? ⟨1, 9, none⟩ = some (.int .i64 1) ∧ w.cell? ⟨1, 10, none⟩ = some (.int .i64 365) ∧ w.cell? ⟨1, 11, none⟩ = some (.int .i64 3) :=
  ⟨T.2 0 _ rfl, T.2 1 _ rfl, T.2 2 _ rfl, T.2 3 _ rfl, T.2 4 _ rfl, T.2 5 _ rfl, T.2 6 _ rfl, T.2 7 _ rfl, T.2 8 _ rfl, T.2 9 _ rfl, T.2 10 _ rfl, T.2 11 _ rfl⟩

theorem run_span (w : World) (k : Int) (a b c : Int) (h : k = 0 ∧ a = 400 ∧ b = 146097 ∧ c = 24 ∨ k = 1 ∧ a = 100 ∧ b = 36524 ∧ c = 3 ∨ k = 2 ∧ a = 4 ∧ b = 1461 ∧ c = 24 ∨ k = 3 ∧ a = 1 ∧ b = 365 ∧ c = 3) :
    (Instr.index 108 (.agg #[.int .i64 400, .int .i64 146097, .int .i64 24, .int .i64 100, .int .i64 36524, .int .i64 3, .int .i64 4, .int .i64 1461, .int .i64 24, .int .i64 1, .int .i64 365, .int .i64 3]) (.int .i64 k)).run Tryz.prog w = .ok (.agg #[.int .i64 a, .int .i64 b, .int .i64 c]) w := by
  rcases h with ⟨rfl, rfl, rfl, rfl⟩ | ⟨rfl, rfl, rfl, rfl⟩ | ⟨rfl, rfl, rfl, rfl⟩ | ⟨rfl, rfl, rfl, rfl⟩ <;> kernel_rfl

set_option maxHeartbeats 1000000 in
theorem yearOf_yes (D : Int) (w : World) (T : Tabs w) (h0 : 0 ≤ D) (h1 : D ≤ 3652058) :
    Calls Tryz.prog 78 #[.int .i64 D] w fun e w' => e = .returned (.tuple #[.int .i64 (y4 D), .int .i64 (x4 D)]) ∧ Below w.heap.size w w' := by
  obtain ⟨c0, c1, c2, c3, c4, c5, c6, c7, c8, c9, c10, c11⟩ := T.spans
  have hbd := Lib.hid (left_bd D h0 h1)
  clear T
  go_enter Tryz.func78, Tryz.ntmps78
  go_wp2
  clear c0 c1 c2 c3 c4 c5 c6 c7 c8 c9 c10 c11
  go_loopw [0, 4, 9] (fun x y i W => ∃ k : Int, (k = 0 ∨ k = 1 ∨ k = 2 ∨ k = 3 ∨ k = 4) ∧ i = .int .i64 k ∧ x = .int .i64 (leftD D k) ∧ y = .int .i64 (yearD D k) ∧ Below w.heap.size w W) (fun _ _ i _ => (4 - intOf i).toNat)
  case atStart => exact ⟨0, Or.inl rfl, rfl, rfl, rfl, Below.refl _ _⟩
  case round =>
    obtain ⟨k, hk, rfl, rfl, rfl, hb⟩ := hrel
    rcases hk with rfl | rfl | rfl | rfl | rfl
    · have hi := run_span wr 0 400 146097 24 (by omega)
      have e1 : leftD D 0 = D := rfl
      have e2 : yearD D 0 = 1 := rfl
      have HX : Hid (x1 D = D - cnt (D) 146097 24 * 146097) := rfl
      have HY : Hid (y1 D = 1 + cnt (D) 146097 24 * 400) := by first | rfl | exact (show _ = _ by unfold y4; omega)
      rw [e1, e2]
      clear e1 e2
      go_wp2
      clear hi
      go_quiet (fail)
      go_wp2
      refine ⟨⟨1, by omega, rfl, ?_, ?_, below_drewN (hb.alloc hb.size _) _⟩, by simp [intOf]⟩
      · show Value.int .i64 _ = Value.int .i64 (x1 D)
        rw [HX.out]; unfold cnt; congr 1; omega
      · show Value.int .i64 _ = Value.int .i64 (y1 D)
        rw [HY.out]; unfold cnt; congr 1; omega
    · have hi := run_span wr 1 100 36524 3 (by omega)
      have e1 : leftD D 1 = x1 D := rfl
      have e2 : yearD D 1 = y1 D := rfl
      have HX : Hid (x2 D = x1 D - cnt (x1 D) 36524 3 * 36524) := rfl
      have HY : Hid (y2 D = y1 D + cnt (x1 D) 36524 3 * 100) := by first | rfl | exact (show _ = _ by unfold y4; omega)
      rw [e1, e2]
      clear e1 e2
      have bx := hbd.out.1
      have by' := hbd.out.2.2.2.1
      obtain ⟨bx1, bx2⟩ := bx
      obtain ⟨by1, by2⟩ := by'
      generalize x1 D = X at *
      generalize y1 D = Y at *
      by_cases hq : X / 36524 ≤ 3
      · skip
        go_wp2
        clear hi
        go_quiet (fail)
        go_wp2
        refine ⟨⟨2, by omega, rfl, ?_, ?_, below_drewN (hb.alloc hb.size _) _⟩, by simp [intOf]⟩
        · show Value.int .i64 _ = Value.int .i64 (x2 D)
          rw [HX.out]; unfold cnt; congr 1; omega
        · show Value.int .i64 _ = Value.int .i64 (y2 D)
          rw [HY.out]; unfold cnt; congr 1; omega
      · have hq' : 3 < X / 36524 := by omega
        clear hq
        go_wp2
        clear hi
        go_quiet (fail)
        go_wp2
        refine ⟨⟨2, by omega, rfl, ?_, ?_, below_drewN (hb.alloc hb.size _) _⟩, by simp [intOf]⟩
        · show Value.int .i64 _ = Value.int .i64 (x2 D)
          rw [HX.out]; unfold cnt; congr 1; omega
        · show Value.int .i64 _ = Value.int .i64 (y2 D)
          rw [HY.out]; unfold cnt; congr 1; omega
    · have hi := run_span wr 2 4 1461 24 (by omega)
      have e1 : leftD D 2 = x2 D := rfl
      have e2 : yearD D 2 = y2 D := rfl
      have HX : Hid (x3 D = x2 D - cnt (x2 D) 1461 24 * 1461) := rfl
      have HY : Hid (y3 D = y2 D + cnt (x2 D) 1461 24 * 4) := by first | rfl | exact (show _ = _ by unfold y4; omega)
      rw [e1, e2]
      clear e1 e2
      have bx := hbd.out.2.1
      have by' := hbd.out.2.2.2.2.1
      obtain ⟨bx1, bx2⟩ := bx
      obtain ⟨by1, by2⟩ := by'
      generalize x2 D = X at *
      generalize y2 D = Y at *
      by_cases hq : X / 1461 ≤ 24
      · skip
        go_wp2
        clear hi
        go_quiet (fail)
        go_wp2
        refine ⟨⟨3, by omega, rfl, ?_, ?_, below_drewN (hb.alloc hb.size _) _⟩, by simp [intOf]⟩
        · show Value.int .i64 _ = Value.int .i64 (x3 D)
          rw [HX.out]; unfold cnt; congr 1; omega
        · show Value.int .i64 _ = Value.int .i64 (y3 D)
          rw [HY.out]; unfold cnt; congr 1; omega
      · exfalso; omega
    · have hi := run_span wr 3 1 365 3 (by omega)
      have e1 : leftD D 3 = x3 D := rfl
      have e2 : yearD D 3 = y3 D := rfl
      have HX : Hid (x4 D = x3 D - cnt (x3 D) 365 3 * 365) := rfl
      have HY : Hid (y4 D = y3 D + cnt (x3 D) 365 3 * 1) := by first | rfl | exact (show _ = _ by unfold y4; omega)
      rw [e1, e2]
      clear e1 e2
      have bx := hbd.out.2.2.1
      have by' := hbd.out.2.2.2.2.2
      obtain ⟨bx1, bx2⟩ := bx
      obtain ⟨by1, by2⟩ := by'
      generalize x3 D = X at *
      generalize y3 D = Y at *
      by_cases hq : X / 365 ≤ 3
      · skip
        go_wp2
        clear hi
        go_quiet (fail)
        go_wp2
        refine ⟨⟨4, by omega, rfl, ?_, ?_, below_drewN (hb.alloc hb.size _) _⟩, by simp [intOf]⟩
        · show Value.int .i64 _ = Value.int .i64 (x4 D)
          rw [HX.out]; unfold cnt; congr 1; omega
        · show Value.int .i64 _ = Value.int .i64 (y4 D)
          rw [HY.out]; unfold cnt; congr 1; omega
      · have hq' : 3 < X / 365 := by omega
        clear hq
        go_wp2
        clear hi
        go_quiet (fail)
        go_wp2
        refine ⟨⟨4, by omega, rfl, ?_, ?_, below_drewN (hb.alloc hb.size _) _⟩, by simp [intOf]⟩
        · show Value.int .i64 _ = Value.int .i64 (x4 D)
          rw [HX.out]; unfold cnt; congr 1; omega
        · show Value.int .i64 _ = Value.int .i64 (y4 D)
          rw [HY.out]; unfold cnt; congr 1; omega
    · have e1 : leftD D 4 = x4 D := rfl
      have e2 : yearD D 4 = y4 D := rfl
      rw [e1, e2]
      clear e1 e2
      go_wp2
      go_ret2
      exact ⟨rfl, hb⟩
end Go.Proofs.YtiboijhfieaepaaGreatDoor.day
