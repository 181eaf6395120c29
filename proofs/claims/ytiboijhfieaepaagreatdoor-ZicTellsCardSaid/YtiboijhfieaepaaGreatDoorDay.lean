/-
  What day's Leap, Last and daysAhead answer, where the two tables of package day hold what their initialisers lay. Conditions: those tables; the arguments are numbers of 64 bits.
-/
import Derived.Test.YtiboijhfieaepaaGreatDoorDayMath
import Derived.WalkKit
import Derived.ProofKit
import Derived.OpenShut
import Derived.IntWalk
import Derived.Deep.QuietTactic
import Derived.BigQuiet
import Derived.Below
import Derived.Deep.MidRow
import Derived.Lib.Hide
namespace Go.Proofs.YtiboijhfieaepaaGreatDoor.day
open Go.ChangeShapes Go.WideShapes Go.ChangeAt Go.RowKit
open cal
set_option linter.unusedVariables false
set_option maxRecDepth 100000

def lens : List Int := [31, 28, 31, 30, 31, 30, 31, 31, 30, 31, 30, 31]
def spanCells : List Value := [.int .i64 400, .int .i64 146097, .int .i64 24, .int .i64 100, .int .i64 36524, .int .i64 3, .int .i64 4, .int .i64 1461, .int .i64 24, .int .i64 1, .int .i64 365, .int .i64 3]
/-- the two tables, as they are laid. -/
def Tabs (w : World) : Prop := (∀ i : Nat, i < 12 → w.cell? ⟨2, i, none⟩ = some (.int .i64 (lens.getD i 0))) ∧ w.rangeAt 1 0 spanCells

theorem lens_at (m : Int) (h1 : 1 ≤ m) (h2 : m ≤ 12) : lens.getD (m - 1).toNat 0 = len m := by
  rcases twelve h1 h2 with rfl | rfl | rfl | rfl | rfl | rfl | rfl | rfl | rfl | rfl | rfl | rfl <;> rfl
theorem Tabs.len {w : World} (T : Tabs w) (m : Int) (h1 : 1 ≤ m) (h2 : m ≤ 12) : w.cell? ⟨2, (m - 1).toNat, none⟩ = some (.int .i64 (len m)) := by
  rw [T.1 _ (by omega), lens_at m h1 h2]
theorem ret_bool {b : Bool} (h : b = true) : Ending.returned (.bool b) = .returned (.bool true) := by rw [h]
theorem ret_b {a b : Bool} (h : a = b) : Ending.returned (.bool a) = .returned (.bool b) := by rw [h]
theorem ret_i {a b : Int} (h : a = b) : Ending.returned (.int .i64 a) = .returned (.int .i64 b) := by rw [h]

theorem below_size {w w' : World} {n b o : Nat} {v : Value} (h : w.cell? ⟨b, o, none⟩ = some v) : b < w.heap.size := by
  rcases Nat.lt_or_ge b w.heap.size with hl | hl
  · exact hl
  · exfalso
    simp [World.cell?, Array.getElem?_eq_none hl] at h
theorem Tabs.below {w w' : World} (T : Tabs w) (hb : Below w.heap.size w w') : Tabs w' := by
  have z0 : 2 < w.heap.size := below_size (w' := w) (n := 0) (T.1 0 (by omega))
  have z1 : 1 < w.heap.size := below_size (w' := w) (n := 0) (T.2 0 _ rfl)
  exact ⟨fun i hi => by rw [hb.cell (p := ⟨_, i, none⟩) z0]; exact T.1 i hi, fun j v hv => by rw [hb.cell (p := ⟨_, 0 + j, none⟩) z1]; exact T.2 j v hv⟩

/-! Leap -/
theorem tmod_zero (y k : Int) (hk : 0 < k) : y.tmod k = 0 ↔ y % k = 0 := by
  rw [← Int.dvd_iff_tmod_eq_zero, ← Int.dvd_iff_emod_eq_zero]
theorem leap_any (y : Int) (w : World) :
    Calls Tryz.prog 96 #[.int .i64 y] w fun e w' => e = .returned (.bool (leapB y)) ∧ w = w' := by
  have p4 := tmod_zero y 4 (by omega)
  have p100 := tmod_zero y 100 (by omega)
  have p400 := tmod_zero y 400 (by omega)
  by_cases h4 : y % 4 = 0
  · have a4 : (y.tmod 4 == 0) = true := by simpa using p4.2 h4
    by_cases h100 : y % 100 = 0
    · have a100 : (y.tmod 100 != 0) = false := by simpa using p100.2 h100
      by_cases h400 : y % 400 = 0
      · have a400 : (y.tmod 400 == 0) = true := by simpa using p400.2 h400
        have E : Hid (leapB y = true) := (leapB_iff y).2 (Or.inr h400)
        clear p4 p100 p400 h4 h100 h400
        go_enter Tryz.func96, Tryz.ntmps96
        go_wp2
        go_ret
        exact ⟨ret_b (E.out).symm, rfl⟩
      · have a400 : (y.tmod 400 == 0) = false := by simpa using fun h => h400 (p400.1 h)
        have E : Hid (leapB y = false) := (leapB_not y).2 (by omega)
        clear p4 p100 p400 h4 h100 h400
        go_enter Tryz.func96, Tryz.ntmps96
        go_wp2
        go_ret
        exact ⟨ret_b (E.out).symm, rfl⟩
    · have a100 : (y.tmod 100 != 0) = true := by simpa using fun h => h100 (p100.1 h)
      have E : Hid (leapB y = true) := (leapB_iff y).2 (Or.inl ⟨h4, h100⟩)
      clear p4 p100 p400 h4 h100
      go_enter Tryz.func96, Tryz.ntmps96
      go_wp2
      go_ret
      exact ⟨ret_b (E.out).symm, rfl⟩
  · have a4 : (y.tmod 4 == 0) = false := by simpa using fun h => h4 (p4.1 h)
    have a400 : (y.tmod 400 == 0) = false := by simpa using fun h => h4 (by have := p400.1 h; omega)
    have E : Hid (leapB y = false) := (leapB_not y).2 (by omega)
    clear p4 p100 p400 h4
    go_enter Tryz.func96, Tryz.ntmps96
    go_wp2
    go_ret
    exact ⟨ret_b (E.out).symm, rfl⟩

/-! Last -/
theorem last_no (y m : Int) (w : World) (h : y < 1 ∨ 9999 < y ∨ m < 1 ∨ 12 < m) :
    Calls Tryz.prog 79 #[.int .i64 y, .int .i64 m] w fun e w' => e = .returned (.tuple #[.int .i64 0, .bool false]) ∧ w = w' := by
  by_cases h1 : y < 1
  · clear h
    go_enter Tryz.func79, Tryz.ntmps79
    go_wp2
    go_ret2
    exact ⟨rfl, rfl⟩
  by_cases h2 : 9999 < y
  · clear h
    go_enter Tryz.func79, Tryz.ntmps79
    go_wp2
    go_ret2
    exact ⟨rfl, rfl⟩
  by_cases h3 : m < 1
  · clear h
    go_enter Tryz.func79, Tryz.ntmps79
    go_wp2
    go_ret2
    exact ⟨rfl, rfl⟩
  have h4 : 12 < m := by omega
  clear h
  go_enter Tryz.func79, Tryz.ntmps79
  go_wp2
  go_ret2
  exact ⟨rfl, rfl⟩
theorem last_yes (y m : Int) (w : World) (T : Tabs w) (h1 : 1 ≤ y) (h2 : y ≤ 9999) (h3 : 1 ≤ m) (h4 : m ≤ 12) :
    Calls Tryz.prog 79 #[.int .i64 y, .int .i64 m] w fun e w' => e = .returned (.tuple #[.int .i64 (dim y m), .bool true]) ∧ w = w' := by
  have hc := T.len m h3 h4
  have hl := len_bd m
  by_cases hm : m = 2
  · subst hm
    have C := Lib.hid (fun W => leap_any y W)
    have e : len 2 = 28 := rfl
    rw [e, show ((2 : Int) - 1).toNat = 1 from rfl] at hc
    clear hl e
    cases hl : leapB y
    · rw [hl] at C
      have E := dim_feb y
      rw [lp_no hl] at E
      rw [E]
      clear hl T E
      go_enter Tryz.func79, Tryz.ntmps79
      go_wp2_with (first
        | (go_at_call 96; (with_reducible refine (C.out _).mono ?_; rintro e w' ⟨rfl, rfl⟩)))
      go_ret2
      exact ⟨rfl, rfl⟩
    · rw [hl] at C
      have E := dim_feb y
      rw [lp_yes hl] at E
      rw [E]
      clear hl T E
      go_enter Tryz.func79, Tryz.ntmps79
      go_wp2_with (first
        | (go_at_call 96; (with_reducible refine (C.out _).mono ?_; rintro e w' ⟨rfl, rfl⟩)))
      go_ret2
      exact ⟨rfl, rfl⟩
  · have e2 : (m == 2) = false := by simpa using hm
    rw [dim_other hm]
    generalize len m = L at *
    rw [show (m - 1).toNat = m.toNat - 1 by omega] at hc
    clear hm T
    go_enter Tryz.func79, Tryz.ntmps79
    go_wp2
    go_ret2
    exact ⟨rfl, rfl⟩

/-! daysAhead -/
theorem ahead (y : Int) (w : World) (h1 : 1 ≤ y) (h2 : y ≤ 100000) :
    Calls Tryz.prog 91 #[.int .i64 y] w fun e w' => e = .returned (.int .i64 (dby y)) ∧ w = w' := by
  have E : Hid (dby y = (y - 1) * 365 + (y - 1) / 4 - (y - 1) / 100 + (y - 1) / 400) := by show dby y = _; unfold dby; omega
  go_enter Tryz.func91, Tryz.ntmps91
  go_wp2
  go_ret
  exact ⟨ret_i (by rw [E.out]), rfl⟩
end Go.Proofs.YtiboijhfieaepaaGreatDoor.day
