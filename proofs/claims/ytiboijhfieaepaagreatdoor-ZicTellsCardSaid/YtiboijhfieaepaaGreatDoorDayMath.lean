/-
  Plain mathematics of the calendar: leap years, days of months and years, the number of a date, and that numbers and dates are each other's. Nothing of any program. Conditions: years from 1 to 9999 where said.
-/
import Derived.Test.YtiboijhfieaepaaGreatDoorRows
namespace Go.Proofs.YtiboijhfieaepaaGreatDoor.cal
set_option linter.unusedVariables false
set_option maxRecDepth 100000

def leapB (y : Int) : Bool := decide (y % 4 = 0 ∧ y % 100 ≠ 0 ∨ y % 400 = 0)
def lp (y : Int) : Int := if leapB y = true then 1 else 0
def len (m : Int) : Int := if m = 2 then 28 else if m = 4 ∨ m = 6 ∨ m = 9 ∨ m = 11 then 30 else 31
def dim (y m : Int) : Int := if m = 2 then 28 + lp y else len m
def cum0 (m : Int) : Int := if m ≤ 1 then 0 else if m = 2 then 31 else if m = 3 then 59 else if m = 4 then 90 else if m = 5 then 120 else if m = 6 then 151 else if m = 7 then 181 else if m = 8 then 212 else if m = 9 then 243 else if m = 10 then 273 else if m = 11 then 304 else if m = 12 then 334 else 365
def cum (y m : Int) : Int := cum0 m + if 3 ≤ m then lp y else 0
def dby (y : Int) : Int := 365 * (y - 1) + (y - 1) / 4 - (y - 1) / 100 + (y - 1) / 400
def num (y m d : Int) : Int := -719162 + dby y + cum y m + d - 1
def Vld (y m d : Int) : Prop := 1 ≤ y ∧ y ≤ 9999 ∧ 1 ≤ m ∧ m ≤ 12 ∧ 1 ≤ d ∧ d ≤ dim y m

instance (y m d : Int) : Decidable (Vld y m d) := by unfold Vld; infer_instance

theorem lp_01 (y : Int) : 0 ≤ lp y ∧ lp y ≤ 1 := by unfold lp; split <;> omega
theorem lp_yes {y : Int} (h : leapB y = true) : lp y = 1 := by unfold lp; rw [if_pos h]
theorem lp_no {y : Int} (h : leapB y = false) : lp y = 0 := by unfold lp; rw [if_neg (by simp [h])]
theorem leapB_iff (y : Int) : leapB y = true ↔ (y % 4 = 0 ∧ y % 100 ≠ 0 ∨ y % 400 = 0) := by unfold leapB; exact decide_eq_true_iff
theorem leapB_not (y : Int) : leapB y = false ↔ ¬ (y % 4 = 0 ∧ y % 100 ≠ 0 ∨ y % 400 = 0) := by unfold leapB; exact decide_eq_false_iff_not
theorem leapB_400 (y : Int) : leapB (y + 400) = leapB y := by
  rw [Bool.eq_iff_iff, leapB_iff, leapB_iff]; omega

theorem twelve {m : Int} (h1 : 1 ≤ m) (h2 : m ≤ 12) : m = 1 ∨ m = 2 ∨ m = 3 ∨ m = 4 ∨ m = 5 ∨ m = 6 ∨ m = 7 ∨ m = 8 ∨ m = 9 ∨ m = 10 ∨ m = 11 ∨ m = 12 := by omega
theorem dim_bd (y m : Int) : 28 ≤ dim y m ∧ dim y m ≤ 31 := by
  have := lp_01 y
  unfold dim len; repeat' split
  all_goals omega
theorem len_bd (m : Int) : 28 ≤ len m ∧ len m ≤ 31 := by
  unfold len; repeat' split
  all_goals omega
theorem dim_feb (y : Int) : dim y 2 = 28 + lp y := by unfold dim; rw [if_pos rfl]
theorem dim_other {y m : Int} (h : m ≠ 2) : dim y m = len m := by unfold dim; rw [if_neg h]
theorem dim_dec (y : Int) : dim y 12 = 31 := rfl
theorem cum_succ (y m : Int) (h1 : 1 ≤ m) (h2 : m ≤ 12) : cum y (m + 1) = cum y m + dim y m := by
  rcases twelve h1 h2 with rfl | rfl | rfl | rfl | rfl | rfl | rfl | rfl | rfl | rfl | rfl | rfl <;> simp [cum, cum0, dim, len] <;> omega
theorem cum_one (y : Int) : cum y 1 = 0 := by simp [cum, cum0]
theorem cum_dec (y : Int) : cum y 12 = 334 + lp y := by simp [cum, cum0]
theorem cum_end (y : Int) : cum y 13 = 365 + lp y := by simp [cum, cum0]
theorem cum_bd (y m : Int) (h1 : 1 ≤ m) (h2 : m ≤ 12) : 0 ≤ cum y m ∧ cum y m ≤ 334 + lp y := by
  have := lp_01 y
  rcases twelve h1 h2 with rfl | rfl | rfl | rfl | rfl | rfl | rfl | rfl | rfl | rfl | rfl | rfl <;> simp [cum, cum0] <;> omega
theorem cum_last (y m : Int) (h1 : 1 ≤ m) (h2 : m ≤ 12) : cum y m + dim y m ≤ 365 + lp y := by
  have := lp_01 y
  rcases twelve h1 h2 with rfl | rfl | rfl | rfl | rfl | rfl | rfl | rfl | rfl | rfl | rfl | rfl <;> simp [cum, cum0, dim, len] <;> omega
theorem cum_lt (y m k : Int) (h1 : 1 ≤ m) (h2 : m < k) (h3 : k ≤ 12) : cum y m + dim y m ≤ cum y k := by
  obtain ⟨n, rfl⟩ : ∃ n : Nat, k = m + 1 + n := ⟨(k - m - 1).toNat, by omega⟩
  induction n with
  | zero => rw [← cum_succ y m h1 (by omega)]; simp
  | succ n ih =>
    have := ih (by omega) (by omega)
    have h := cum_succ y (m + 1 + n) (by omega) (by omega)
    have hd := dim_bd y (m + 1 + n)
    rw [show m + 1 + ((n + 1 : Nat) : Int) = m + 1 + n + 1 by omega, h]
    omega

theorem dby_one : dby 1 = 0 := by decide
theorem dby_top : dby 10000 = 3652059 := by decide
theorem dby_succ (y : Int) (h : 1 ≤ y) : dby (y + 1) = dby y + 365 + lp y := by
  cases hl : leapB y
  · rw [lp_no hl]
    rw [leapB_not] at hl
    unfold dby
    omega
  · rw [lp_yes hl]
    rw [leapB_iff] at hl
    unfold dby
    omega
theorem dby_mono (a b : Int) (h0 : 1 ≤ a) (h : a ≤ b) : dby a ≤ dby b := by unfold dby; omega
theorem dby_lt (a b : Int) (h0 : 1 ≤ a) (h : a < b) : dby a + 365 + lp a ≤ dby b := by
  rw [← dby_succ a h0]; exact dby_mono _ _ (by omega) (by omega)
theorem dby_bd (y : Int) (h0 : 1 ≤ y) (h : y ≤ 10000) : 0 ≤ dby y ∧ dby y ≤ 3652059 := by
  have h1 := dby_mono 1 y (by omega) h0
  have h2 := dby_mono y 10000 h0 h
  rw [dby_one] at h1; rw [dby_top] at h2
  exact ⟨h1, h2⟩
theorem dby_400 (y : Int) : dby (y + 400) = dby y + 146097 := by unfold dby; omega

/-! the year of a day: four spans -/
theorem dby_parts (a b c d : Int) (b0 : 0 ≤ b) (b1 : b ≤ 3) (c0 : 0 ≤ c) (c1 : c ≤ 24) (d0 : 0 ≤ d) (d1 : d ≤ 3) :
    dby (1 + a * 400 + b * 100 + c * 4 + d) = 146097 * a + 36524 * b + 1461 * c + 365 * d := by
  unfold dby
  have e : 1 + a * 400 + b * 100 + c * 4 + d - 1 = a * 400 + b * 100 + c * 4 + d := by omega
  rw [e]
  have q1 : (a * 400 + b * 100 + c * 4 + d) / 4 = 100 * a + 25 * b + c := by omega
  have q2 : (a * 400 + b * 100 + c * 4 + d) / 100 = 4 * a + b := by omega
  have q3 : (a * 400 + b * 100 + c * 4 + d) / 400 = a := by omega
  rw [q1, q2, q3]; omega
theorem year_of (D a b c d x1 x2 x3 x4 : Int) (h0 : 0 ≤ D) (h1 : D ≤ 3652058)
    (ha : a = min (D / 146097) 24) (e1 : x1 = D - a * 146097) (hb : b = min (x1 / 36524) 3) (e2 : x2 = x1 - b * 36524)
    (hc : c = min (x2 / 1461) 24) (e3 : x3 = x2 - c * 1461) (hd : d = min (x3 / 365) 3) (e4 : x4 = x3 - d * 365) :
    1 ≤ 1 + a * 400 + b * 100 + c * 4 + d ∧ 1 + a * 400 + b * 100 + c * 4 + d ≤ 9999 ∧ 0 ≤ x4 ∧ x4 < 365 + lp (1 + a * 400 + b * 100 + c * 4 + d) ∧ dby (1 + a * 400 + b * 100 + c * 4 + d) + x4 = D := by
  have a0 : 0 ≤ a := by omega
  have a1 : a ≤ 24 := by omega
  have b0 : 0 ≤ b := by omega
  have b1 : b ≤ 3 := by omega
  have c0 : 0 ≤ c := by omega
  have c1 : c ≤ 24 := by omega
  have d0 : 0 ≤ d := by omega
  have d1 : d ≤ 3 := by omega
  have x10 : 0 ≤ x1 ∧ x1 ≤ 146096 := by omega
  have x20 : 0 ≤ x2 ∧ x2 ≤ 36524 ∧ (b < 3 → x2 ≤ 36523) := by omega
  have x30 : 0 ≤ x3 ∧ x3 ≤ 1460 ∧ (c = 24 → b < 3 → x3 ≤ 1459) := by omega
  have x40 : 0 ≤ x4 ∧ x4 ≤ 365 ∧ (d < 3 → x4 ≤ 364) ∧ (c = 24 → b < 3 → x4 ≤ 364) := by omega
  have hy : dby (1 + a * 400 + b * 100 + c * 4 + d) = 146097 * a + 36524 * b + 1461 * c + 365 * d := dby_parts a b c d b0 b1 c0 c1 d0 d1
  refine ⟨by omega, by omega, x40.1, ?_, by rw [hy]; omega⟩
  cases hl : leapB (1 + a * 400 + b * 100 + c * 4 + d)
  · rw [lp_no hl]
    rw [leapB_not] at hl
    omega
  · rw [lp_yes hl]; omega

/-! numbers and dates -/
theorem num_lo {y m d : Int} (h : Vld y m d) : dby y ≤ num y m d + 719162 ∧ num y m d + 719162 < dby y + 365 + lp y := by
  obtain ⟨h1, h2, h3, h4, h5, h6⟩ := h
  have := cum_bd y m h3 h4
  have := cum_last y m h3 h4
  unfold num; omega
theorem num_bd {y m d : Int} (h : Vld y m d) : -719162 ≤ num y m d ∧ num y m d ≤ 2932896 := by
  have h1 := num_lo h
  have h2 := dby_bd y h.1 (by have := h.2.1; omega)
  have h3 := dby_succ y h.1
  have h4 := dby_bd (y + 1) (by have := h.1; omega) (by have := h.2.1; omega)
  omega
theorem num_lt_year {y m d z k e : Int} (h : Vld y m d) (g : Vld z k e) (hy : y < z) : num y m d < num z k e := by
  have h1 := num_lo h
  have h2 := num_lo g
  have h3 := dby_lt y z h.1 hy
  omega
theorem num_lt_month {y m d k e : Int} (h : Vld y m d) (g : Vld y k e) (hm : m < k) : num y m d < num y k e := by
  have := cum_lt y m k h.2.2.1 hm g.2.2.2.1
  have := h.2.2.2.2.2
  have := g.2.2.2.2.1
  unfold num; omega
theorem num_lt_day (y m d e : Int) (h : d < e) : num y m d < num y m e := by unfold num; omega
theorem num_lt_iff {y m d z k e : Int} (h : Vld y m d) (g : Vld z k e) : num y m d < num z k e ↔ (y < z ∨ y = z ∧ (m < k ∨ m = k ∧ d < e)) := by
  constructor
  · intro hl
    rcases Int.lt_trichotomy y z with hy | rfl | hy
    · exact Or.inl hy
    · rcases Int.lt_trichotomy m k with hm | rfl | hm
      · exact Or.inr ⟨rfl, Or.inl hm⟩
      · refine Or.inr ⟨rfl, Or.inr ⟨rfl, ?_⟩⟩
        unfold num at hl; omega
      · have := num_lt_month g h hm; omega
    · have := num_lt_year g h hy; omega
  · rintro (hy | ⟨rfl, hm | ⟨rfl, hd⟩⟩)
    · exact num_lt_year h g hy
    · exact num_lt_month h g hm
    · exact num_lt_day _ _ _ _ hd
theorem num_inj {y m d z k e : Int} (h : Vld y m d) (g : Vld z k e) (hn : num y m d = num z k e) : y = z ∧ m = k ∧ d = e := by
  have h1 := num_lt_iff h g
  have h2 := num_lt_iff g h
  have h3 : ¬ (y < z ∨ y = z ∧ (m < k ∨ m = k ∧ d < e)) := fun h => by have := h1.2 h; omega
  have h4 : ¬ (z < y ∨ z = y ∧ (k < m ∨ k = m ∧ e < d)) := fun h => by have := h2.2 h; omega
  omega
theorem num_of (y m r : Int) : num y m (r - cum y m + 1) = -719162 + dby y + r := by unfold num; omega

/-! the next date -/
theorem next_day {y m d : Int} (h : Vld y m d) (hd : d < dim y m) : Vld y m (d + 1) ∧ num y m (d + 1) = num y m d + 1 := by
  obtain ⟨h1, h2, h3, h4, h5, h6⟩ := h
  exact ⟨⟨h1, h2, h3, h4, by omega, by omega⟩, by unfold num; omega⟩
theorem next_month {y m : Int} (h1 : 1 ≤ y) (h2 : y ≤ 9999) (h3 : 1 ≤ m) (h4 : m < 12) : Vld y (m + 1) 1 ∧ num y (m + 1) 1 = num y m (dim y m) + 1 := by
  have hd := dim_bd y (m + 1)
  refine ⟨⟨h1, h2, by omega, by omega, by omega, by omega⟩, ?_⟩
  have := cum_succ y m h3 (by omega)
  unfold num; omega
theorem next_year {y : Int} (h1 : 1 ≤ y) (h2 : y < 9999) : Vld (y + 1) 1 1 ∧ num (y + 1) 1 1 = num y 12 31 + 1 := by
  have hd := dim_bd (y + 1) 1
  refine ⟨⟨by omega, by omega, by omega, by omega, by omega, by omega⟩, ?_⟩
  have h3 := dby_succ y h1
  have h4 := cum_dec y
  have h5 := cum_one (y + 1)
  unfold num; omega
end Go.Proofs.YtiboijhfieaepaaGreatDoor.cal
