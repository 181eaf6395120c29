/-
  Plain mathematics of the calendar: leap years, days of months and years, the number of a date, and that numbers and dates are each other's. Nothing of any program. Conditions: years from 1 to 9999 where said.
-/
import Derived.Test.YtpkohihnocblfaaGreatDoorRows
import Derived.Laws.Concat
import Derived.Lib.ItoaNum
import Derived.Lib.Repeat
import Derived.WalkKit
import Derived.ProofKit
import Derived.OpenShut
import Derived.IntWalk
import Derived.Deep.QuietTactic
import Derived.BigQuiet
import Derived.Below
import Derived.Deep.MidRow
import Derived.Lib.Hide
import Derived.WalkSmall
namespace Go.Proofs.YtpkohihnocblfaaGreatDoor.cal
set_option linter.unusedVariables false
set_option maxRecDepth 100000

def leapB (y : Int) : Bool := decide (y % 4 = 0 ∧ y % 100 ≠ 0 ∨ y % 400 = 0)
def lp (y : Int) : Int := if leapB y = true then 1 else 0
def len (m : Int) : Int := if m = 2 then 28 else if m = 4 ∨ m = 6 ∨ m = 9 ∨ m = 11 then 30 else 31
def dim (y m : Int) : Int := if m = 2 then 28 + lp y else len m
def cum0 (m : Int) : Int := if m ≤ 1 then 0 else if m = 2 then 31 else if m = 3 then 59 else if m = 4 then 90 else if m = 5 then 120 else if m = 6 then 151 else if m = 7 then 181 else if m = 8 then 212 else if m = 9 then 243 else if m = 10 then 273 else if m = 11 then 304 else if m = 12 then 334 else 365
def cum (y m : Int) : Int := cum0 m + if 3 ≤ m then lp y else 0
def dby (y : Int) : Int := 365 * (y - 1) + (y - 1) / 4 - (y - 1) / 100 + (y - 1) / 400
def num (y m d : Int) : Int := -719162 + dby y + cum y m + d - 1
def Vld (y m d : Int) : Prop := 1 ≤ y ∧ y ≤ 9999 ∧ 1 ≤ m ∧ m ≤ 12 ∧ 1 ≤ d ∧ d ≤ dim y m

instance (y m d : Int) : Decidable (Vld y m d) := by unfold Vld; infer_instance

theorem lp_01 (y : Int) : 0 ≤ lp y ∧ lp y ≤ 1 := by unfold lp; split <;> omega
theorem lp_yes {y : Int} (h : leapB y = true) : lp y = 1 := by unfold lp; rw [if_pos h]
theorem lp_no {y : Int} (h : leapB y = false) : lp y = 0 := by unfold lp; rw [if_neg (by simp [h])]
theorem leapB_iff (y : Int) : leapB y = true ↔ (y % 4 = 0 ∧ y % 100 ≠ 0 ∨ y % 400 = 0) := by unfold leapB; exact decide_eq_true_iff
theorem leapB_not (y : Int) : leapB y = false ↔ ¬ (y % 4 = 0 ∧ y % 100 ≠ 0 ∨ y % 400 = 0) := by unfold leapB; exact decide_eq_false_iff_not
theorem leapB_400 (y : Int) : leapB (y + 400) = leapB y := by
  rw [Bool.eq_iff_iff, leapB_iff, leapB_iff]; omega

theorem twelve {m : Int} (h1 : 1 ≤ m) (h2 : m ≤ 12) : m = 1 ∨ m = 2 ∨ m = 3 ∨ m = 4 ∨ m = 5 ∨ m = 6 ∨ m = 7 ∨ m = 8 ∨ m = 9 ∨ m = 10 ∨ m = 11 ∨ m = 12 := by omega
theorem dim_bd (y m : Int) : 28 ≤ dim y m ∧ dim y m ≤ 31 := by
  have := lp_01 y
  unfold dim len; repeat' split
  all_goals omega
theorem len_bd (m : Int) : 28 ≤ len m ∧ len m ≤ 31 := by
  unfold len; repeat' split
  all_goals omega
theorem dim_feb (y : Int) : dim y 2 = 28 + lp y := by unfold dim; rw [if_pos rfl]
theorem dim_other {y m : Int} (h : m ≠ 2) : dim y m = len m := by unfold dim; rw [if_neg h]
theorem dim_dec (y : Int) : dim y 12 = 31 := rfl
theorem cum_succ (y m : Int) (h1 : 1 ≤ m) (h2 : m ≤ 12) : cum y (m + 1) = cum y m + dim y m := by
  rcases twelve h1 h2 with rfl | rfl | rfl | rfl | rfl | rfl | rfl | rfl | rfl | rfl | rfl | rfl <;> simp [cum, cum0, dim, len] <;> omega
theorem cum_one (y : Int) : cum y 1 = 0 := by simp [cum, cum0]
theorem cum_dec (y : Int) : cum y 12 = 334 + lp y := by simp [cum, cum0]
theorem cum_end (y : Int) : cum y 13 = 365 + lp y := by simp [cum, cum0]
theorem cum_bd (y m : Int) (h1 : 1 ≤ m) (h2 : m ≤ 12) : 0 ≤ cum y m ∧ cum y m ≤ 334 + lp y := by
  have := lp_01 y
  rcases twelve h1 h2 with rfl | rfl | rfl | rfl | rfl | rfl | rfl | rfl | rfl | rfl | rfl | rfl <;> simp [cum, cum0] <;> omega
theorem cum_last (y m : Int) (h1 : 1 ≤ m) (h2 : m ≤ 12) : cum y m + dim y m ≤ 365 + lp y := by
  have := lp_01 y
  rcases twelve h1 h2 with rfl | rfl | rfl | rfl | rfl | rfl | rfl | rfl | rfl | rfl | rfl | rfl <;> simp [cum, cum0, dim, len] <;> omega
theorem cum_lt (y m k : Int) (h1 : 1 ≤ m) (h2 : m < k) (h3 : k ≤ 12) : cum y m + dim y m ≤ cum y k := by
  obtain ⟨n, rfl⟩ : ∃ n : Nat, k = m + 1 + n := ⟨(k - m - 1).toNat, by omega⟩
  induction n with
  | zero => rw [← cum_succ y m h1 (by omega)]; simp
  | succ n ih =>
    have := ih (by omega) (by omega)
    have h := cum_succ y (m + 1 + n) (by omega) (by omega)
    have hd := dim_bd y (m + 1 + n)
    rw [show m + 1 + ((n + 1 : Nat) : Int) = m + 1 + n + 1 by omega, h]
    omega

theorem dby_one : dby 1 = 0 := by decide
theorem dby_top : dby 10000 = 3652059 := by decide
theorem dby_succ (y : Int) (h : 1 ≤ y) : dby (y + 1) = dby y + 365 + lp y := by
  cases hl : leapB y
  · rw [lp_no hl]
    rw [leapB_not] at hl
    unfold dby
    omega
  · rw [lp_yes hl]
    rw [leapB_iff] at hl
    unfold dby
    omega
theorem dby_mono (a b : Int) (h0 : 1 ≤ a) (h : a ≤ b) : dby a ≤ dby b := by unfold dby; omega
theorem dby_lt (a b : Int) (h0 : 1 ≤ a) (h : a < b) : dby a + 365 + lp a ≤ dby b := by
  rw [← dby_succ a h0]; exact dby_mono _ _ (by omega) (by omega)
theorem dby_bd (y : Int) (h0 : 1 ≤ y) (h : y ≤ 10000) : 0 ≤ dby y ∧ dby y ≤ 3652059 := by
  have h1 := dby_mono 1 y (by omega) h0
  have h2 := dby_mono y 10000 h0 h
  rw [dby_one] at h1; rw [dby_top] at h2
  exact ⟨h1, h2⟩
theorem dby_400 (y : Int) : dby (y + 400) = dby y + 146097 := by unfold dby; omega

/-! the year of a day: four spans -/
theorem dby_parts (a b c d : Int) (b0 : 0 ≤ b) (b1 : b ≤ 3) (c0 : 0 ≤ c) (c1 : c ≤ 24) (d0 : 0 ≤ d) (d1 : d ≤ 3) :
    dby (1 + a * 400 + b * 100 + c * 4 + d) = 146097 * a + 36524 * b + 1461 * c + 365 * d := by
  unfold dby
  have e : 1 + a * 400 + b * 100 + c * 4 + d - 1 = a * 400 + b * 100 + c * 4 + d := by omega
  rw [e]
  have q1 : (a * 400 + b * 100 + c * 4 + d) / 4 = 100 * a + 25 * b + c := by omega
  have q2 : (a * 400 + b * 100 + c * 4 + d) / 100 = 4 * a + b := by omega
  have q3 : (a * 400 + b * 100 + c * 4 + d) / 400 = a := by omega
  rw [q1, q2, q3]; omega
theorem year_of (D a b c d x1 x2 x3 x4 : Int) (h0 : 0 ≤ D) (h1 : D ≤ 3652058)
    (ha : a = min (D / 146097) 24) (e1 : x1 = D - a * 146097) (hb : b = min (x1 / 36524) 3) (e2 : x2 = x1 - b * 36524)
    (hc : c = min (x2 / 1461) 24) (e3 : x3 = x2 - c * 1461) (hd : d = min (x3 / 365) 3) (e4 : x4 = x3 - d * 365) :
    1 ≤ 1 + a * 400 + b * 100 + c * 4 + d ∧ 1 + a * 400 + b * 100 + c * 4 + d ≤ 9999 ∧ 0 ≤ x4 ∧ x4 < 365 + lp (1 + a * 400 + b * 100 + c * 4 + d) ∧ dby (1 + a * 400 + b * 100 + c * 4 + d) + x4 = D := by
  have a0 : 0 ≤ a := by omega
  have a1 : a ≤ 24 := by omega
  have b0 : 0 ≤ b := by omega
  have b1 : b ≤ 3 := by omega
  have c0 : 0 ≤ c := by omega
  have c1 : c ≤ 24 := by omega
  have d0 : 0 ≤ d := by omega
  have d1 : d ≤ 3 := by omega
  have x10 : 0 ≤ x1 ∧ x1 ≤ 146096 := by omega
  have x20 : 0 ≤ x2 ∧ x2 ≤ 36524 ∧ (b < 3 → x2 ≤ 36523) := by omega
  have x30 : 0 ≤ x3 ∧ x3 ≤ 1460 ∧ (c = 24 → b < 3 → x3 ≤ 1459) := by omega
  have x40 : 0 ≤ x4 ∧ x4 ≤ 365 ∧ (d < 3 → x4 ≤ 364) ∧ (c = 24 → b < 3 → x4 ≤ 364) := by omega
  have hy : dby (1 + a * 400 + b * 100 + c * 4 + d) = 146097 * a + 36524 * b + 1461 * c + 365 * d := dby_parts a b c d b0 b1 c0 c1 d0 d1
  refine ⟨by omega, by omega, x40.1, ?_, by rw [hy]; omega⟩
  cases hl : leapB (1 + a * 400 + b * 100 + c * 4 + d)
  · rw [lp_no hl]
    rw [leapB_not] at hl
    omega
  · rw [lp_yes hl]; omega

/-! numbers and dates -/
theorem num_lo {y m d : Int} (h : Vld y m d) : dby y ≤ num y m d + 719162 ∧ num y m d + 719162 < dby y + 365 + lp y := by
  obtain ⟨h1, h2, h3, h4, h5, h6⟩ := h
  have := cum_bd y m h3 h4
  have := cum_last y m h3 h4
  unfold num; omega
theorem num_bd {y m d : Int} (h : Vld y m d) : -719162 ≤ num y m d ∧ num y m d ≤ 2932896 := by
  have h1 := num_lo h
  have h2 := dby_bd y h.1 (by have := h.2.1; omega)
  have h3 := dby_succ y h.1
  have h4 := dby_bd (y + 1) (by have := h.1; omega) (by have := h.2.1; omega)
  omega
theorem num_lt_year {y m d z k e : Int} (h : Vld y m d) (g : Vld z k e) (hy : y < z) : num y m d < num z k e := by
  have h1 := num_lo h
  have h2 := num_lo g
  have h3 := dby_lt y z h.1 hy
  omega
theorem num_lt_month {y m d k e : Int} (h : Vld y m d) (g : Vld y k e) (hm : m < k) : num y m d < num y k e := by
  have := cum_lt y m k h.2.2.1 hm g.2.2.2.1
  have := h.2.2.2.2.2
  have := g.2.2.2.2.1
  unfold num; omega
theorem num_lt_day (y m d e : Int) (h : d < e) : num y m d < num y m e := by unfold num; omega
theorem num_lt_iff {y m d z k e : Int} (h : Vld y m d) (g : Vld z k e) : num y m d < num z k e ↔ (y < z ∨ y = z ∧ (m < k ∨ m = k ∧ d < e)) := by
  constructor
  · intro hl
    rcases Int.lt_trichotomy y z with hy | rfl | hy
    · exact Or.inl hy
    · rcases Int.lt_trichotomy m k with hm | rfl | hm
      · exact Or.inr ⟨rfl, Or.inl hm⟩
      · refine Or.inr ⟨rfl, Or.inr ⟨rfl, ?_⟩⟩
        unfold num at hl; omega
      · have := num_lt_month g h hm; omega
    · have := num_lt_year g h hy; omega
  · rintro (hy | ⟨rfl, hm | ⟨rfl, hd⟩⟩)
    · exact num_lt_year h g hy
    · exact num_lt_month h g hm
    · exact num_lt_day _ _ _ _ hd
theorem num_inj {y m d z k e : Int} (h : Vld y m d) (g : Vld z k e) (hn : num y m d = num z k e) : y = z ∧ m = k ∧ d = e := by
  have h1 := num_lt_iff h g
  have h2 := num_lt_iff g h
  have h3 : ¬ (y < z ∨ y = z ∧ (m < k ∨ m = k ∧ d < e)) := fun h => by have := h1.2 h; omega
  have h4 : ¬ (z < y ∨ z = y ∧ (k < m ∨ k = m ∧ e < d)) := fun h => by have := h2.2 h; omega
  omega
theorem num_of (y m r : Int) : num y m (r - cum y m + 1) = -719162 + dby y + r := by unfold num; omega

/-! the next date -/
theorem next_day {y m d : Int} (h : Vld y m d) (hd : d < dim y m) : Vld y m (d + 1) ∧ num y m (d + 1) = num y m d + 1 := by
  obtain ⟨h1, h2, h3, h4, h5, h6⟩ := h
  exact ⟨⟨h1, h2, h3, h4, by omega, by omega⟩, by unfold num; omega⟩
theorem next_month {y m : Int} (h1 : 1 ≤ y) (h2 : y ≤ 9999) (h3 : 1 ≤ m) (h4 : m < 12) : Vld y (m + 1) 1 ∧ num y (m + 1) 1 = num y m (dim y m) + 1 := by
  have hd := dim_bd y (m + 1)
  refine ⟨⟨h1, h2, by omega, by omega, by omega, by omega⟩, ?_⟩
  have := cum_succ y m h3 (by omega)
  unfold num; omega
theorem next_year {y : Int} (h1 : 1 ≤ y) (h2 : y < 9999) : Vld (y + 1) 1 1 ∧ num (y + 1) 1 1 = num y 12 31 + 1 := by
  have hd := dim_bd (y + 1) 1
  refine ⟨⟨by omega, by omega, by omega, by omega, by omega, by omega⟩, ?_⟩
  have h3 := dby_succ y h1
  have h4 := cum_dec y
  have h5 := cum_one (y + 1)
  unfold num; omega
end Go.Proofs.YtpkohihnocblfaaGreatDoor.cal

/-
  Plain mathematics of days and seconds as texts: digits, the twenty bytes of a text, its order, and what a row of twenty bytes says. Nothing of any program. Conditions: as said.
-/
namespace Go.Proofs.YtpkohihnocblfaaGreatDoor.stx
set_option linter.unusedVariables false
set_option maxRecDepth 100000

def dgt (n : Nat) : UInt8 := UInt8.ofNat (48 + n % 10)
def d2 (n : Int) : ByteArray := ⟨#[dgt (n.toNat / 10), dgt n.toNat]⟩
def d4 (n : Int) : ByteArray := ⟨#[dgt (n.toNat / 1000), dgt (n.toNat / 100), dgt (n.toNat / 10), dgt n.toNat]⟩
def dtx (y m d : Int) : ByteArray := ⟨#[dgt (y.toNat / 1000), dgt (y.toNat / 100), dgt (y.toNat / 10), dgt y.toNat, 45, dgt (m.toNat / 10), dgt m.toNat, 45, dgt (d.toNat / 10), dgt d.toNat]⟩
def txt (y m d h i x : Int) : ByteArray := ⟨#[dgt (y.toNat / 1000), dgt (y.toNat / 100), dgt (y.toNat / 10), dgt y.toNat, 45, dgt (m.toNat / 10), dgt m.toNat, 45, dgt (d.toNat / 10), dgt d.toNat, 84, dgt (h.toNat / 10), dgt h.toNat, 58, dgt (i.toNat / 10), dgt i.toNat, 58, dgt (x.toNat / 10), dgt x.toNat, 90]⟩

theorem d2_size (n : Int) : (d2 n).size = 2 := rfl
theorem d4_size (n : Int) : (d4 n).size = 4 := rfl
theorem dtx_size (y m d : Int) : (dtx y m d).size = 10 := rfl
theorem txt_size (y m d h i x : Int) : (txt y m d h i x).size = 20 := rfl

theorem dtx_cat (y m d : Int) : d4 y ++ ⟨#[45]⟩ ++ d2 m ++ ⟨#[45]⟩ ++ d2 d = dtx y m d := by
  apply ByteArray.ext
  simp [d4, d2, dtx]
theorem txt_cat (y m d h i x : Int) : dtx y m d ++ ⟨#[84]⟩ ++ d2 h ++ ⟨#[58]⟩ ++ d2 i ++ ⟨#[58]⟩ ++ d2 x ++ ⟨#[90]⟩ = txt y m d h i x := by
  apply ByteArray.ext
  simp [dtx, d2, txt]

/-! decimals -/
theorem dgt_nat (n : Nat) : (dgt n).toNat = 48 + n % 10 := by
  unfold dgt
  rw [UInt8.toNat_ofNat']
  omega
theorem dgt_mod (n : Nat) : dgt (n % 10) = dgt n := by unfold dgt; rw [Nat.mod_mod]
theorem dec1 (u : Nat) (h : u < 10) : Lib.decDigits u = [dgt u] := by
  rw [Lib.decDigits, dif_pos h]
  unfold dgt
  rw [Nat.mod_eq_of_lt h]
theorem dec_step (u : Nat) (h : ¬ u < 10) : Lib.decDigits u = Lib.decDigits (u / 10) ++ [dgt u] := by
  rw [Lib.decDigits, dif_neg h]
  rfl
theorem dec2 (u : Nat) (h0 : 10 ≤ u) (h : u < 100) : Lib.decDigits u = [dgt (u / 10), dgt u] := by
  rw [dec_step u (by omega), dec1 _ (by omega)]
  rfl
theorem dec3 (u : Nat) (h0 : 100 ≤ u) (h : u < 1000) : Lib.decDigits u = [dgt (u / 100), dgt (u / 10), dgt u] := by
  rw [dec_step u (by omega), dec2 _ (by omega) (by omega), Nat.div_div_eq_div_mul]
  rfl
theorem dec4 (u : Nat) (h0 : 1000 ≤ u) (h : u < 10000) : Lib.decDigits u = [dgt (u / 1000), dgt (u / 100), dgt (u / 10), dgt u] := by
  rw [dec_step u (by omega), dec3 _ (by omega) (by omega), Nat.div_div_eq_div_mul, Nat.div_div_eq_div_mul]
  rfl
theorem dgt_zero {n : Nat} (h : n = 0) : dgt n = 48 := by subst h; rfl

/-! clocks -/
def secN (h i x : Int) : Int := 3600 * h + 60 * i + x
def Clk (h i x : Int) : Prop := (0 ≤ h ∧ h ≤ 23 ∧ 0 ≤ i ∧ i ≤ 59 ∧ 0 ≤ x ∧ x ≤ 59) ∨ (h = 23 ∧ i = 59 ∧ x = 60)
instance (h i x : Int) : Decidable (Clk h i x) := by unfold Clk; infer_instance
theorem clk_bd {h i x : Int} (c : Clk h i x) : 0 ≤ h ∧ h ≤ 23 ∧ 0 ≤ i ∧ i ≤ 59 ∧ 0 ≤ x ∧ x ≤ 60 := by unfold Clk at c; omega
theorem secN_bd {h i x : Int} (c : Clk h i x) : 0 ≤ secN h i x ∧ secN h i x ≤ 86400 := by unfold Clk at c; unfold secN; omega
theorem exists_clk (n : Int) (h0 : 0 ≤ n) (h1 : n ≤ 86400) : ∃ h i x : Int, Clk h i x ∧ secN h i x = n := by
  by_cases e : n = 86400
  · exact ⟨23, 59, 60, by decide, by subst e; decide⟩
  · exact ⟨n / 3600, n / 60 % 60, n % 60, by unfold Clk; omega, by unfold secN; omega⟩
theorem secN_lt_iff {h i x h' i' x' : Int} (c : Clk h i x) (c' : Clk h' i' x') : secN h i x < secN h' i' x' ↔ (h < h' ∨ h = h' ∧ (i < i' ∨ i = i' ∧ x < x')) := by
  unfold Clk at c c'; unfold secN; omega
theorem secN_inj {h i x h' i' x' : Int} (c : Clk h i x) (c' : Clk h' i' x') (e : secN h i x = secN h' i' x') : h = h' ∧ i = i' ∧ x = x' := by
  unfold Clk at c c'; unfold secN at e; omega
theorem secN_top {h i x : Int} (c : Clk h i x) : secN h i x = 86400 ↔ x = 60 := by
  unfold Clk at c; unfold secN; omega
theorem secN_parts {h i x : Int} (c : Clk h i x) (hx : x ≠ 60) : secN h i x / 3600 = h ∧ secN h i x / 60 % 60 = i ∧ secN h i x % 60 = x := by
  unfold Clk at c; unfold secN; omega
end Go.Proofs.YtpkohihnocblfaaGreatDoor.stx

/-
  What day's Leap, Last and daysAhead answer, where the two tables of package day hold what their initialisers lay. Conditions: those tables; the arguments are numbers of 64 bits.
-/
namespace Go.Proofs.YtpkohihnocblfaaGreatDoor.day
open Go.ChangeShapes Go.WideShapes Go.ChangeAt Go.RowKit
open cal
set_option linter.unusedVariables false
set_option maxRecDepth 100000

def lens : List Int := [31, 28, 31, 30, 31, 30, 31, 31, 30, 31, 30, 31]
def spanCells : List Value := [.int .i64 400, .int .i64 146097, .int .i64 24, .int .i64 100, .int .i64 36524, .int .i64 3, .int .i64 4, .int .i64 1461, .int .i64 24, .int .i64 1, .int .i64 365, .int .i64 3]
/-- the two tables, as they are laid. -/
def Tabs (w : World) : Prop := (∀ i : Nat, i < 12 → w.cell? ⟨3, i, none⟩ = some (.int .i64 (lens.getD i 0))) ∧ w.rangeAt 2 0 spanCells

theorem lens_at (m : Int) (h1 : 1 ≤ m) (h2 : m ≤ 12) : lens.getD (m - 1).toNat 0 = len m := by
  rcases twelve h1 h2 with rfl | rfl | rfl | rfl | rfl | rfl | rfl | rfl | rfl | rfl | rfl | rfl <;> rfl
theorem Tabs.len {w : World} (T : Tabs w) (m : Int) (h1 : 1 ≤ m) (h2 : m ≤ 12) : w.cell? ⟨3, (m - 1).toNat, none⟩ = some (.int .i64 (len m)) := by
  rw [T.1 _ (by omega), lens_at m h1 h2]
theorem ret_bool {b : Bool} (h : b = true) : Ending.returned (.bool b) = .returned (.bool true) := by rw [h]
theorem ret_b {a b : Bool} (h : a = b) : Ending.returned (.bool a) = .returned (.bool b) := by rw [h]
theorem ret_i {a b : Int} (h : a = b) : Ending.returned (.int .i64 a) = .returned (.int .i64 b) := by rw [h]

theorem below_size {w w' : World} {n b o : Nat} {v : Value} (h : w.cell? ⟨b, o, none⟩ = some v) : b < w.heap.size := by
  rcases Nat.lt_or_ge b w.heap.size with hl | hl
  · exact hl
  · exfalso
    simp [World.cell?, Array.getElem?_eq_none hl] at h
theorem Tabs.below {w w' : World} (T : Tabs w) (hb : Below w.heap.size w w') : Tabs w' := by
  have z0 : 3 < w.heap.size := below_size (w' := w) (n := 0) (T.1 0 (by omega))
  have z1 : 2 < w.heap.size := below_size (w' := w) (n := 0) (T.2 0 _ rfl)
  exact ⟨fun i hi => by rw [hb.cell (p := ⟨_, i, none⟩) z0]; exact T.1 i hi, fun j v hv => by rw [hb.cell (p := ⟨_, 0 + j, none⟩) z1]; exact T.2 j v hv⟩

/-! Leap -/
theorem tmod_zero (y k : Int) (hk : 0 < k) : y.tmod k = 0 ↔ y % k = 0 := by
  rw [← Int.dvd_iff_tmod_eq_zero, ← Int.dvd_iff_emod_eq_zero]
theorem leap_any (y : Int) (w : World) :
    Calls Tryz.prog 91 #[.int .i64 y] w fun e w' => e = .returned (.bool (leapB y)) ∧ w = w' := by
  have p4 := tmod_zero y 4 (by omega)
  have p100 := tmod_zero y 100 (by omega)
  have p400 := tmod_zero y 400 (by omega)
  by_cases h4 : y % 4 = 0
  · have a4 : (y.tmod 4 == 0) = true := by simpa using p4.2 h4
    by_cases h100 : y % 100 = 0
    · have a100 : (y.tmod 100 != 0) = false := by simpa using p100.2 h100
      by_cases h400 : y % 400 = 0
      · have a400 : (y.tmod 400 == 0) = true := by simpa using p400.2 h400
        have E : Hid (leapB y = true) := (leapB_iff y).2 (Or.inr h400)
        clear p4 p100 p400 h4 h100 h400
        go_enter Tryz.func91, Tryz.ntmps91
        go_wp2
        go_ret
        exact ⟨ret_b (E.out).symm, rfl⟩
      · have a400 : (y.tmod 400 == 0) = false := by simpa using fun h => h400 (p400.1 h)
        have E : Hid (leapB y = false) := (leapB_not y).2 (by omega)
        clear p4 p100 p400 h4 h100 h400
        go_enter Tryz.func91, Tryz.ntmps91
        go_wp2
        go_ret
        exact ⟨ret_b (E.out).symm, rfl⟩
    · have a100 : (y.tmod 100 != 0) = true := by simpa using fun h => h100 (p100.1 h)
      have E : Hid (leapB y = true) := (leapB_iff y).2 (Or.inl ⟨h4, h100⟩)
      clear p4 p100 p400 h4 h100
      go_enter Tryz.func91, Tryz.ntmps91
      go_wp2
      go_ret
      exact ⟨ret_b (E.out).symm, rfl⟩
  · have a4 : (y.tmod 4 == 0) = false := by simpa using fun h => h4 (p4.1 h)
    have a400 : (y.tmod 400 == 0) = false := by simpa using fun h => h4 (by have := p400.1 h; omega)
    have E : Hid (leapB y = false) := (leapB_not y).2 (by omega)
    clear p4 p100 p400 h4
    go_enter Tryz.func91, Tryz.ntmps91
    go_wp2
    go_ret
    exact ⟨ret_b (E.out).symm, rfl⟩

/-! Last -/
theorem last_no (y m : Int) (w : World) (h : y < 1 ∨ 9999 < y ∨ m < 1 ∨ 12 < m) :
    Calls Tryz.prog 68 #[.int .i64 y, .int .i64 m] w fun e w' => e = .returned (.tuple #[.int .i64 0, .bool false]) ∧ w = w' := by
  by_cases h1 : y < 1
  · clear h
    go_enter Tryz.func68, Tryz.ntmps68
    go_wp2
    go_ret2
    exact ⟨rfl, rfl⟩
  by_cases h2 : 9999 < y
  · clear h
    go_enter Tryz.func68, Tryz.ntmps68
    go_wp2
    go_ret2
    exact ⟨rfl, rfl⟩
  by_cases h3 : m < 1
  · clear h
    go_enter Tryz.func68, Tryz.ntmps68
    go_wp2
    go_ret2
    exact ⟨rfl, rfl⟩
  have h4 : 12 < m := by omega
  clear h
  go_enter Tryz.func68, Tryz.ntmps68
  go_wp2
  go_ret2
  exact ⟨rfl, rfl⟩
theorem last_yes (y m : Int) (w : World) (T : Tabs w) (h1 : 1 ≤ y) (h2 : y ≤ 9999) (h3 : 1 ≤ m) (h4 : m ≤ 12) :
    Calls Tryz.prog 68 #[.int .i64 y, .int .i64 m] w fun e w' => e = .returned (.tuple #[.int .i64 (dim y m), .bool true]) ∧ w = w' := by
  have hc := T.len m h3 h4
  have hl := len_bd m
  by_cases hm : m = 2
  · subst hm
    have C := Lib.hid (fun W => leap_any y W)
    have e : len 2 = 28 := rfl
    rw [e, show ((2 : Int) - 1).toNat = 1 from rfl] at hc
    clear hl e
    cases hl : leapB y
    · rw [hl] at C
      have E := dim_feb y
      rw [lp_no hl] at E
      rw [E]
      clear hl T E
      go_enter Tryz.func68, Tryz.ntmps68
      go_wp2_with (first
        | (go_at_call 91; (with_reducible refine (C.out _).mono ?_; rintro e w' ⟨rfl, rfl⟩)))
      go_ret2
      exact ⟨rfl, rfl⟩
    · rw [hl] at C
      have E := dim_feb y
      rw [lp_yes hl] at E
      rw [E]
      clear hl T E
      go_enter Tryz.func68, Tryz.ntmps68
      go_wp2_with (first
        | (go_at_call 91; (with_reducible refine (C.out _).mono ?_; rintro e w' ⟨rfl, rfl⟩)))
      go_ret2
      exact ⟨rfl, rfl⟩
  · have e2 : (m == 2) = false := by simpa using hm
    rw [dim_other hm]
    generalize len m = L at *
    rw [show (m - 1).toNat = m.toNat - 1 by omega] at hc
    clear hm T
    go_enter Tryz.func68, Tryz.ntmps68
    go_wp2
    go_ret2
    exact ⟨rfl, rfl⟩

/-! daysAhead -/
theorem ahead (y : Int) (w : World) (h1 : 1 ≤ y) (h2 : y ≤ 100000) :
    Calls Tryz.prog 99 #[.int .i64 y] w fun e w' => e = .returned (.int .i64 (dby y)) ∧ w = w' := by
  have E : Hid (dby y = (y - 1) * 365 + (y - 1) / 4 - (y - 1) / 100 + (y - 1) / 400) := by show dby y = _; unfold dby; omega
  go_enter Tryz.func99, Tryz.ntmps99
  go_wp2
  go_ret
  exact ⟨ret_i (by rw [E.out]), rfl⟩
end Go.Proofs.YtpkohihnocblfaaGreatDoor.day

/-
  What day's Number answers, where the two tables of package day hold what their initialisers lay: the number of a date that there is, and true; nought and false of any other. Conditions: those tables.
-/
namespace Go.Proofs.YtpkohihnocblfaaGreatDoor.day
open Go.ChangeShapes Go.WideShapes Go.ChangeAt Go.RowKit
open cal
set_option linter.unusedVariables false
set_option maxRecDepth 100000

set_option maxHeartbeats 1000000 in
theorem number_no (y m d : Int) (w : World) (T : Tabs w) (h : ¬ Vld y m d) :
    Calls Tryz.prog 78 #[.int .i64 y, .int .i64 m, .int .i64 d] w fun e w' => e = .returned (.tuple #[.int .i64 0, .bool false]) ∧ w = w' := by
  by_cases hy : 1 ≤ y ∧ y ≤ 9999 ∧ 1 ≤ m ∧ m ≤ 12
  · obtain ⟨h1, h2, h3, h4⟩ := hy
    have C := Lib.hid (last_yes y m w T h1 h2 h3 h4)
    by_cases h5 : d < 1
    · clear h
      generalize dim y m = L at *
      go_enter Tryz.func78, Tryz.ntmps78
      go_wp2_with (go_at_call 68; with_reducible refine (C.out).mono ?_; rintro e w' ⟨rfl, rfl⟩)
      go_ret2
      exact ⟨rfl, rfl⟩
    · have h6 : dim y m < d := by
        by_cases h6 : dim y m < d
        · exact h6
        · exact absurd ⟨h1, h2, h3, h4, by omega, by omega⟩ h
      clear h
      generalize dim y m = L at *
      go_enter Tryz.func78, Tryz.ntmps78
      go_wp2_with (go_at_call 68; with_reducible refine (C.out).mono ?_; rintro e w' ⟨rfl, rfl⟩)
      go_ret2
      exact ⟨rfl, rfl⟩
  · have C := Lib.hid (last_no y m w (by omega))
    clear h hy
    go_enter Tryz.func78, Tryz.ntmps78
    go_wp2_with (go_at_call 68; with_reducible refine (C.out).mono ?_; rintro e w' ⟨rfl, rfl⟩)
    go_ret2
    exact ⟨rfl, rfl⟩

set_option maxHeartbeats 1000000 in
theorem number_yes (y m d : Int) (w : World) (T : Tabs w) (h : Vld y m d) :
    Calls Tryz.prog 78 #[.int .i64 y, .int .i64 m, .int .i64 d] w fun e w' => e = .returned (.tuple #[.int .i64 (num y m d), .bool true]) ∧ w = w' := by
  have C := Lib.hid (fun k (g1 : 1 ≤ k) (g2 : k ≤ 12) => last_yes y k w T h.1 h.2.1 g1 g2)
  have A := Lib.hid (fun W => ahead y W h.1 (by have := h.2.1; omega))
  have hb := dby_bd y h.1 (by have := h.2.1; omega)
  obtain ⟨h1, h2, h3, h4, h5, h6⟩ := h
  have hd := dim_bd y m
  have t1 : decide (d < 1) = false := by simp; omega
  have t2 : decide (dim y m < d) = false := by simp; omega
  go_enter Tryz.func78, Tryz.ntmps78
  go_wp2_with (first
    | (go_at_call 68; with_reducible refine (C.out _ h3 h4).mono ?_; rintro e w' ⟨rfl, rfl⟩)
    | (go_at_call 99; with_reducible refine (A.out _).mono ?_; rintro e w' ⟨rfl, rfl⟩))
  go_loop [10, 11] (fun r k => ∃ i : Int, 1 ≤ i ∧ i ≤ m ∧ k = .int .i64 i ∧ r = .int .i64 (num y i d)) (fun _ k => (m - intOf k).toNat)
  case atStart => exact ⟨1, by omega, by omega, rfl, by unfold num; rw [cum_one]; congr 1 <;> omega⟩
  case round =>
    obtain ⟨i, hi1, hi2, rfl, rfl⟩ := hrel
    have cb := cum_bd y i hi1 (by omega)
    have l01 := lp_01 y
    have nb : -719162 ≤ num y i d ∧ num y i d ≤ 3652059 := by unfold num; omega
    have db := dim_bd y i
    by_cases hc : i < m
    · have HS : Hid (num y (i + 1) d = num y i d + dim y i) := by
        show num y (i + 1) d = num y i d + dim y i
        unfold num; rw [cum_succ y i hi1 (by omega)]; omega
      clear cb l01
      generalize num y i d = N at *
      go_wp2_with (go_at_call 68; with_reducible refine (C.out _ hi1 (by omega)).mono ?_; rintro e w' ⟨rfl, rfl⟩)
      go_round
      case rel => exact ⟨i + 1, by omega, by omega, rfl, by rw [HS.out]⟩
      case measure => simp [intOf]; omega
    · obtain rfl : i = m := by omega
      clear hc cb l01
      go_wp2
      go_ret2
      exact ⟨rfl, rfl⟩
end Go.Proofs.YtpkohihnocblfaaGreatDoor.day

/-
  What day's yearOf answers, where the two tables of package day hold what their initialisers lay: the year of a day by how many days it is behind the first one of the year 1, and its place in that year. Conditions: those tables; from 0 to 3652058 days.
-/
namespace Go.Proofs.YtpkohihnocblfaaGreatDoor.day
open Go.ChangeShapes Go.WideShapes Go.ChangeAt Go.RowKit
open cal
set_option linter.unusedVariables false
set_option maxRecDepth 100000

/-- how many spans of each kind, and the days that are left. -/
def cnt (x s most : Int) : Int := min (x / s) most
def x1 (D : Int) : Int := D - cnt D 146097 24 * 146097
def x2 (D : Int) : Int := x1 D - cnt (x1 D) 36524 3 * 36524
def x3 (D : Int) : Int := x2 D - cnt (x2 D) 1461 24 * 1461
def x4 (D : Int) : Int := x3 D - cnt (x3 D) 365 3 * 365
def y1 (D : Int) : Int := 1 + cnt D 146097 24 * 400
def y2 (D : Int) : Int := y1 D + cnt (x1 D) 36524 3 * 100
def y3 (D : Int) : Int := y2 D + cnt (x2 D) 1461 24 * 4
def y4 (D : Int) : Int := y3 D + cnt (x3 D) 365 3
def leftD (D : Int) (k : Int) : Int := if k = 0 then D else if k = 1 then x1 D else if k = 2 then x2 D else if k = 3 then x3 D else x4 D
def yearD (D : Int) (k : Int) : Int := if k = 0 then 1 else if k = 1 then y1 D else if k = 2 then y2 D else if k = 3 then y3 D else y4 D
theorem year_at (D : Int) (h0 : 0 ≤ D) (h1 : D ≤ 3652058) :
    1 ≤ y4 D ∧ y4 D ≤ 9999 ∧ 0 ≤ x4 D ∧ x4 D < 365 + lp (y4 D) ∧ dby (y4 D) + x4 D = D :=
  year_of D (cnt D 146097 24) (cnt (x1 D) 36524 3) (cnt (x2 D) 1461 24) (cnt (x3 D) 365 3) (x1 D) (x2 D) (x3 D) (x4 D) h0 h1 rfl rfl rfl rfl rfl rfl rfl rfl
theorem left_bd (D : Int) (h0 : 0 ≤ D) (h1 : D ≤ 3652058) :
    (0 ≤ x1 D ∧ x1 D ≤ 146096) ∧ (0 ≤ x2 D ∧ x2 D ≤ 36524) ∧ (0 ≤ x3 D ∧ x3 D ≤ 1460) ∧ (1 ≤ y1 D ∧ y1 D ≤ 9999) ∧ (1 ≤ y2 D ∧ y2 D ≤ 9999) ∧ (1 ≤ y3 D ∧ y3 D ≤ 9999) := by
  have e1 : x1 D = D - cnt D 146097 24 * 146097 := rfl
  have e2 : x2 D = x1 D - cnt (x1 D) 36524 3 * 36524 := rfl
  have e3 : x3 D = x2 D - cnt (x2 D) 1461 24 * 1461 := rfl
  have f1 : y1 D = 1 + cnt D 146097 24 * 400 := rfl
  have f2 : y2 D = y1 D + cnt (x1 D) 36524 3 * 100 := rfl
  have f3 : y3 D = y2 D + cnt (x2 D) 1461 24 * 4 := rfl
  unfold cnt at *
  have b1 : 0 ≤ x1 D ∧ x1 D ≤ 146096 := by omega
  have b2 : 0 ≤ x2 D ∧ x2 D ≤ 36524 := by omega
  have b3 : 0 ≤ x3 D ∧ x3 D ≤ 1460 := by omega
  exact ⟨b1, b2, b3, by omega, by omega, by omega⟩

theorem Tabs.spans {w : World} (T : Tabs w) : w.cell? ⟨2, 0, none⟩ = some (.int .i64 400) ∧ w.cell? ⟨2, 1, none⟩ = some (.int .i64 146097) ∧ w.cell? ⟨2, 2, none⟩ = some (.int .i64 24) ∧
    w.cell? ⟨2, 3, none⟩ = some (.int .i64 100) ∧ w.cell? ⟨2, 4, none⟩ = some (.int .i64 36524) ∧ w.cell? ⟨2, 5, none⟩ = some (.int .i64 3) ∧
    w.cell? ⟨2, 6, none⟩ = some (.int .i64 4) ∧ w.cell? ⟨2, 7, none⟩ = some (.int .i64 1461) ∧ w.cell? ⟨2, 8, none⟩ = some (.int .i64 24) ∧
    w.cell? ⟨2, 9, none⟩ = some (.int .i64 1) ∧ w.cell? ⟨2, 10, none⟩ = some (.int .i64 365) ∧ w.cell? ⟨2, 11, none⟩ = some (.int .i64 3) :=
  ⟨T.2 0 _ rfl, T.2 1 _ rfl, T.2 2 _ rfl, T.2 3 _ rfl, T.2 4 _ rfl, T.2 5 _ rfl, T.2 6 _ rfl, T.2 7 _ rfl, T.2 8 _ rfl, T.2 9 _ rfl, T.2 10 _ rfl, T.2 11 _ rfl⟩

theorem run_span (w : World) (k : Int) (a b c : Int) (h : k = 0 ∧ a = 400 ∧ b = 146097 ∧ c = 24 ∨ k = 1 ∧ a = 100 ∧ b = 36524 ∧ c = 3 ∨ k = 2 ∧ a = 4 ∧ b = 1461 ∧ c = 24 ∨ k = 3 ∧ a = 1 ∧ b = 365 ∧ c = 3) :
    (Instr.index 146 (.agg #[.int .i64 400, .int .i64 146097, .int .i64 24, .int .i64 100, .int .i64 36524, .int .i64 3, .int .i64 4, .int .i64 1461, .int .i64 24, .int .i64 1, .int .i64 365, .int .i64 3]) (.int .i64 k)).run Tryz.prog w = .ok (.agg #[.int .i64 a, .int .i64 b, .int .i64 c]) w := by
  rcases h with ⟨rfl, rfl, rfl, rfl⟩ | ⟨rfl, rfl, rfl, rfl⟩ | ⟨rfl, rfl, rfl, rfl⟩ | ⟨rfl, rfl, rfl, rfl⟩ <;> kernel_rfl

set_option maxHeartbeats 1000000 in
theorem yearOf_yes (D : Int) (w : World) (T : Tabs w) (h0 : 0 ≤ D) (h1 : D ≤ 3652058) :
    Calls Tryz.prog 67 #[.int .i64 D] w fun e w' => e = .returned (.tuple #[.int .i64 (y4 D), .int .i64 (x4 D)]) ∧ Below w.heap.size w w' := by
  obtain ⟨c0, c1, c2, c3, c4, c5, c6, c7, c8, c9, c10, c11⟩ := T.spans
  have hbd := Lib.hid (left_bd D h0 h1)
  clear T
  go_enter Tryz.func67, Tryz.ntmps67
  go_wp2
  clear c0 c1 c2 c3 c4 c5 c6 c7 c8 c9 c10 c11
  go_loopw [0, 4, 9] (fun x y i W => ∃ k : Int, (k = 0 ∨ k = 1 ∨ k = 2 ∨ k = 3 ∨ k = 4) ∧ i = .int .i64 k ∧ x = .int .i64 (leftD D k) ∧ y = .int .i64 (yearD D k) ∧ Below w.heap.size w W) (fun _ _ i _ => (4 - intOf i).toNat)
  case atStart => exact ⟨0, Or.inl rfl, rfl, rfl, rfl, Below.refl _ _⟩
  case round =>
    obtain ⟨k, hk, rfl, rfl, rfl, hb⟩ := hrel
    rcases hk with rfl | rfl | rfl | rfl | rfl
    · have hi := run_span wr 0 400 146097 24 (by omega)
      have e1 : leftD D 0 = D := rfl
      have e2 : yearD D 0 = 1 := rfl
      have HX : Hid (x1 D = D - cnt (D) 146097 24 * 146097) := rfl
      have HY : Hid (y1 D = 1 + cnt (D) 146097 24 * 400) := by first | rfl | exact (show _ = _ by unfold y4; omega)
      rw [e1, e2]
      clear e1 e2
      go_wp2
      clear hi
      go_quiet (fail)
      go_wp2
      refine ⟨⟨1, by omega, rfl, ?_, ?_, below_drewN (hb.alloc hb.size _) _⟩, by simp [intOf]⟩
      · show Value.int .i64 _ = Value.int .i64 (x1 D)
        rw [HX.out]; unfold cnt; congr 1 <;> omega
      · show Value.int .i64 _ = Value.int .i64 (y1 D)
        rw [HY.out]; unfold cnt; congr 1 <;> omega
    · have hi := run_span wr 1 100 36524 3 (by omega)
      have e1 : leftD D 1 = x1 D := rfl
      have e2 : yearD D 1 = y1 D := rfl
      have HX : Hid (x2 D = x1 D - cnt (x1 D) 36524 3 * 36524) := rfl
      have HY : Hid (y2 D = y1 D + cnt (x1 D) 36524 3 * 100) := by first | rfl | exact (show _ = _ by unfold y4; omega)
      rw [e1, e2]
      clear e1 e2
      have bx := hbd.out.1
      have by' := hbd.out.2.2.2.1
      obtain ⟨bx1, bx2⟩ := bx
      obtain ⟨by1, by2⟩ := by'
      generalize x1 D = X at *
      generalize y1 D = Y at *
      by_cases hq : X / 36524 ≤ 3
      · skip
        go_wp2
        clear hi
        go_quiet (fail)
        go_wp2
        refine ⟨⟨2, by omega, rfl, ?_, ?_, below_drewN (hb.alloc hb.size _) _⟩, by simp [intOf]⟩
        · show Value.int .i64 _ = Value.int .i64 (x2 D)
          rw [HX.out]; unfold cnt; congr 1 <;> omega
        · show Value.int .i64 _ = Value.int .i64 (y2 D)
          rw [HY.out]; unfold cnt; congr 1 <;> omega
      · have hq' : 3 < X / 36524 := by omega
        clear hq
        go_wp2
        clear hi
        go_quiet (fail)
        go_wp2
        refine ⟨⟨2, by omega, rfl, ?_, ?_, below_drewN (hb.alloc hb.size _) _⟩, by simp [intOf]⟩
        · show Value.int .i64 _ = Value.int .i64 (x2 D)
          rw [HX.out]; unfold cnt; congr 1 <;> omega
        · show Value.int .i64 _ = Value.int .i64 (y2 D)
          rw [HY.out]; unfold cnt; congr 1 <;> omega
    · have hi := run_span wr 2 4 1461 24 (by omega)
      have e1 : leftD D 2 = x2 D := rfl
      have e2 : yearD D 2 = y2 D := rfl
      have HX : Hid (x3 D = x2 D - cnt (x2 D) 1461 24 * 1461) := rfl
      have HY : Hid (y3 D = y2 D + cnt (x2 D) 1461 24 * 4) := by first | rfl | exact (show _ = _ by unfold y4; omega)
      rw [e1, e2]
      clear e1 e2
      have bx := hbd.out.2.1
      have by' := hbd.out.2.2.2.2.1
      obtain ⟨bx1, bx2⟩ := bx
      obtain ⟨by1, by2⟩ := by'
      generalize x2 D = X at *
      generalize y2 D = Y at *
      by_cases hq : X / 1461 ≤ 24
      · skip
        go_wp2
        clear hi
        go_quiet (fail)
        go_wp2
        refine ⟨⟨3, by omega, rfl, ?_, ?_, below_drewN (hb.alloc hb.size _) _⟩, by simp [intOf]⟩
        · show Value.int .i64 _ = Value.int .i64 (x3 D)
          rw [HX.out]; unfold cnt; congr 1 <;> omega
        · show Value.int .i64 _ = Value.int .i64 (y3 D)
          rw [HY.out]; unfold cnt; congr 1 <;> omega
      · exfalso; omega
    · have hi := run_span wr 3 1 365 3 (by omega)
      have e1 : leftD D 3 = x3 D := rfl
      have e2 : yearD D 3 = y3 D := rfl
      have HX : Hid (x4 D = x3 D - cnt (x3 D) 365 3 * 365) := rfl
      have HY : Hid (y4 D = y3 D + cnt (x3 D) 365 3 * 1) := by first | rfl | exact (show _ = _ by unfold y4; omega)
      rw [e1, e2]
      clear e1 e2
      have bx := hbd.out.2.2.1
      have by' := hbd.out.2.2.2.2.2
      obtain ⟨bx1, bx2⟩ := bx
      obtain ⟨by1, by2⟩ := by'
      generalize x3 D = X at *
      generalize y3 D = Y at *
      by_cases hq : X / 365 ≤ 3
      · skip
        go_wp2
        clear hi
        go_quiet (fail)
        go_wp2
        refine ⟨⟨4, by omega, rfl, ?_, ?_, below_drewN (hb.alloc hb.size _) _⟩, by simp [intOf]⟩
        · show Value.int .i64 _ = Value.int .i64 (x4 D)
          rw [HX.out]; unfold cnt; congr 1 <;> omega
        · show Value.int .i64 _ = Value.int .i64 (y4 D)
          rw [HY.out]; unfold cnt; congr 1 <;> omega
      · have hq' : 3 < X / 365 := by omega
        clear hq
        go_wp2
        clear hi
        go_quiet (fail)
        go_wp2
        refine ⟨⟨4, by omega, rfl, ?_, ?_, below_drewN (hb.alloc hb.size _) _⟩, by simp [intOf]⟩
        · show Value.int .i64 _ = Value.int .i64 (x4 D)
          rw [HX.out]; unfold cnt; congr 1 <;> omega
        · show Value.int .i64 _ = Value.int .i64 (y4 D)
          rw [HY.out]; unfold cnt; congr 1 <;> omega
    · have e1 : leftD D 4 = x4 D := rfl
      have e2 : yearD D 4 = y4 D := rfl
      rw [e1, e2]
      clear e1 e2
      go_wp2
      go_ret2
      exact ⟨rfl, hb⟩
end Go.Proofs.YtpkohihnocblfaaGreatDoor.day
