/-
  Plain mathematics of layer 7: what a byte is worth in base 16, words and hashes of texts, digits of a number, texts of five numbers. Nothing of any program. Conditions: as said.
-/
import Derived.Test.YtldieebiicblbaaGreatDoorG01
import Derived.Test.YtldieebiicblbaaGreatDoorG05
import Derived.Test.YtldieebiicblbaaGreatDoorRows
import Derived.WalkKit
import Derived.ProofKit
import Derived.OpenShut
import Derived.IntWalk
import Derived.Deep.QuietTactic
import Derived.BigQuiet
import Derived.Below
import Derived.Deep.MidRow
import Derived.Lib.Hide
namespace Go.Proofs.YtldieebiicblbaaGreatDoor.nx
open lx
open sha (hd)
set_option linter.unusedVariables false
set_option maxRecDepth 100000

/-- what a byte is worth in base 16. -/
def dv (c : Nat) : Option Nat := if 48 ≤ c ∧ c ≤ 57 then some (c - 48) else if 97 ≤ c ∧ c ≤ 102 then some (c - 87) else if 65 ≤ c ∧ c ≤ 70 then some (c - 55) else none
theorem dv_cases {c d : Nat} (h : dv c = some d) : (48 ≤ c ∧ c ≤ 57 ∧ d = c - 48) ∨ (97 ≤ c ∧ c ≤ 102 ∧ d = c - 87) ∨ (65 ≤ c ∧ c ≤ 70 ∧ d = c - 55) := by
  unfold dv at h
  split at h
  · rename_i k; cases h; exact .inl ⟨k.1, k.2, rfl⟩
  · split at h
    · rename_i k; cases h; exact .inr (.inl ⟨k.1, k.2, rfl⟩)
    · split at h
      · rename_i k; cases h; exact .inr (.inr ⟨k.1, k.2, rfl⟩)
      · cases h
theorem dv_none {c : Nat} (h : dv c = none) : ¬ (48 ≤ c ∧ c ≤ 57) ∧ ¬ (97 ≤ c ∧ c ≤ 102) ∧ ¬ (65 ≤ c ∧ c ≤ 70) := by
  unfold dv at h
  split at h
  · cases h
  · split at h
    · cases h
    · split at h
      · cases h
      · exact ⟨by assumption, by assumption, by assumption⟩
theorem dv_lt {c d : Nat} (h : dv c = some d) : d < 16 := by have := dv_cases h; omega
theorem dv_small {c d : Nat} (h : dv c = some d) : c < 128 := by have := dv_cases h; omega
theorem dv_far {c : Nat} (h : 128 ≤ c) : dv c = none := by
  cases k : dv c with
  | none => rfl
  | some d => have := dv_small k; omega
theorem sixteen {n : Nat} (h : n < 16) : n = 0 ∨ n = 1 ∨ n = 2 ∨ n = 3 ∨ n = 4 ∨ n = 5 ∨ n = 6 ∨ n = 7 ∨ n = 8 ∨ n = 9 ∨ n = 10 ∨ n = 11 ∨ n = 12 ∨ n = 13 ∨ n = 14 ∨ n = 15 := by omega
theorem dv_hd {n : Nat} (h : n < 16) : dv (hd n).toNat = some n := by
  rcases sixteen h with rfl | rfl | rfl | rfl | rfl | rfl | rfl | rfl | rfl | rfl | rfl | rfl | rfl | rfl | rfl | rfl <;> rfl
/-- of a row of bytes, behind a number. -/
def wg : Nat → List UInt8 → Option Nat
  | n, [] => some n
  | n, c :: r => match dv c.toNat with
    | some d => wg (16 * n + d) r
    | none => none
theorem wg_c {n d : Nat} {c : UInt8} (h : dv c.toNat = some d) (r : List UInt8) : wg n (c :: r) = wg (16 * n + d) r := by rw [wg, h]
theorem wg_x {n : Nat} {c : UInt8} (h : dv c.toNat = none) (r : List UInt8) : wg n (c :: r) = none := by rw [wg, h]
theorem wg_app : ∀ (l m : List UInt8) (n : Nat), wg n (l ++ m) = (wg n l).bind fun k => wg k m
  | [], m, n => rfl
  | c :: r, m, n => by
    cases h : dv c.toNat with
    | none => rw [List.cons_append, wg_x h, wg_x h]; rfl
    | some d => rw [List.cons_append, wg_c h, wg_c h, wg_app r m]
/-- the number that a row of bytes is. -/
def wrd (l : List UInt8) : Option Nat := if l = [] ∨ 8 < l.length then none else wg 0 l
def wN (l : List UInt8) : Nat := (wrd l).getD 0
def wT (l : List UInt8) : Bool := (wrd l).isSome
theorem wrd_nil : wrd [] = none := rfl
theorem wrd_long {l : List UInt8} (h : 8 < l.length) : wrd l = none := if_pos (.inr h)
theorem wrd_in {l : List UInt8} (h : l ≠ []) (h8 : l.length ≤ 8) : wrd l = wg 0 l := if_neg (fun k => by rcases k with k | k; exact h k; omega)
theorem w_yes {l : List UInt8} {n : Nat} (h : wrd l = some n) : wN l = n ∧ wT l = true := by unfold wN wT; rw [h]; exact ⟨rfl, rfl⟩
theorem w_no {l : List UInt8} (h : wrd l = none) : wN l = 0 ∧ wT l = false := by unfold wN wT; rw [h]; exact ⟨rfl, rfl⟩
theorem wg_go (s : ByteArray) (p n d : Nat) (hp : p < s.size) (h : dv (bt s p) = some d) : wg n ((L s).drop p) = wg (16 * n + d) ((L s).drop (p + 1)) := by
  obtain ⟨c, e1, e2, _⟩ := drop_at s p hp
  rw [e2, wg_c (by rw [e1]; exact h)]
theorem wg_stop (s : ByteArray) (p n : Nat) (hp : p < s.size) (h : dv (bt s p) = none) : wg n ((L s).drop p) = none := by
  obtain ⟨c, e1, e2, _⟩ := drop_at s p hp
  rw [e2, wg_x (by rw [e1]; exact h)]
theorem wg_done (s : ByteArray) (p n : Nat) (hp : s.size ≤ p) : wg n ((L s).drop p) = some n := by rw [drop_end s p hp]; rfl
theorem wg_le : ∀ (l : List UInt8) (n m : Nat), wg n l = some m → m < (n + 1) * 16 ^ l.length
  | [], n, m, h => by cases h; simp
  | c :: r, n, m, h => by
    cases k : dv c.toNat with
    | none => rw [wg_x k] at h; cases h
    | some d =>
      rw [wg_c k] at h
      have a := wg_le r _ m h
      have b := dv_lt k
      rw [List.length_cons, Nat.pow_succ, Nat.mul_comm (16 ^ r.length) 16, ← Nat.mul_assoc]
      exact Nat.lt_of_lt_of_le a (Nat.mul_le_mul_right _ (by omega))
theorem wN_lt (l : List UInt8) : wN l < 4294967296 := by
  cases h : wrd l with
  | none => rw [(w_no h).1]; decide
  | some n =>
    rw [(w_yes h).1]
    unfold wrd at h
    split at h
    · cases h
    · rename_i k
      have a := wg_le l 0 n h
      have b : 16 ^ l.length ≤ 16 ^ 8 := Nat.pow_le_pow_right (by decide) (by omega)
      have c : (16 : Nat) ^ 8 = 4294967296 := rfl
      omega
theorem or_digit (x d : Nat) (hx : x < 268435456) (hd : d < 16) : bits .or .u32 ((x : Int) * 16) (d : Int) = ((16 * x + d : Nat) : Int) := by
  have e : (x : Int) * 16 = ((x * 16 : Nat) : Int) := by rw [Int.natCast_mul]; rfl
  rw [e, u32_or_nat _ _ (by omega) (by omega), show x * 16 = x * 2 ^ 4 from rfl, ← Nat.shiftLeft_eq, ← Nat.shiftLeft_add_eq_or_of_lt (by omega), Nat.shiftLeft_eq]
  congr 1
  omega

/-! hashes -/
/-- the word at a place of a text. -/
def wat (s : ByteArray) (k : Nat) : List UInt8 := L ((wordsS s).getD k ⟨#[]⟩)
def hT (s : ByteArray) : Bool := decide ((wordsS s).length = 5) && (wT (wat s 0) && wT (wat s 1) && wT (wat s 2) && wT (wat s 3) && wT (wat s 4))
def hN (s : ByteArray) (k : Nat) : Nat := if hT s = true then wN (wat s k) else 0
theorem hT_iff (s : ByteArray) : hT s = true ↔ (wordsS s).length = 5 ∧ ∀ k, k < 5 → wT (wat s k) = true := by
  unfold hT
  simp only [Bool.and_eq_true, decide_eq_true_eq]
  constructor
  · rintro ⟨h, ⟨⟨⟨h0, h1⟩, h2⟩, h3⟩, h4⟩
    refine ⟨h, fun k hk => ?_⟩
    rcases (show k = 0 ∨ k = 1 ∨ k = 2 ∨ k = 3 ∨ k = 4 by omega) with rfl | rfl | rfl | rfl | rfl <;> assumption
  · rintro ⟨h, k⟩
    exact ⟨h, ⟨⟨⟨k 0 (by decide), k 1 (by decide)⟩, k 2 (by decide)⟩, k 3 (by decide)⟩, k 4 (by decide)⟩
theorem hT_len {s : ByteArray} (h : (wordsS s).length ≠ 5) : hT s = false := by
  cases k : hT s with
  | false => rfl
  | true => exact absurd ((hT_iff s).1 k).1 h
theorem hT_bad {s : ByteArray} {k : Nat} (hk : k < 5) (h : wT (wat s k) = false) : hT s = false := by
  cases e : hT s with
  | false => rfl
  | true => have := ((hT_iff s).1 e).2 k hk; rw [h] at this; cases this
theorem hN_no {s : ByteArray} (h : hT s = false) (k : Nat) : hN s k = 0 := if_neg (by rw [h]; decide)
theorem hN_yes {s : ByteArray} (h : hT s = true) (k : Nat) : hN s k = wN (wat s k) := if_pos h
theorem hN_lt (s : ByteArray) (k : Nat) : hN s k < 4294967296 := by
  unfold hN
  split
  · exact wN_lt _
  · decide

/-! digits -/
/-- the last k digits of a number. -/
def hk : Nat → Nat → List UInt8
  | 0, _ => []
  | k + 1, n => hk k (n / 16) ++ [hd (n % 16)]
theorem hk_len : ∀ k n, (hk k n).length = k
  | 0, _ => rfl
  | k + 1, n => by rw [hk, List.length_append, hk_len k]; rfl
theorem hk_get : ∀ k n i, i < k → (hk k n)[i]? = some (hd (n / 16 ^ (k - 1 - i) % 16))
  | 0, n, i, h => by omega
  | k + 1, n, i, h => by
    rw [hk]
    have hl := hk_len k (n / 16)
    by_cases hik : i < k
    · rw [List.getElem?_append_left (by omega), hk_get k _ _ hik, Nat.div_div_eq_div_mul, show k + 1 - 1 - i = (k - 1 - i) + 1 by omega, Nat.pow_succ, Nat.mul_comm]
    · obtain rfl : i = k := by omega
      rw [List.getElem?_append_right (by omega), hl, show i - i = 0 by omega, show i + 1 - 1 - i = 0 by omega]
      simp
theorem hk_zero : ∀ k, hk k 0 = List.replicate k 48
  | 0 => rfl
  | k + 1 => by rw [hk, Nat.zero_div, hk_zero k, List.replicate_succ']; rfl
/-- how many digits a number has without noughts ahead, one at least. -/
def nd (n : Nat) : Nat := if n < 16 then 1 else if n < 256 then 2 else if n < 4096 then 3 else if n < 65536 then 4 else if n < 1048576 then 5 else if n < 16777216 then 6 else if n < 268435456 then 7 else 8
theorem nd_bd (n : Nat) : 1 ≤ nd n ∧ nd n ≤ 8 := by
  unfold nd
  repeat' split
  all_goals decide
theorem hk_pad : ∀ (z k n : Nat), n < 16 ^ k → hk (z + k) n = List.replicate z 48 ++ hk k n
  | z, 0, n, h => by
    obtain rfl : n = 0 := by simpa using h
    rw [Nat.add_zero, hk_zero, hk, List.append_nil]
  | z, k + 1, n, h => by
    have h' : n / 16 < 16 ^ k := by rw [Nat.pow_succ] at h; omega
    rw [← Nat.add_assoc, hk, hk, hk_pad z k _ h', List.append_assoc]
theorem nd_lt {n : Nat} (h : n < 4294967296) : n < 16 ^ nd n := by
  unfold nd
  repeat' split
  all_goals (simp only [show (16 : Nat) ^ 1 = 16 from rfl, show (16 : Nat) ^ 2 = 256 from rfl, show (16 : Nat) ^ 3 = 4096 from rfl, show (16 : Nat) ^ 4 = 65536 from rfl, show (16 : Nat) ^ 5 = 1048576 from rfl, show (16 : Nat) ^ 6 = 16777216 from rfl, show (16 : Nat) ^ 7 = 268435456 from rfl, show (16 : Nat) ^ 8 = 4294967296 from rfl]; omega)
theorem nd_ge {n : Nat} (h : 1 < nd n) : 16 ^ (nd n - 1) ≤ n := by
  revert h
  unfold nd
  repeat' split
  all_goals intro h
  all_goals first | omega | (simp only [show (16 : Nat) ^ (2 - 1) = 16 from rfl, show (16 : Nat) ^ (3 - 1) = 256 from rfl, show (16 : Nat) ^ (4 - 1) = 4096 from rfl, show (16 : Nat) ^ (5 - 1) = 65536 from rfl, show (16 : Nat) ^ (6 - 1) = 1048576 from rfl, show (16 : Nat) ^ (7 - 1) = 16777216 from rfl, show (16 : Nat) ^ (8 - 1) = 268435456 from rfl] ; omega)
/-- a number's eight digits: noughts, and the others. -/
theorem hk_eight {n : Nat} (h : n < 4294967296) : List.replicate (8 - nd n) 48 ++ hk (nd n) n = hk 8 n := by
  have b := nd_bd n
  rw [← hk_pad _ _ _ (nd_lt h), show 8 - nd n + nd n = 8 by omega]
theorem wg_hk : ∀ (k n m : Nat), n < 16 ^ k → wg m (hk k n) = some (m * 16 ^ k + n)
  | 0, n, m, h => by
    obtain rfl : n = 0 := by simpa using h
    simp [hk, wg]
  | k + 1, n, m, h => by
    have h' : n / 16 < 16 ^ k := by rw [Nat.pow_succ] at h; omega
    rw [hk, wg_app, wg_hk k _ m h']
    show wg (m * 16 ^ k + n / 16) [hd (n % 16)] = _
    rw [wg_c (dv_hd (Nat.mod_lt _ (by decide))), wg, Nat.pow_succ, ← Nat.mul_assoc]
    congr 1
    omega
/-- a number's digits, so many that it has no more, are that number. -/
theorem wrd_hk {k n : Nat} (h1 : 1 ≤ k) (h8 : k ≤ 8) (h : n < 16 ^ k) : wrd (hk k n) = some n := by
  rw [wrd_in (fun e => by have := hk_len k n; rw [e] at this; simp at this; omega) (by rw [hk_len]; exact h8), wg_hk k n 0 h]
  simp

/-! texts of five numbers -/
def txL (f : Nat → Nat) : Nat → List UInt8
  | 0 => []
  | k + 1 => txL f k ++ (if k = 0 then [] else [32]) ++ hk 8 (f k)
def txt (f : Nat → Nat) : ByteArray := B (txL f 5)
theorem txL_first (f : Nat → Nat) : txL f 1 = hk 8 (f 0) := rfl
theorem txL_next (f : Nat → Nat) (k : Nat) (h : k ≠ 0) : txL f (k + 1) = txL f k ++ [32] ++ hk 8 (f k) := by rw [txL, if_neg h]
theorem txL_len (f : Nat → Nat) : ∀ k, (txL f k).length ≤ 9 * k
  | 0 => by simp [txL]
  | k + 1 => by
    have := txL_len f k
    rw [txL, List.length_append, List.length_append, hk_len]
    split <;> simp <;> omega
end Go.Proofs.YtldieebiicblbaaGreatDoor.nx

/-
  Plain mathematics of the calendar: leap years, days of months and years, the number of a date, and that numbers and dates are each other's. Nothing of any program. Conditions: years from 1 to 9999 where said.
-/
namespace Go.Proofs.YtldieebiicblbaaGreatDoor.cal
set_option linter.unusedVariables false
set_option maxRecDepth 100000

def leapB (y : Int) : Bool := decide (y % 4 = 0 ∧ y % 100 ≠ 0 ∨ y % 400 = 0)
def lp (y : Int) : Int := if leapB y = true then 1 else 0
def len (m : Int) : Int := if m = 2 then 28 else if m = 4 ∨ m = 6 ∨ m = 9 ∨ m = 11 then 30 else 31
def dim (y m : Int) : Int := if m = 2 then 28 + lp y else len m
def cum0 (m : Int) : Int := if m ≤ 1 then 0 else if m = 2 then 31 else if m = 3 then 59 else if m = 4 then 90 else if m = 5 then 120 else if m = 6 then 151 else if m = 7 then 181 else if m = 8 then 212 else if m = 9 then 243 else if m = 10 then 273 else if m = 11 then 304 else if m = 12 then 334 else 365
def cum (y m : Int) : Int := cum0 m + if 3 ≤ m then lp y else 0
def dby (y : Int) : Int := 365 * (y - 1) + (y - 1) / 4 - (y - 1) / 100 + (y - 1) / 400
def num (y m d : Int) : Int := -719162 + dby y + cum y m + d - 1
def Vld (y m d : Int) : Prop := 1 ≤ y ∧ y ≤ 9999 ∧ 1 ≤ m ∧ m ≤ 12 ∧ 1 ≤ d ∧ d ≤ dim y m

instance (y m d : Int) : Decidable (Vld y m d) := by unfold Vld; infer_instance

theorem lp_01 (y : Int) : 0 ≤ lp y ∧ lp y ≤ 1 := by unfold lp; split <;> omega
theorem lp_yes {y : Int} (h : leapB y = true) : lp y = 1 := by unfold lp; rw [if_pos h]
theorem lp_no {y : Int} (h : leapB y = false) : lp y = 0 := by unfold lp; rw [if_neg (by simp [h])]
theorem leapB_iff (y : Int) : leapB y = true ↔ (y % 4 = 0 ∧ y % 100 ≠ 0 ∨ y % 400 = 0) := by unfold leapB; exact decide_eq_true_iff
theorem leapB_not (y : Int) : leapB y = false ↔ ¬ (y % 4 = 0 ∧ y % 100 ≠ 0 ∨ y % 400 = 0) := by unfold leapB; exact decide_eq_false_iff_not
theorem leapB_400 (y : Int) : leapB (y + 400) = leapB y := by
  rw [Bool.eq_iff_iff, leapB_iff, leapB_iff]; omega

theorem twelve {m : Int} (h1 : 1 ≤ m) (h2 : m ≤ 12) : m = 1 ∨ m = 2 ∨ m = 3 ∨ m = 4 ∨ m = 5 ∨ m = 6 ∨ m = 7 ∨ m = 8 ∨ m = 9 ∨ m = 10 ∨ m = 11 ∨ m = 12 := by omega
theorem dim_bd (y m : Int) : 28 ≤ dim y m ∧ dim y m ≤ 31 := by
  have := lp_01 y
  unfold dim len; repeat' split
  all_goals omega
theorem len_bd (m : Int) : 28 ≤ len m ∧ len m ≤ 31 := by
  unfold len; repeat' split
  all_goals omega
theorem dim_feb (y : Int) : dim y 2 = 28 + lp y := by unfold dim; rw [if_pos rfl]
theorem dim_other {y m : Int} (h : m ≠ 2) : dim y m = len m := by unfold dim; rw [if_neg h]
theorem dim_dec (y : Int) : dim y 12 = 31 := rfl
theorem cum_succ (y m : Int) (h1 : 1 ≤ m) (h2 : m ≤ 12) : cum y (m + 1) = cum y m + dim y m := by
  rcases twelve h1 h2 with rfl | rfl | rfl | rfl | rfl | rfl | rfl | rfl | rfl | rfl | rfl | rfl <;> simp [cum, cum0, dim, len] <;> omega
theorem cum_one (y : Int) : cum y 1 = 0 := by simp [cum, cum0]
theorem cum_dec (y : Int) : cum y 12 = 334 + lp y := by simp [cum, cum0]
theorem cum_end (y : Int) : cum y 13 = 365 + lp y := by simp [cum, cum0]
theorem cum_bd (y m : Int) (h1 : 1 ≤ m) (h2 : m ≤ 12) : 0 ≤ cum y m ∧ cum y m ≤ 334 + lp y := by
  have := lp_01 y
  rcases twelve h1 h2 with rfl | rfl | rfl | rfl | rfl | rfl | rfl | rfl | rfl | rfl | rfl | rfl <;> simp [cum, cum0] <;> omega
theorem cum_last (y m : Int) (h1 : 1 ≤ m) (h2 : m ≤ 12) : cum y m + dim y m ≤ 365 + lp y := by
  have := lp_01 y
  rcases twelve h1 h2 with rfl | rfl | rfl | rfl | rfl | rfl | rfl | rfl | rfl | rfl | rfl | rfl <;> simp [cum, cum0, dim, len] <;> omega
theorem cum_lt (y m k : Int) (h1 : 1 ≤ m) (h2 : m < k) (h3 : k ≤ 12) : cum y m + dim y m ≤ cum y k := by
  obtain ⟨n, rfl⟩ : ∃ n : Nat, k = m + 1 + n := ⟨(k - m - 1).toNat, by omega⟩
  induction n with
  | zero => rw [← cum_succ y m h1 (by omega)]; simp
  | succ n ih =>
    have := ih (by omega) (by omega)
    have h := cum_succ y (m + 1 + n) (by omega) (by omega)
    have hd := dim_bd y (m + 1 + n)
    rw [show m + 1 + ((n + 1 : Nat) : Int) = m + 1 + n + 1 by omega, h]
    omega

theorem dby_one : dby 1 = 0 := by decide
theorem dby_top : dby 10000 = 3652059 := by decide
theorem dby_succ (y : Int) (h : 1 ≤ y) : dby (y + 1) = dby y + 365 + lp y := by
  cases hl : leapB y
  · rw [lp_no hl]
    rw [leapB_not] at hl
    unfold dby
    omega
  · rw [lp_yes hl]
    rw [leapB_iff] at hl
    unfold dby
    omega
theorem dby_mono (a b : Int) (h0 : 1 ≤ a) (h : a ≤ b) : dby a ≤ dby b := by unfold dby; omega
theorem dby_lt (a b : Int) (h0 : 1 ≤ a) (h : a < b) : dby a + 365 + lp a ≤ dby b := by
  rw [← dby_succ a h0]; exact dby_mono _ _ (by omega) (by omega)
theorem dby_bd (y : Int) (h0 : 1 ≤ y) (h : y ≤ 10000) : 0 ≤ dby y ∧ dby y ≤ 3652059 := by
  have h1 := dby_mono 1 y (by omega) h0
  have h2 := dby_mono y 10000 h0 h
  rw [dby_one] at h1; rw [dby_top] at h2
  exact ⟨h1, h2⟩
theorem dby_400 (y : Int) : dby (y + 400) = dby y + 146097 := by unfold dby; omega

/-! the year of a day: four spans -/
theorem dby_parts (a b c d : Int) (b0 : 0 ≤ b) (b1 : b ≤ 3) (c0 : 0 ≤ c) (c1 : c ≤ 24) (d0 : 0 ≤ d) (d1 : d ≤ 3) :
    dby (1 + a * 400 + b * 100 + c * 4 + d) = 146097 * a + 36524 * b + 1461 * c + 365 * d := by
  unfold dby
  have e : 1 + a * 400 + b * 100 + c * 4 + d - 1 = a * 400 + b * 100 + c * 4 + d := by omega
  rw [e]
  have q1 : (a * 400 + b * 100 + c * 4 + d) / 4 = 100 * a + 25 * b + c := by omega
  have q2 : (a * 400 + b * 100 + c * 4 + d) / 100 = 4 * a + b := by omega
  have q3 : (a * 400 + b * 100 + c * 4 + d) / 400 = a := by omega
  rw [q1, q2, q3]; omega
theorem year_of (D a b c d x1 x2 x3 x4 : Int) (h0 : 0 ≤ D) (h1 : D ≤ 3652058)
    (ha : a = min (D / 146097) 24) (e1 : x1 = D - a * 146097) (hb : b = min (x1 / 36524) 3) (e2 : x2 = x1 - b * 36524)
    (hc : c = min (x2 / 1461) 24) (e3 : x3 = x2 - c * 1461) (hd : d = min (x3 / 365) 3) (e4 : x4 = x3 - d * 365) :
    1 ≤ 1 + a * 400 + b * 100 + c * 4 + d ∧ 1 + a * 400 + b * 100 + c * 4 + d ≤ 9999 ∧ 0 ≤ x4 ∧ x4 < 365 + lp (1 + a * 400 + b * 100 + c * 4 + d) ∧ dby (1 + a * 400 + b * 100 + c * 4 + d) + x4 = D := by
  have a0 : 0 ≤ a := by omega
  have a1 : a ≤ 24 := by omega
  have b0 : 0 ≤ b := by omega
  have b1 : b ≤ 3 := by omega
  have c0 : 0 ≤ c := by omega
  have c1 : c ≤ 24 := by omega
  have d0 : 0 ≤ d := by omega
  have d1 : d ≤ 3 := by omega
  have x10 : 0 ≤ x1 ∧ x1 ≤ 146096 := by omega
  have x20 : 0 ≤ x2 ∧ x2 ≤ 36524 ∧ (b < 3 → x2 ≤ 36523) := by omega
  have x30 : 0 ≤ x3 ∧ x3 ≤ 1460 ∧ (c = 24 → b < 3 → x3 ≤ 1459) := by omega
  have x40 : 0 ≤ x4 ∧ x4 ≤ 365 ∧ (d < 3 → x4 ≤ 364) ∧ (c = 24 → b < 3 → x4 ≤ 364) := by omega
  have hy : dby (1 + a * 400 + b * 100 + c * 4 + d) = 146097 * a + 36524 * b + 1461 * c + 365 * d := dby_parts a b c d b0 b1 c0 c1 d0 d1
  refine ⟨by omega, by omega, x40.1, ?_, by rw [hy]; omega⟩
  cases hl : leapB (1 + a * 400 + b * 100 + c * 4 + d)
  · rw [lp_no hl]
    rw [leapB_not] at hl
    omega
  · rw [lp_yes hl]; omega

/-! numbers and dates -/
theorem num_lo {y m d : Int} (h : Vld y m d) : dby y ≤ num y m d + 719162 ∧ num y m d + 719162 < dby y + 365 + lp y := by
  obtain ⟨h1, h2, h3, h4, h5, h6⟩ := h
  have := cum_bd y m h3 h4
  have := cum_last y m h3 h4
  unfold num; omega
theorem num_bd {y m d : Int} (h : Vld y m d) : -719162 ≤ num y m d ∧ num y m d ≤ 2932896 := by
  have h1 := num_lo h
  have h2 := dby_bd y h.1 (by have := h.2.1; omega)
  have h3 := dby_succ y h.1
  have h4 := dby_bd (y + 1) (by have := h.1; omega) (by have := h.2.1; omega)
  omega
theorem num_lt_year {y m d z k e : Int} (h : Vld y m d) (g : Vld z k e) (hy : y < z) : num y m d < num z k e := by
  have h1 := num_lo h
  have h2 := num_lo g
  have h3 := dby_lt y z h.1 hy
  omega
theorem num_lt_month {y m d k e : Int} (h : Vld y m d) (g : Vld y k e) (hm : m < k) : num y m d < num y k e := by
  have := cum_lt y m k h.2.2.1 hm g.2.2.2.1
  have := h.2.2.2.2.2
  have := g.2.2.2.2.1
  unfold num; omega
theorem num_lt_day (y m d e : Int) (h : d < e) : num y m d < num y m e := by unfold num; omega
theorem num_lt_iff {y m d z k e : Int} (h : Vld y m d) (g : Vld z k e) : num y m d < num z k e ↔ (y < z ∨ y = z ∧ (m < k ∨ m = k ∧ d < e)) := by
  constructor
  · intro hl
    rcases Int.lt_trichotomy y z with hy | rfl | hy
    · exact Or.inl hy
    · rcases Int.lt_trichotomy m k with hm | rfl | hm
      · exact Or.inr ⟨rfl, Or.inl hm⟩
      · refine Or.inr ⟨rfl, Or.inr ⟨rfl, ?_⟩⟩
        unfold num at hl; omega
      · have := num_lt_month g h hm; omega
    · have := num_lt_year g h hy; omega
  · rintro (hy | ⟨rfl, hm | ⟨rfl, hd⟩⟩)
    · exact num_lt_year h g hy
    · exact num_lt_month h g hm
    · exact num_lt_day _ _ _ _ hd
theorem num_inj {y m d z k e : Int} (h : Vld y m d) (g : Vld z k e) (hn : num y m d = num z k e) : y = z ∧ m = k ∧ d = e := by
  have h1 := num_lt_iff h g
  have h2 := num_lt_iff g h
  have h3 : ¬ (y < z ∨ y = z ∧ (m < k ∨ m = k ∧ d < e)) := fun h => by have := h1.2 h; omega
  have h4 : ¬ (z < y ∨ z = y ∧ (k < m ∨ k = m ∧ e < d)) := fun h => by have := h2.2 h; omega
  omega
theorem num_of (y m r : Int) : num y m (r - cum y m + 1) = -719162 + dby y + r := by unfold num; omega

/-! the next date -/
theorem next_day {y m d : Int} (h : Vld y m d) (hd : d < dim y m) : Vld y m (d + 1) ∧ num y m (d + 1) = num y m d + 1 := by
  obtain ⟨h1, h2, h3, h4, h5, h6⟩ := h
  exact ⟨⟨h1, h2, h3, h4, by omega, by omega⟩, by unfold num; omega⟩
theorem next_month {y m : Int} (h1 : 1 ≤ y) (h2 : y ≤ 9999) (h3 : 1 ≤ m) (h4 : m < 12) : Vld y (m + 1) 1 ∧ num y (m + 1) 1 = num y m (dim y m) + 1 := by
  have hd := dim_bd y (m + 1)
  refine ⟨⟨h1, h2, by omega, by omega, by omega, by omega⟩, ?_⟩
  have := cum_succ y m h3 (by omega)
  unfold num; omega
theorem next_year {y : Int} (h1 : 1 ≤ y) (h2 : y < 9999) : Vld (y + 1) 1 1 ∧ num (y + 1) 1 1 = num y 12 31 + 1 := by
  have hd := dim_bd (y + 1) 1
  refine ⟨⟨by omega, by omega, by omega, by omega, by omega, by omega⟩, ?_⟩
  have h3 := dby_succ y h1
  have h4 := cum_dec y
  have h5 := cum_one (y + 1)
  unfold num; omega
end Go.Proofs.YtldieebiicblbaaGreatDoor.cal

/-
  What day's Leap, Last and daysAhead answer, where the two tables of package day hold what their initialisers lay. Conditions: those tables; the arguments are numbers of 64 bits.
-/
namespace Go.Proofs.YtldieebiicblbaaGreatDoor.day
open Go.ChangeShapes Go.WideShapes Go.ChangeAt Go.RowKit
open cal
set_option linter.unusedVariables false
set_option maxRecDepth 100000

def lens : List Int := [31, 28, 31, 30, 31, 30, 31, 31, 30, 31, 30, 31]
def spanCells : List Value := [.int .i64 400, .int .i64 146097, .int .i64 24, .int .i64 100, .int .i64 36524, .int .i64 3, .int .i64 4, .int .i64 1461, .int .i64 24, .int .i64 1, .int .i64 365, .int .i64 3]
/-- the two tables, as they are laid. -/
def Tabs (w : World) : Prop := (∀ i : Nat, i < 12 → w.cell? ⟨3, i, none⟩ = some (.int .i64 (lens.getD i 0))) ∧ w.rangeAt 4 0 spanCells

theorem lens_at (m : Int) (h1 : 1 ≤ m) (h2 : m ≤ 12) : lens.getD (m - 1).toNat 0 = len m := by
  rcases twelve h1 h2 with rfl | rfl | rfl | rfl | rfl | rfl | rfl | rfl | rfl | rfl | rfl | rfl <;> rfl
theorem Tabs.len {w : World} (T : Tabs w) (m : Int) (h1 : 1 ≤ m) (h2 : m ≤ 12) : w.cell? ⟨3, (m - 1).toNat, none⟩ = some (.int .i64 (len m)) := by
  rw [T.1 _ (by omega), lens_at m h1 h2]
theorem ret_bool {b : Bool} (h : b = true) : Ending.returned (.bool b) = .returned (.bool true) := by rw [h]
theorem ret_b {a b : Bool} (h : a = b) : Ending.returned (.bool a) = .returned (.bool b) := by rw [h]
theorem ret_i {a b : Int} (h : a = b) : Ending.returned (.int .i64 a) = .returned (.int .i64 b) := by rw [h]

theorem below_size {w w' : World} {n b o : Nat} {v : Value} (h : w.cell? ⟨b, o, none⟩ = some v) : b < w.heap.size := by
  rcases Nat.lt_or_ge b w.heap.size with hl | hl
  · exact hl
  · exfalso
    simp [World.cell?, Array.getElem?_eq_none hl] at h
theorem Tabs.below {w w' : World} (T : Tabs w) (hb : Below w.heap.size w w') : Tabs w' := by
  have z0 : 3 < w.heap.size := below_size (w' := w) (n := 0) (T.1 0 (by omega))
  have z1 : 4 < w.heap.size := below_size (w' := w) (n := 0) (T.2 0 _ rfl)
  exact ⟨fun i hi => by rw [hb.cell (p := ⟨_, i, none⟩) z0]; exact T.1 i hi, fun j v hv => by rw [hb.cell (p := ⟨_, 0 + j, none⟩) z1]; exact T.2 j v hv⟩

/-! Leap -/
theorem tmod_zero (y k : Int) (hk : 0 < k) : y.tmod k = 0 ↔ y % k = 0 := by
  rw [← Int.dvd_iff_tmod_eq_zero, ← Int.dvd_iff_emod_eq_zero]
theorem leap_any (y : Int) (w : World) :
    Calls Tryz.prog 131 #[.int .i64 y] w fun e w' => e = .returned (.bool (leapB y)) ∧ w = w' := by
  have p4 := tmod_zero y 4 (by omega)
  have p100 := tmod_zero y 100 (by omega)
  have p400 := tmod_zero y 400 (by omega)
  by_cases h4 : y % 4 = 0
  · have a4 : (y.tmod 4 == 0) = true := by simpa using p4.2 h4
    by_cases h100 : y % 100 = 0
    · have a100 : (y.tmod 100 != 0) = false := by simpa using p100.2 h100
      by_cases h400 : y % 400 = 0
      · have a400 : (y.tmod 400 == 0) = true := by simpa using p400.2 h400
        have E : Hid (leapB y = true) := (leapB_iff y).2 (Or.inr h400)
        clear p4 p100 p400 h4 h100 h400
        go_enter Tryz.func131, Tryz.ntmps131
        go_wp2
        go_ret
        exact ⟨ret_b (E.out).symm, rfl⟩
      · have a400 : (y.tmod 400 == 0) = false := by simpa using fun h => h400 (p400.1 h)
        have E : Hid (leapB y = false) := (leapB_not y).2 (by omega)
        clear p4 p100 p400 h4 h100 h400
        go_enter Tryz.func131, Tryz.ntmps131
        go_wp2
        go_ret
        exact ⟨ret_b (E.out).symm, rfl⟩
    · have a100 : (y.tmod 100 != 0) = true := by simpa using fun h => h100 (p100.1 h)
      have E : Hid (leapB y = true) := (leapB_iff y).2 (Or.inl ⟨h4, h100⟩)
      clear p4 p100 p400 h4 h100
      go_enter Tryz.func131, Tryz.ntmps131
      go_wp2
      go_ret
      exact ⟨ret_b (E.out).symm, rfl⟩
  · have a4 : (y.tmod 4 == 0) = false := by simpa using fun h => h4 (p4.1 h)
    have a400 : (y.tmod 400 == 0) = false := by simpa using fun h => h4 (by have := p400.1 h; omega)
    have E : Hid (leapB y = false) := (leapB_not y).2 (by omega)
    clear p4 p100 p400 h4
    go_enter Tryz.func131, Tryz.ntmps131
    go_wp2
    go_ret
    exact ⟨ret_b (E.out).symm, rfl⟩

/-! Last -/
theorem last_no (y m : Int) (w : World) (h : y < 1 ∨ 9999 < y ∨ m < 1 ∨ 12 < m) :
    Calls Tryz.prog 119 #[.int .i64 y, .int .i64 m] w fun e w' => e = .returned (.tuple #[.int .i64 0, .bool false]) ∧ w = w' := by
  by_cases h1 : y < 1
  · clear h
    go_enter Tryz.func119, Tryz.ntmps119
    go_wp2
    go_ret2
    exact ⟨rfl, rfl⟩
  by_cases h2 : 9999 < y
  · clear h
    go_enter Tryz.func119, Tryz.ntmps119
    go_wp2
    go_ret2
    exact ⟨rfl, rfl⟩
  by_cases h3 : m < 1
  · clear h
    go_enter Tryz.func119, Tryz.ntmps119
    go_wp2
    go_ret2
    exact ⟨rfl, rfl⟩
  have h4 : 12 < m := by omega
  clear h
  go_enter Tryz.func119, Tryz.ntmps119
  go_wp2
  go_ret2
  exact ⟨rfl, rfl⟩
theorem last_yes (y m : Int) (w : World) (T : Tabs w) (h1 : 1 ≤ y) (h2 : y ≤ 9999) (h3 : 1 ≤ m) (h4 : m ≤ 12) :
    Calls Tryz.prog 119 #[.int .i64 y, .int .i64 m] w fun e w' => e = .returned (.tuple #[.int .i64 (dim y m), .bool true]) ∧ w = w' := by
  have hc := T.len m h3 h4
  have hl := len_bd m
  by_cases hm : m = 2
  · subst hm
    have C := Lib.hid (fun W => leap_any y W)
    have e : len 2 = 28 := rfl
    rw [e, show ((2 : Int) - 1).toNat = 1 from rfl] at hc
    clear hl e
    cases hl : leapB y
    · rw [hl] at C
      have E := dim_feb y
      rw [lp_no hl] at E
      rw [E]
      clear hl T E
      go_enter Tryz.func119, Tryz.ntmps119
      go_wp2_with (first
        | (go_at_call 131; (with_reducible refine (C.out _).mono ?_; rintro e w' ⟨rfl, rfl⟩)))
      go_ret2
      exact ⟨rfl, rfl⟩
    · rw [hl] at C
      have E := dim_feb y
      rw [lp_yes hl] at E
      rw [E]
      clear hl T E
      go_enter Tryz.func119, Tryz.ntmps119
      go_wp2_with (first
        | (go_at_call 131; (with_reducible refine (C.out _).mono ?_; rintro e w' ⟨rfl, rfl⟩)))
      go_ret2
      exact ⟨rfl, rfl⟩
  · have e2 : (m == 2) = false := by simpa using hm
    rw [dim_other hm]
    generalize len m = L at *
    rw [show (m - 1).toNat = m.toNat - 1 by omega] at hc
    clear hm T
    go_enter Tryz.func119, Tryz.ntmps119
    go_wp2
    go_ret2
    exact ⟨rfl, rfl⟩

end Go.Proofs.YtldieebiicblbaaGreatDoor.day
