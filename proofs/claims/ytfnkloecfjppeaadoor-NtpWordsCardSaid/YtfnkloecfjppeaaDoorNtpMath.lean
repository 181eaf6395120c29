/-
  Plain mathematics of layer 7: what a byte is worth in base 16, words and hashes of texts, digits of a number, texts of five numbers. Nothing of any program. Conditions: as said.
-/
import Derived.Test.YtfnkloecfjppeaaDoorLinesCur
import Derived.Test.YtfnkloecfjppeaaDoorShaHex
namespace Go.Proofs.YtfnkloecfjppeaaDoor.nx
open lx
open sha (hd)
set_option linter.unusedVariables false

/-- what a byte is worth in base 16. -/
def dv (c : Nat) : Option Nat := if 48 ≤ c ∧ c ≤ 57 then some (c - 48) else if 97 ≤ c ∧ c ≤ 102 then some (c - 87) else if 65 ≤ c ∧ c ≤ 70 then some (c - 55) else none
theorem dv_cases {c d : Nat} (h : dv c = some d) : (48 ≤ c ∧ c ≤ 57 ∧ d = c - 48) ∨ (97 ≤ c ∧ c ≤ 102 ∧ d = c - 87) ∨ (65 ≤ c ∧ c ≤ 70 ∧ d = c - 55) := by
  unfold dv at h
  split at h
  · rename_i k; cases h; exact .inl ⟨k.1, k.2, rfl⟩
  · split at h
    · rename_i k; cases h; exact .inr (.inl ⟨k.1, k.2, rfl⟩)
    · split at h
      · rename_i k; cases h; exact .inr (.inr ⟨k.1, k.2, rfl⟩)
      · cases h
theorem dv_none {c : Nat} (h : dv c = none) : ¬ (48 ≤ c ∧ c ≤ 57) ∧ ¬ (97 ≤ c ∧ c ≤ 102) ∧ ¬ (65 ≤ c ∧ c ≤ 70) := by
  unfold dv at h
  split at h
  · cases h
  · split at h
    · cases h
    · split at h
      · cases h
      · exact ⟨by assumption, by assumption, by assumption⟩
theorem dv_lt {c d : Nat} (h : dv c = some d) : d < 16 := by have := dv_cases h; omega
theorem dv_small {c d : Nat} (h : dv c = some d) : c < 128 := by have := dv_cases h; omega
theorem dv_far {c : Nat} (h : 128 ≤ c) : dv c = none := by
  cases k : dv c with
  | none => rfl
  | some d => have := dv_small k; omega
theorem sixteen {n : Nat} (h : n < 16) : n = 0 ∨ n = 1 ∨ n = 2 ∨ n = 3 ∨ n = 4 ∨ n = 5 ∨ n = 6 ∨ n = 7 ∨ n = 8 ∨ n = 9 ∨ n = 10 ∨ n = 11 ∨ n = 12 ∨ n = 13 ∨ n = 14 ∨ n = 15 := by omega
theorem dv_hd {n : Nat} (h : n < 16) : dv (hd n).toNat = some n := by
  rcases sixteen h with rfl | rfl | rfl | rfl | rfl | rfl | rfl | rfl | rfl | rfl | rfl | rfl | rfl | rfl | rfl | rfl <;> rfl
/-- of a row of bytes, behind a number. -/
def wg : Nat → List UInt8 → Option Nat
  | n, [] => some n
  | n, c :: r => match dv c.toNat with
    | some d => wg (16 * n + d) r
    | none => none
theorem wg_c {n d : Nat} {c : UInt8} (h : dv c.toNat = some d) (r : List UInt8) : wg n (c :: r) = wg (16 * n + d) r := by rw [wg, h]
theorem wg_x {n : Nat} {c : UInt8} (h : dv c.toNat = none) (r : List UInt8) : wg n (c :: r) = none := by rw [wg, h]
theorem wg_app : ∀ (l m : List UInt8) (n : Nat), wg n (l ++ m) = (wg n l).bind fun k => wg k m
  | [], m, n => rfl
  | c :: r, m, n => by
    cases h : dv c.toNat with
    | none => rw [List.cons_append, wg_x h, wg_x h]; rfl
    | some d => rw [List.cons_append, wg_c h, wg_c h, wg_app r m]
/-- the number that a row of bytes is. -/
def wrd (l : List UInt8) : Option Nat := if l = [] ∨ 8 < l.length then none else wg 0 l
def wN (l : List UInt8) : Nat := (wrd l).getD 0
def wT (l : List UInt8) : Bool := (wrd l).isSome
theorem wrd_nil : wrd [] = none := rfl
theorem wrd_long {l : List UInt8} (h : 8 < l.length) : wrd l = none := if_pos (.inr h)
theorem wrd_in {l : List UInt8} (h : l ≠ []) (h8 : l.length ≤ 8) : wrd l = wg 0 l := if_neg (fun k => by rcases k with k | k; exact h k; omega)
theorem w_yes {l : List UInt8} {n : Nat} (h : wrd l = some n) : wN l = n ∧ wT l = true := by unfold wN wT; rw [h]; exact ⟨rfl, rfl⟩
theorem w_no {l : List UInt8} (h : wrd l = none) : wN l = 0 ∧ wT l = false := by unfold wN wT; rw [h]; exact ⟨rfl, rfl⟩
theorem wg_go (s : ByteArray) (p n d : Nat) (hp : p < s.size) (h : dv (bt s p) = some d) : wg n ((L s).drop p) = wg (16 * n + d) ((L s).drop (p + 1)) := by
  obtain ⟨c, e1, e2, _⟩ := drop_at s p hp
  rw [e2, wg_c (by rw [e1]; exact h)]
theorem wg_stop (s : ByteArray) (p n : Nat) (hp : p < s.size) (h : dv (bt s p) = none) : wg n ((L s).drop p) = none := by
  obtain ⟨c, e1, e2, _⟩ := drop_at s p hp
  rw [e2, wg_x (by rw [e1]; exact h)]
theorem wg_done (s : ByteArray) (p n : Nat) (hp : s.size ≤ p) : wg n ((L s).drop p) = some n := by rw [drop_end s p hp]; rfl
theorem wg_le : ∀ (l : List UInt8) (n m : Nat), wg n l = some m → m < (n + 1) * 16 ^ l.length
  | [], n, m, h => by cases h; simp
  | c :: r, n, m, h => by
    cases k : dv c.toNat with
    | none => rw [wg_x k] at h; cases h
    | some d =>
      rw [wg_c k] at h
      have a := wg_le r _ m h
      have b := dv_lt k
      rw [List.length_cons, Nat.pow_succ, Nat.mul_comm (16 ^ r.length) 16, ← Nat.mul_assoc]
      exact Nat.lt_of_lt_of_le a (Nat.mul_le_mul_right _ (by omega))
theorem wN_lt (l : List UInt8) : wN l < 4294967296 := by
  cases h : wrd l with
  | none => rw [(w_no h).1]; decide
  | some n =>
    rw [(w_yes h).1]
    unfold wrd at h
    split at h
    · cases h
    · rename_i k
      have a := wg_le l 0 n h
      have b : 16 ^ l.length ≤ 16 ^ 8 := Nat.pow_le_pow_right (by decide) (by omega)
      have c : (16 : Nat) ^ 8 = 4294967296 := rfl
      omega
theorem or_digit (x d : Nat) (hx : x < 268435456) (hd : d < 16) : bits .or .u32 ((x : Int) * 16) (d : Int) = ((16 * x + d : Nat) : Int) := by
  have e : (x : Int) * 16 = ((x * 16 : Nat) : Int) := by rw [Int.natCast_mul]; rfl
  rw [e, u32_or_nat _ _ (by omega) (by omega), show x * 16 = x * 2 ^ 4 from rfl, ← Nat.shiftLeft_eq, ← Nat.shiftLeft_add_eq_or_of_lt (by omega), Nat.shiftLeft_eq]
  congr 1
  omega

/-! hashes -/
/-- the word at a place of a text. -/
def wat (s : ByteArray) (k : Nat) : List UInt8 := L ((wordsS s).getD k ⟨#[]⟩)
def hT (s : ByteArray) : Bool := decide ((wordsS s).length = 5) && (wT (wat s 0) && wT (wat s 1) && wT (wat s 2) && wT (wat s 3) && wT (wat s 4))
def hN (s : ByteArray) (k : Nat) : Nat := if hT s = true then wN (wat s k) else 0
theorem hT_iff (s : ByteArray) : hT s = true ↔ (wordsS s).length = 5 ∧ ∀ k, k < 5 → wT (wat s k) = true := by
  unfold hT
  simp only [Bool.and_eq_true, decide_eq_true_eq]
  constructor
  · rintro ⟨h, ⟨⟨⟨h0, h1⟩, h2⟩, h3⟩, h4⟩
    refine ⟨h, fun k hk => ?_⟩
    rcases (show k = 0 ∨ k = 1 ∨ k = 2 ∨ k = 3 ∨ k = 4 by omega) with rfl | rfl | rfl | rfl | rfl <;> assumption
  · rintro ⟨h, k⟩
    exact ⟨h, ⟨⟨⟨k 0 (by decide), k 1 (by decide)⟩, k 2 (by decide)⟩, k 3 (by decide)⟩, k 4 (by decide)⟩
theorem hT_len {s : ByteArray} (h : (wordsS s).length ≠ 5) : hT s = false := by
  cases k : hT s with
  | false => rfl
  | true => exact absurd ((hT_iff s).1 k).1 h
theorem hT_bad {s : ByteArray} {k : Nat} (hk : k < 5) (h : wT (wat s k) = false) : hT s = false := by
  cases e : hT s with
  | false => rfl
  | true => have := ((hT_iff s).1 e).2 k hk; rw [h] at this; cases this
theorem hN_no {s : ByteArray} (h : hT s = false) (k : Nat) : hN s k = 0 := if_neg (by rw [h]; decide)
theorem hN_yes {s : ByteArray} (h : hT s = true) (k : Nat) : hN s k = wN (wat s k) := if_pos h
theorem hN_lt (s : ByteArray) (k : Nat) : hN s k < 4294967296 := by
  unfold hN
  split
  · exact wN_lt _
  · decide

/-! digits -/
/-- the last k digits of a number. -/
def hk : Nat → Nat → List UInt8
  | 0, _ => []
  | k + 1, n => hk k (n / 16) ++ [hd (n % 16)]
theorem hk_len : ∀ k n, (hk k n).length = k
  | 0, _ => rfl
  | k + 1, n => by rw [hk, List.length_append, hk_len k]; rfl
theorem hk_get : ∀ k n i, i < k → (hk k n)[i]? = some (hd (n / 16 ^ (k - 1 - i) % 16))
  | 0, n, i, h => by omega
  | k + 1, n, i, h => by
    rw [hk]
    have hl := hk_len k (n / 16)
    by_cases hik : i < k
    · rw [List.getElem?_append_left (by omega), hk_get k _ _ hik, Nat.div_div_eq_div_mul, show k + 1 - 1 - i = (k - 1 - i) + 1 by omega, Nat.pow_succ, Nat.mul_comm]
    · obtain rfl : i = k := by omega
      rw [List.getElem?_append_right (by omega), hl, show i - i = 0 by omega, show i + 1 - 1 - i = 0 by omega]
      simp
theorem hk_zero : ∀ k, hk k 0 = List.replicate k 48
  | 0 => rfl
  | k + 1 => by rw [hk, Nat.zero_div, hk_zero k, List.replicate_succ']; rfl
/-- how many digits a number has without noughts ahead, one at least. -/
def nd (n : Nat) : Nat := if n < 16 then 1 else if n < 256 then 2 else if n < 4096 then 3 else if n < 65536 then 4 else if n < 1048576 then 5 else if n < 16777216 then 6 else if n < 268435456 then 7 else 8
theorem nd_bd (n : Nat) : 1 ≤ nd n ∧ nd n ≤ 8 := by
  unfold nd
  repeat' split
  all_goals decide
theorem hk_pad : ∀ (z k n : Nat), n < 16 ^ k → hk (z + k) n = List.replicate z 48 ++ hk k n
  | z, 0, n, h => by
    obtain rfl : n = 0 := by simpa using h
    rw [Nat.add_zero, hk_zero, hk, List.append_nil]
  | z, k + 1, n, h => by
    have h' : n / 16 < 16 ^ k := by rw [Nat.pow_succ] at h; omega
    rw [← Nat.add_assoc, hk, hk, hk_pad z k _ h', List.append_assoc]
theorem nd_lt {n : Nat} (h : n < 4294967296) : n < 16 ^ nd n := by
  unfold nd
  repeat' split
  all_goals (simp only [show (16 : Nat) ^ 1 = 16 from rfl, show (16 : Nat) ^ 2 = 256 from rfl, show (16 : Nat) ^ 3 = 4096 from rfl, show (16 : Nat) ^ 4 = 65536 from rfl, show (16 : Nat) ^ 5 = 1048576 from rfl, show (16 : Nat) ^ 6 = 16777216 from rfl, show (16 : Nat) ^ 7 = 268435456 from rfl, show (16 : Nat) ^ 8 = 4294967296 from rfl]; omega)
theorem nd_ge {n : Nat} (h : 1 < nd n) : 16 ^ (nd n - 1) ≤ n := by
  revert h
  unfold nd
  repeat' split
  all_goals intro h
  all_goals first | omega | (simp only [show (16 : Nat) ^ (2 - 1) = 16 from rfl, show (16 : Nat) ^ (3 - 1) = 256 from rfl, show (16 : Nat) ^ (4 - 1) = 4096 from rfl, show (16 : Nat) ^ (5 - 1) = 65536 from rfl, show (16 : Nat) ^ (6 - 1) = 1048576 from rfl, show (16 : Nat) ^ (7 - 1) = 16777216 from rfl, show (16 : Nat) ^ (8 - 1) = 268435456 from rfl] ; omega)
/-- a number's eight digits: noughts, and the others. -/
theorem hk_eight {n : Nat} (h : n < 4294967296) : List.replicate (8 - nd n) 48 ++ hk (nd n) n = hk 8 n := by
  have b := nd_bd n
  rw [← hk_pad _ _ _ (nd_lt h), show 8 - nd n + nd n = 8 by omega]
theorem wg_hk : ∀ (k n m : Nat), n < 16 ^ k → wg m (hk k n) = some (m * 16 ^ k + n)
  | 0, n, m, h => by
    obtain rfl : n = 0 := by simpa using h
    simp [hk, wg]
  | k + 1, n, m, h => by
    have h' : n / 16 < 16 ^ k := by rw [Nat.pow_succ] at h; omega
    rw [hk, wg_app, wg_hk k _ m h']
    show wg (m * 16 ^ k + n / 16) [hd (n % 16)] = _
    rw [wg_c (dv_hd (Nat.mod_lt _ (by decide))), wg, Nat.pow_succ, ← Nat.mul_assoc]
    congr 1
    omega
/-- a number's digits, so many that it has no more, are that number. -/
theorem wrd_hk {k n : Nat} (h1 : 1 ≤ k) (h8 : k ≤ 8) (h : n < 16 ^ k) : wrd (hk k n) = some n := by
  rw [wrd_in (fun e => by have := hk_len k n; rw [e] at this; simp at this; omega) (by rw [hk_len]; exact h8), wg_hk k n 0 h]
  simp

/-! texts of five numbers -/
def txL (f : Nat → Nat) : Nat → List UInt8
  | 0 => []
  | k + 1 => txL f k ++ (if k = 0 then [] else [32]) ++ hk 8 (f k)
def txt (f : Nat → Nat) : ByteArray := B (txL f 5)
theorem txL_first (f : Nat → Nat) : txL f 1 = hk 8 (f 0) := rfl
theorem txL_next (f : Nat → Nat) (k : Nat) (h : k ≠ 0) : txL f (k + 1) = txL f k ++ [32] ++ hk 8 (f k) := by rw [txL, if_neg h]
theorem txL_len (f : Nat → Nat) : ∀ k, (txL f k).length ≤ 9 * k
  | 0 => by simp [txL]
  | k + 1 => by
    have := txL_len f k
    rw [txL, List.length_append, List.length_append, hk_len]
    split <;> simp <;> omega
end Go.Proofs.YtfnkloecfjppeaaDoor.nx
