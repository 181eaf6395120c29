/-
  What sha.Hex answers: the forty digits of twenty bytes, as a text. Condition: the bytes are bytes.
-/
import Derived.Test.YtpkohihnocblfaaGreatDoorG20
import Derived.Test.YtpkohihnocblfaaGreatDoorG01
import Derived.Test.YtpkohihnocblfaaGreatDoorG03
import Derived.Lib.ItoaNum
import Derived.Test.YtpkohihnocblfaaGreatDoorRows
import Derived.WalkKit
import Derived.ProofKit
import Derived.OpenShut
import Derived.IntWalk
import Derived.Deep.QuietTactic
import Derived.BigQuiet
import Derived.Lib.Hide
namespace Go.Proofs.YtpkohihnocblfaaGreatDoor.sha
open Go.ChangeShapes Go.WideShapes Go.ChangeAt Go.RowKit
open sx
set_option linter.unusedVariables false
set_option maxRecDepth 100000

/-- a digit of base 16. -/
def hd (n : Nat) : UInt8 := if n < 10 then UInt8.ofNat (48 + n) else UInt8.ofNat (87 + n)
def hx (f : Nat → Nat) : Nat → List UInt8
  | 0 => []
  | k + 1 => hx f k ++ [hd (f k / 16), hd (f k % 16)]
def hexS (f : Nat → Nat) : ByteArray := ⟨(hx f 20).toArray⟩
theorem hx_len (f : Nat → Nat) : ∀ k, (hx f k).length = 2 * k
  | 0 => rfl
  | k + 1 => by simp [hx, hx_len f k]; omega
def nats (l : List UInt8) : List Nat := l.map (·.toNat)
theorem nats_app (l m : List UInt8) : nats (l ++ m) = nats l ++ nats m := by simp [nats]
theorem nats_len (l : List UInt8) : (nats l).length = l.length := by simp [nats]
theorem bc_nats (l : List UInt8) : bc (nats l) = Lib.byteCells l := by simp [bc, nats, Lib.byteCells]
theorem digs (p : Nat) (hp : p < 16) (h : p < (⟨#[48, 49, 50, 51, 52, 53, 54, 55, 56, 57, 97, 98, 99, 100, 101, 102]⟩ : ByteArray).size) : ((⟨#[48, 49, 50, 51, 52, 53, 54, 55, 56, 57, 97, 98, 99, 100, 101, 102]⟩ : ByteArray)[p]'h).toNat = (hd p).toNat := by
  rcases (show p = 0 ∨ p = 1 ∨ p = 2 ∨ p = 3 ∨ p = 4 ∨ p = 5 ∨ p = 6 ∨ p = 7 ∨ p = 8 ∨ p = 9 ∨ p = 10 ∨ p = 11 ∨ p = 12 ∨ p = 13 ∨ p = 14 ∨ p = 15 by omega) with rfl | rfl | rfl | rfl | rfl | rfl | rfl | rfl | rfl | rfl | rfl | rfl | rfl | rfl | rfl | rfl <;> rfl
def HHead (f : Nat → Nat) (w : World) (t : Value) (W : World) : Prop :=
  ∃ k, k ≤ 20 ∧ t = .int .i64 (k : Nat) ∧ Bld (w.heap.size + 1) (w.heap.size + 1) (nats (hx f k)) W ∧ Below (w.heap.size + 1) (w.alloc (.cells (cs .u8 f 20) 52)) W
theorem again (f : Nat → Nat) (k : Nat) {w wr w1 : World} {x : Nat} (h1 : BldAt (w.heap.size + 1) (w.heap.size + 1) (nats (hx f k) ++ [x]) w1) (hb1 : Below (w.heap.size + 1) wr w1) (c1 : wr.cell? ⟨w.heap.size, k, none⟩ = some (.int .u8 (f k : Nat))) (hbs : w.heap.size + 1 ≤ wr.heap.size) (hk : k < 20) :
    w1.cell? ⟨w.heap.size, k, none⟩ = some (.int .u8 (f k : Nat)) ∧ Hid (Calls Tryz.prog 35 #[.pointer (some ⟨w.heap.size + 1, 0, none⟩), .int .u8 ((hd (f k % 16)).toNat : Nat)] w1 fun e w' => e = .returned .nilIface ∧ BldAt (w.heap.size + 1) (w.heap.size + 1) (nats (hx f k) ++ [x] ++ [(hd (f k % 16)).toNat]) w' ∧ Below (w.heap.size + 1) w1 w') := by
  have hs := hb1.size
  refine ⟨(hb1.cell (p := ⟨w.heap.size, k, none⟩) (by show w.heap.size < _; omega)).trans c1, write_any _ _ _ _ w1 (Or.inr h1) ?_ (by omega)⟩
  rw [List.length_append, nats_len, hx_len]
  simp; omega
end Go.Proofs.YtpkohihnocblfaaGreatDoor.sha

/-
  Plain mathematics of layer 7: what a byte is worth in base 16, words and hashes of texts, digits of a number, texts of five numbers. Nothing of any program. Conditions: as said.
-/
namespace Go.Proofs.YtpkohihnocblfaaGreatDoor.nx
open lx
open sha (hd)
set_option linter.unusedVariables false
set_option maxRecDepth 100000

/-- what a byte is worth in base 16. -/
def dv (c : Nat) : Option Nat := if 48 ≤ c ∧ c ≤ 57 then some (c - 48) else if 97 ≤ c ∧ c ≤ 102 then some (c - 87) else if 65 ≤ c ∧ c ≤ 70 then some (c - 55) else none
theorem dv_cases {c d : Nat} (h : dv c = some d) : (48 ≤ c ∧ c ≤ 57 ∧ d = c - 48) ∨ (97 ≤ c ∧ c ≤ 102 ∧ d = c - 87) ∨ (65 ≤ c ∧ c ≤ 70 ∧ d = c - 55) := by
  unfold dv at h
  split at h
  · rename_i k; cases h; exact .inl ⟨k.1, k.2, rfl⟩
  · split at h
    · rename_i k; cases h; exact .inr (.inl ⟨k.1, k.2, rfl⟩)
    · split at h
      · rename_i k; cases h; exact .inr (.inr ⟨k.1, k.2, rfl⟩)
      · cases h
theorem dv_none {c : Nat} (h : dv c = none) : ¬ (48 ≤ c ∧ c ≤ 57) ∧ ¬ (97 ≤ c ∧ c ≤ 102) ∧ ¬ (65 ≤ c ∧ c ≤ 70) := by
  unfold dv at h
  split at h
  · cases h
  · split at h
    · cases h
    · split at h
      · cases h
      · exact ⟨by assumption, by assumption, by assumption⟩
theorem dv_lt {c d : Nat} (h : dv c = some d) : d < 16 := by have := dv_cases h; omega
theorem dv_small {c d : Nat} (h : dv c = some d) : c < 128 := by have := dv_cases h; omega
theorem dv_far {c : Nat} (h : 128 ≤ c) : dv c = none := by
  cases k : dv c with
  | none => rfl
  | some d => have := dv_small k; omega
theorem sixteen {n : Nat} (h : n < 16) : n = 0 ∨ n = 1 ∨ n = 2 ∨ n = 3 ∨ n = 4 ∨ n = 5 ∨ n = 6 ∨ n = 7 ∨ n = 8 ∨ n = 9 ∨ n = 10 ∨ n = 11 ∨ n = 12 ∨ n = 13 ∨ n = 14 ∨ n = 15 := by omega
theorem dv_hd {n : Nat} (h : n < 16) : dv (hd n).toNat = some n := by
  rcases sixteen h with rfl | rfl | rfl | rfl | rfl | rfl | rfl | rfl | rfl | rfl | rfl | rfl | rfl | rfl | rfl | rfl <;> rfl
/-- of a row of bytes, behind a number. -/
def wg : Nat → List UInt8 → Option Nat
  | n, [] => some n
  | n, c :: r => match dv c.toNat with
    | some d => wg (16 * n + d) r
    | none => none
theorem wg_c {n d : Nat} {c : UInt8} (h : dv c.toNat = some d) (r : List UInt8) : wg n (c :: r) = wg (16 * n + d) r := by rw [wg, h]
theorem wg_x {n : Nat} {c : UInt8} (h : dv c.toNat = none) (r : List UInt8) : wg n (c :: r) = none := by rw [wg, h]
theorem wg_app : ∀ (l m : List UInt8) (n : Nat), wg n (l ++ m) = (wg n l).bind fun k => wg k m
  | [], m, n => rfl
  | c :: r, m, n => by
    cases h : dv c.toNat with
    | none => rw [List.cons_append, wg_x h, wg_x h]; rfl
    | some d => rw [List.cons_append, wg_c h, wg_c h, wg_app r m]
/-- the number that a row of bytes is. -/
def wrd (l : List UInt8) : Option Nat := if l = [] ∨ 8 < l.length then none else wg 0 l
def wN (l : List UInt8) : Nat := (wrd l).getD 0
def wT (l : List UInt8) : Bool := (wrd l).isSome
theorem wrd_nil : wrd [] = none := rfl
theorem wrd_long {l : List UInt8} (h : 8 < l.length) : wrd l = none := if_pos (.inr h)
theorem wrd_in {l : List UInt8} (h : l ≠ []) (h8 : l.length ≤ 8) : wrd l = wg 0 l := if_neg (fun k => by rcases k with k | k; exact h k; omega)
theorem w_yes {l : List UInt8} {n : Nat} (h : wrd l = some n) : wN l = n ∧ wT l = true := by unfold wN wT; rw [h]; exact ⟨rfl, rfl⟩
theorem w_no {l : List UInt8} (h : wrd l = none) : wN l = 0 ∧ wT l = false := by unfold wN wT; rw [h]; exact ⟨rfl, rfl⟩
theorem wg_go (s : ByteArray) (p n d : Nat) (hp : p < s.size) (h : dv (bt s p) = some d) : wg n ((L s).drop p) = wg (16 * n + d) ((L s).drop (p + 1)) := by
  obtain ⟨c, e1, e2, _⟩ := drop_at s p hp
  rw [e2, wg_c (by rw [e1]; exact h)]
theorem wg_stop (s : ByteArray) (p n : Nat) (hp : p < s.size) (h : dv (bt s p) = none) : wg n ((L s).drop p) = none := by
  obtain ⟨c, e1, e2, _⟩ := drop_at s p hp
  rw [e2, wg_x (by rw [e1]; exact h)]
theorem wg_done (s : ByteArray) (p n : Nat) (hp : s.size ≤ p) : wg n ((L s).drop p) = some n := by rw [drop_end s p hp]; rfl
theorem wg_le : ∀ (l : List UInt8) (n m : Nat), wg n l = some m → m < (n + 1) * 16 ^ l.length
  | [], n, m, h => by cases h; simp
  | c :: r, n, m, h => by
    cases k : dv c.toNat with
    | none => rw [wg_x k] at h; cases h
    | some d =>
      rw [wg_c k] at h
      have a := wg_le r _ m h
      have b := dv_lt k
      rw [List.length_cons, Nat.pow_succ, Nat.mul_comm (16 ^ r.length) 16, ← Nat.mul_assoc]
      exact Nat.lt_of_lt_of_le a (Nat.mul_le_mul_right _ (by omega))
theorem wN_lt (l : List UInt8) : wN l < 4294967296 := by
  cases h : wrd l with
  | none => rw [(w_no h).1]; decide
  | some n =>
    rw [(w_yes h).1]
    unfold wrd at h
    split at h
    · cases h
    · rename_i k
      have a := wg_le l 0 n h
      have b : 16 ^ l.length ≤ 16 ^ 8 := Nat.pow_le_pow_right (by decide) (by omega)
      have c : (16 : Nat) ^ 8 = 4294967296 := rfl
      omega
theorem or_digit (x d : Nat) (hx : x < 268435456) (hd : d < 16) : bits .or .u32 ((x : Int) * 16) (d : Int) = ((16 * x + d : Nat) : Int) := by
  have e : (x : Int) * 16 = ((x * 16 : Nat) : Int) := by rw [Int.natCast_mul]; rfl
  rw [e, u32_or_nat _ _ (by omega) (by omega), show x * 16 = x * 2 ^ 4 from rfl, ← Nat.shiftLeft_eq, ← Nat.shiftLeft_add_eq_or_of_lt (by omega), Nat.shiftLeft_eq]
  congr 1
  omega

/-! hashes -/
/-- the word at a place of a text. -/
def wat (s : ByteArray) (k : Nat) : List UInt8 := L ((wordsS s).getD k ⟨#[]⟩)
def hT (s : ByteArray) : Bool := decide ((wordsS s).length = 5) && (wT (wat s 0) && wT (wat s 1) && wT (wat s 2) && wT (wat s 3) && wT (wat s 4))
def hN (s : ByteArray) (k : Nat) : Nat := if hT s = true then wN (wat s k) else 0
theorem hT_iff (s : ByteArray) : hT s = true ↔ (wordsS s).length = 5 ∧ ∀ k, k < 5 → wT (wat s k) = true := by
  unfold hT
  simp only [Bool.and_eq_true, decide_eq_true_eq]
  constructor
  · rintro ⟨h, ⟨⟨⟨h0, h1⟩, h2⟩, h3⟩, h4⟩
    refine ⟨h, fun k hk => ?_⟩
    rcases (show k = 0 ∨ k = 1 ∨ k = 2 ∨ k = 3 ∨ k = 4 by omega) with rfl | rfl | rfl | rfl | rfl <;> assumption
  · rintro ⟨h, k⟩
    exact ⟨h, ⟨⟨⟨k 0 (by decide), k 1 (by decide)⟩, k 2 (by decide)⟩, k 3 (by decide)⟩, k 4 (by decide)⟩
theorem hT_len {s : ByteArray} (h : (wordsS s).length ≠ 5) : hT s = false := by
  cases k : hT s with
  | false => rfl
  | true => exact absurd ((hT_iff s).1 k).1 h
theorem hT_bad {s : ByteArray} {k : Nat} (hk : k < 5) (h : wT (wat s k) = false) : hT s = false := by
  cases e : hT s with
  | false => rfl
  | true => have := ((hT_iff s).1 e).2 k hk; rw [h] at this; cases this
theorem hN_no {s : ByteArray} (h : hT s = false) (k : Nat) : hN s k = 0 := if_neg (by rw [h]; decide)
theorem hN_yes {s : ByteArray} (h : hT s = true) (k : Nat) : hN s k = wN (wat s k) := if_pos h
theorem hN_lt (s : ByteArray) (k : Nat) : hN s k < 4294967296 := by
  unfold hN
  split
  · exact wN_lt _
  · decide

/-! digits -/
/-- the last k digits of a number. -/
def hk : Nat → Nat → List UInt8
  | 0, _ => []
  | k + 1, n => hk k (n / 16) ++ [hd (n % 16)]
theorem hk_len : ∀ k n, (hk k n).length = k
  | 0, _ => rfl
  | k + 1, n => by rw [hk, List.length_append, hk_len k]; rfl
theorem hk_get : ∀ k n i, i < k → (hk k n)[i]? = some (hd (n / 16 ^ (k - 1 - i) % 16))
  | 0, n, i, h => by omega
  | k + 1, n, i, h => by
    rw [hk]
    have hl := hk_len k (n / 16)
    by_cases hik : i < k
    · rw [List.getElem?_append_left (by omega), hk_get k _ _ hik, Nat.div_div_eq_div_mul, show k + 1 - 1 - i = (k - 1 - i) + 1 by omega, Nat.pow_succ, Nat.mul_comm]
    · obtain rfl : i = k := by omega
      rw [List.getElem?_append_right (by omega), hl, show i - i = 0 by omega, show i + 1 - 1 - i = 0 by omega]
      simp
theorem hk_zero : ∀ k, hk k 0 = List.replicate k 48
  | 0 => rfl
  | k + 1 => by rw [hk, Nat.zero_div, hk_zero k, List.replicate_succ']; rfl
/-- how many digits a number has without noughts ahead, one at least. -/
def nd (n : Nat) : Nat := if n < 16 then 1 else if n < 256 then 2 else if n < 4096 then 3 else if n < 65536 then 4 else if n < 1048576 then 5 else if n < 16777216 then 6 else if n < 268435456 then 7 else 8
theorem nd_bd (n : Nat) : 1 ≤ nd n ∧ nd n ≤ 8 := by
  unfold nd
  repeat' split
  all_goals decide
theorem hk_pad : ∀ (z k n : Nat), n < 16 ^ k → hk (z + k) n = List.replicate z 48 ++ hk k n
  | z, 0, n, h => by
    obtain rfl : n = 0 := by simpa using h
    rw [Nat.add_zero, hk_zero, hk, List.append_nil]
  | z, k + 1, n, h => by
    have h' : n / 16 < 16 ^ k := by rw [Nat.pow_succ] at h; omega
    rw [← Nat.add_assoc, hk, hk, hk_pad z k _ h', List.append_assoc]
theorem nd_lt {n : Nat} (h : n < 4294967296) : n < 16 ^ nd n := by
  unfold nd
  repeat' split
  all_goals (simp only [show (16 : Nat) ^ 1 = 16 from rfl, show (16 : Nat) ^ 2 = 256 from rfl, show (16 : Nat) ^ 3 = 4096 from rfl, show (16 : Nat) ^ 4 = 65536 from rfl, show (16 : Nat) ^ 5 = 1048576 from rfl, show (16 : Nat) ^ 6 = 16777216 from rfl, show (16 : Nat) ^ 7 = 268435456 from rfl, show (16 : Nat) ^ 8 = 4294967296 from rfl]; omega)
theorem nd_ge {n : Nat} (h : 1 < nd n) : 16 ^ (nd n - 1) ≤ n := by
  revert h
  unfold nd
  repeat' split
  all_goals intro h
  all_goals first | omega | (simp only [show (16 : Nat) ^ (2 - 1) = 16 from rfl, show (16 : Nat) ^ (3 - 1) = 256 from rfl, show (16 : Nat) ^ (4 - 1) = 4096 from rfl, show (16 : Nat) ^ (5 - 1) = 65536 from rfl, show (16 : Nat) ^ (6 - 1) = 1048576 from rfl, show (16 : Nat) ^ (7 - 1) = 16777216 from rfl, show (16 : Nat) ^ (8 - 1) = 268435456 from rfl] ; omega)
/-- a number's eight digits: noughts, and the others. -/
theorem hk_eight {n : Nat} (h : n < 4294967296) : List.replicate (8 - nd n) 48 ++ hk (nd n) n = hk 8 n := by
  have b := nd_bd n
  rw [← hk_pad _ _ _ (nd_lt h), show 8 - nd n + nd n = 8 by omega]
theorem wg_hk : ∀ (k n m : Nat), n < 16 ^ k → wg m (hk k n) = some (m * 16 ^ k + n)
  | 0, n, m, h => by
    obtain rfl : n = 0 := by simpa using h
    simp [hk, wg]
  | k + 1, n, m, h => by
    have h' : n / 16 < 16 ^ k := by rw [Nat.pow_succ] at h; omega
    rw [hk, wg_app, wg_hk k _ m h']
    show wg (m * 16 ^ k + n / 16) [hd (n % 16)] = _
    rw [wg_c (dv_hd (Nat.mod_lt _ (by decide))), wg, Nat.pow_succ, ← Nat.mul_assoc]
    congr 1
    omega
/-- a number's digits, so many that it has no more, are that number. -/
theorem wrd_hk {k n : Nat} (h1 : 1 ≤ k) (h8 : k ≤ 8) (h : n < 16 ^ k) : wrd (hk k n) = some n := by
  rw [wrd_in (fun e => by have := hk_len k n; rw [e] at this; simp at this; omega) (by rw [hk_len]; exact h8), wg_hk k n 0 h]
  simp

/-! texts of five numbers -/
def txL (f : Nat → Nat) : Nat → List UInt8
  | 0 => []
  | k + 1 => txL f k ++ (if k = 0 then [] else [32]) ++ hk 8 (f k)
def txt (f : Nat → Nat) : ByteArray := B (txL f 5)
theorem txL_first (f : Nat → Nat) : txL f 1 = hk 8 (f 0) := rfl
theorem txL_next (f : Nat → Nat) (k : Nat) (h : k ≠ 0) : txL f (k + 1) = txL f k ++ [32] ++ hk 8 (f k) := by rw [txL, if_neg h]
theorem txL_len (f : Nat → Nat) : ∀ k, (txL f k).length ≤ 9 * k
  | 0 => by simp [txL]
  | k + 1 => by
    have := txL_len f k
    rw [txL, List.length_append, List.length_append, hk_len]
    split <;> simp <;> omega
end Go.Proofs.YtpkohihnocblfaaGreatDoor.nx

/-
  Lists of leap seconds as plain mathematics: what a line is, whether it is right, its numbers, what is hashed; how a list is read, line by line. Nothing of any program. No condition.
-/
namespace Go.Proofs.YtpkohihnocblfaaGreatDoor.ls
open lx nx
open lm (Lp ce Good)
set_option linter.unusedVariables false
set_option maxRecDepth 100000

/-- what stands ahead of the first '#'. -/
def ahd (l : List UInt8) : List UInt8 := l.takeWhile fun c => decide (c ≠ 35)
/-- a line's kind: 0 empty, 1 stamp, 2 expiry, 3 hash, 4 remark, 5 data. -/
def kd (l : List UInt8) : Nat := if wds [] l = [] then 0 else if l.take 2 = [35, 36] then 1 else if l.take 2 = [35, 64] then 2 else if l.take 2 = [35, 104] then 3 else if ((wds [] l).headD []).take 1 = [35] then 4 else 5
theorem kd_le (l : List UInt8) : kd l ≤ 5 := by
  unfold kd
  (repeat' split) <;> omega
/-- what a line's words are read of, and how many there are. -/
def sd (k : Nat) (l : List UInt8) : List UInt8 := if k = 5 then ahd l else l.drop 2
def ws (k : Nat) (l : List UInt8) : List (List UInt8) := wds [] (sd k l)
def cn (k : Nat) : Nat := if k = 5 then 2 else 1
def rk (k : Nat) (l : List UInt8) : Bool := decide ((ws k l).length = cn k) && (ws k l).all nmT
def ok (l : List UInt8) : Bool := if kd l = 0 ∨ kd l = 4 then true else if kd l = 3 then hT (B (l.drop 2)) else rk (kd l) l
def g1 (l : List UInt8) : Int := nmI ((ws (kd l) l).getD 0 [])
def g2 (l : List UInt8) : Int := nmI ((ws (kd l) l).getD 1 [])
/-- what is hashed of a line, if it is of that kind. -/
def hw (k : Nat) (l : List UInt8) : List UInt8 := if kd l = k ∧ rk k l = true then (ws k l).flatten else []
def hs1 (k : Nat) (ls : List (List UInt8)) : List UInt8 := ls.flatMap (hw k)
def hsh (ls : List (List UInt8)) : List UInt8 := hs1 1 ls ++ hs1 2 ls ++ hs1 5 ls
def hq (ls : List (List UInt8)) (k : Nat) : Nat := sx.word (sx.dig (sx.sumV (sha.nats (hsh ls)))) k

/-- how far a list is read. -/
structure S where
  p : Nat → Nat
  lv : List Lp
  ct : Int
  ex : Int
  h : Nat → Nat
def S0 : S := ⟨fun _ => 0, [], 0, 0, fun _ => 0⟩
def put (p : Nat → Nat) (k a : Nat) : Nat → Nat := fun i => if i = k ∧ p k = 0 then a else p i
def lp (n t : Int) : Lp := ((n - 2208988800) / 86400 - 1, t, false)
/-- what is wrong of a later line of data. -/
noncomputable def lE (n t : Int) (lv : List Lp) : Int := if (n - 2208988800) % 86400 ≠ 0 then 5 else if t ≠ 1 ∧ t ≠ -1 then 6 else ce (lv ++ [lp n t]) false 0
noncomputable def dE (l : List UInt8) (s : S) : Int := if ok l = false then 2 else if s.p 5 ≠ 0 then lE (g1 l) (g2 l - s.ct) s.lv else if g1 l ≠ 2272060800 ∨ g2 l ≠ 10 then 9 else 0
noncomputable def stE (l : List UInt8) (s : S) : Int := if kd l = 0 ∨ kd l = 4 then 0 else if kd l = 5 then dE l s else if s.p (kd l) = 0 ∧ ok l = true then 0 else 2
def stS (l : List UInt8) (a : Nat) (s : S) : S :=
  { p := if kd l = 0 ∨ kd l = 4 then s.p else put s.p (kd l) a,
    lv := if kd l = 5 ∧ s.p 5 ≠ 0 then s.lv ++ [lp (g1 l) (g2 l - s.ct)] else s.lv,
    ct := if kd l = 5 then g2 l else s.ct,
    ex := if kd l = 2 then g1 l - 2208988800 else s.ex,
    h := if kd l = 3 then hN (B (l.drop 2)) else s.h }
noncomputable def run : List (List UInt8) → Nat → S → (Nat × Int) × S
  | [], _, s => ((0, 0), s)
  | l :: r, k, s => if stE l s = 0 then run r (k + 1) (stS l (k + 1) s) else ((k + 1, stE l s), s)
theorem run_nil (k : Nat) (s : S) : run [] k s = ((0, 0), s) := rfl
theorem run_go {l : List UInt8} {s : S} (h : stE l s = 0) (r : List (List UInt8)) (k : Nat) : run (l :: r) k s = run r (k + 1) (stS l (k + 1) s) := by rw [run, if_pos h]
theorem run_no {l : List UInt8} {s : S} (h : stE l s ≠ 0) (r : List (List UInt8)) (k : Nat) : run (l :: r) k s = ((k + 1, stE l s), s) := by rw [run, if_neg h]
theorem run_app : ∀ (a b : List (List UInt8)) (k : Nat) (s : S), run (a ++ b) k s = if (run a k s).1.2 = 0 then run b (k + a.length) (run a k s).2 else run a k s
  | [], b, k, s => by simp [run_nil]
  | l :: a, b, k, s => by
    by_cases h : stE l s = 0
    · rw [List.cons_append, run_go h, run_go h, run_app a b, List.length_cons, show k + 1 + a.length = k + (a.length + 1) by omega]
    · rw [List.cons_append, run_no h, run_no h, if_neg h]

/-- what is told of a list. -/
structure Out where
  line : Nat
  code : Int
  lv : List Lp
  has : Bool
  x : Int
def bad (n : Nat) (c : Int) : Out := ⟨n, c, [], false, 0⟩
def h5 (f g : Nat → Nat) : Bool := f 0 == g 0 && (f 1 == g 1 && (f 2 == g 2 && (f 3 == g 3 && f 4 == g 4)))
theorem h5_iff {f g : Nat → Nat} : h5 f g = true ↔ ∀ k, k < 5 → f k = g k := by
  unfold h5
  simp only [Bool.and_eq_true, beq_iff_eq]
  constructor
  · rintro ⟨h0, h1, h2, h3, h4⟩ k hk
    rcases (show k = 0 ∨ k = 1 ∨ k = 2 ∨ k = 3 ∨ k = 4 by omega) with rfl | rfl | rfl | rfl | rfl <;> assumption
  · intro h
    exact ⟨h 0 (by decide), h 1 (by decide), h 2 (by decide), h 3 (by decide), h 4 (by decide)⟩
noncomputable def fin (n : Nat) (dg : Nat → Nat) (s : S) : Out :=
  if s.p 5 = 0 then bad (n + 1) 2 else if s.p 2 ≠ 0 ∧ ce s.lv true s.ex ≠ 0 then bad (s.p 2) 9
  else if s.p 3 ≠ 0 ∧ h5 s.h dg = false then bad (s.p 3) 3 else ⟨0, 0, s.lv, decide (s.p 2 ≠ 0), if s.p 2 ≠ 0 then s.ex else 0⟩
noncomputable def parse (ls : List (List UInt8)) : Out := if (run ls 0 S0).1.2 ≠ 0 then bad (run ls 0 S0).1.1 (run ls 0 S0).1.2 else fin ls.length (hq ls) (run ls 0 S0).2

/-! what holds of how far a list is read -/
theorem lE_bd (n t : Int) (lv : List Lp) : 0 ≤ lE n t lv ∧ lE n t lv ≤ 9 ∧ lE n t lv ≠ 1 ∧ (lE n t lv = 2 → False) ∧ lE n t lv ≠ 3 := by
  have hw : ∀ k, lm.wr (lv ++ [lp n t]) k = 8 ∨ lm.wr (lv ++ [lp n t]) k = 9 ∨ lm.wr (lv ++ [lp n t]) k = 5 ∨ lm.wr (lv ++ [lp n t]) k = 6 ∨ lm.wr (lv ++ [lp n t]) k = 4 ∨ lm.wr (lv ++ [lp n t]) k = 0 := by
    intro k
    unfold lm.wr
    (repeat' split) <;> simp
  have hc : 0 ≤ ce (lv ++ [lp n t]) false 0 ∧ ce (lv ++ [lp n t]) false 0 ≤ 9 ∧ ce (lv ++ [lp n t]) false 0 ≠ 1 ∧ (ce (lv ++ [lp n t]) false 0 = 2 → False) ∧ ce (lv ++ [lp n t]) false 0 ≠ 3 := by
    unfold lm.ce
    split
    · have := hw (lm.cp (lv ++ [lp n t]))
      omega
    · simp [lm.xp]
  unfold lE
  split
  · omega
  split
  · omega
  · exact hc
theorem stE_bd (l : List UInt8) (s : S) : stE l s = 0 ∨ (2 ≤ stE l s ∧ stE l s ≤ 9) := by
  have := lE_bd (g1 l) (g2 l - s.ct) s.lv
  unfold stE dE
  (repeat' split) <;> omega
/-- what is so at each place. -/
structure Inv (k : Nat) (s : S) : Prop where
  good : ce s.lv false 0 = 0
  utc : ∀ z ∈ s.lv, z.2.2 = false
  place : ∀ i, s.p i ≤ k
theorem inv_zero : Inv 0 S0 := ⟨by unfold lm.ce S0; simp [lm.xp], fun z hz => by simp [S0] at hz, fun i => Nat.le_refl _⟩
theorem inv_step {l : List UInt8} {k : Nat} {s : S} (h : Inv k s) (e : stE l s = 0) : Inv (k + 1) (stS l (k + 1) s) := by
  refine ⟨?_, ?_, fun i => ?_⟩
  · unfold stS
    simp only
    split
    · rename_i g
      unfold stE dE lE at e
      rw [if_neg (by omega), if_pos g.1] at e
      split at e
      · omega
      rw [if_pos g.2] at e
      split at e
      · omega
      split at e
      · omega
      · exact e
    · exact h.good
  · unfold stS
    simp only
    split
    · intro z hz
      rw [List.mem_append] at hz
      rcases hz with hz | hz
      · exact h.utc z hz
      · rw [List.mem_singleton] at hz
        subst hz
        rfl
    · exact h.utc
  · unfold stS put
    have := h.place i
    simp only
    split
    · omega
    · show (if i = kd l ∧ s.p (kd l) = 0 then k + 1 else s.p i) ≤ k + 1
      by_cases g : i = kd l ∧ s.p (kd l) = 0
      · rw [if_pos g]
        exact Nat.le_refl _
      · rw [if_neg g]
        omega
theorem run_inv : ∀ (ls : List (List UInt8)) (k : Nat) (s : S), Inv k s → Inv (k + ls.length) (run ls k s).2 ∧ ((run ls k s).1.2 ≠ 0 → k < (run ls k s).1.1 ∧ (run ls k s).1.1 ≤ k + ls.length ∧ 2 ≤ (run ls k s).1.2 ∧ (run ls k s).1.2 ≤ 9)
  | [], k, s, h => ⟨h, fun g => absurd rfl g⟩
  | l :: r, k, s, h => by
    by_cases e : stE l s = 0
    · rw [run_go e]
      obtain ⟨a, b⟩ := run_inv r (k + 1) _ (inv_step h e)
      rw [List.length_cons]
      refine ⟨by rw [show k + (r.length + 1) = k + 1 + r.length by omega]; exact a, fun g => ?_⟩
      have := b g
      omega
    · rw [run_no e]
      refine ⟨⟨h.good, h.utc, fun i => by have := h.place i; rw [List.length_cons]; simp only; omega⟩, fun _ => ?_⟩
      have := stE_bd l s
      rw [List.length_cons]
      simp only
      omega
theorem parse_right (ls : List (List UInt8)) : ((parse ls).code = 0 ∧ (parse ls).line = 0 ∧ (∀ z ∈ (parse ls).lv, z.2.2 = false) ∧ ce (parse ls).lv (parse ls).has (parse ls).x = 0) ∨
    (2 ≤ (parse ls).code ∧ (parse ls).code ≤ 9 ∧ 1 ≤ (parse ls).line ∧ (parse ls).line ≤ ls.length + 1 ∧ (parse ls).lv = [] ∧ (parse ls).has = false ∧ (parse ls).x = 0) := by
  obtain ⟨a, b⟩ := run_inv ls 0 S0 inv_zero
  rw [Nat.zero_add] at a b
  unfold parse
  by_cases h : (run ls 0 S0).1.2 ≠ 0
  · rw [if_pos h]
    have := b h
    refine .inr ⟨?_, ?_, ?_, ?_, rfl, rfl, rfl⟩ <;> (unfold bad; simp only; omega)
  · rw [if_neg h]
    unfold fin
    split
    · refine .inr ⟨?_, ?_, ?_, ?_, rfl, rfl, rfl⟩ <;> (unfold bad; simp only; omega)
    split
    · have := a.place 2
      refine .inr ⟨?_, ?_, ?_, ?_, rfl, rfl, rfl⟩ <;> (unfold bad; simp only; omega)
    split
    · have := a.place 3
      refine .inr ⟨?_, ?_, ?_, ?_, rfl, rfl, rfl⟩ <;> (unfold bad; simp only; omega)
    · rename_i g1 g2 g3
      refine .inl ⟨rfl, rfl, a.utc, ?_⟩
      show ce (run ls 0 S0).2.lv (decide ((run ls 0 S0).2.p 2 ≠ 0)) (if (run ls 0 S0).2.p 2 ≠ 0 then (run ls 0 S0).2.ex else 0) = 0
      by_cases g : (run ls 0 S0).2.p 2 ≠ 0
      · rw [if_pos g, decide_eq_true g]
        exact Classical.not_not.1 fun k => g2 ⟨g, k⟩
      · rw [if_neg g, decide_eq_false g]
        exact a.good
end Go.Proofs.YtpkohihnocblfaaGreatDoor.ls

/-
  What num's Add and Sub answer where the second number is 2208988800, and what ntp's Posix and Ntp answer, for all numbers of 64 bits. No condition beside that the argument is such a number.
-/
namespace Go.Proofs.YtpkohihnocblfaaGreatDoor.ntp
open Go.ChangeShapes Go.WideShapes Go.ChangeAt Go.RowKit
set_option linter.unusedVariables false
set_option maxRecDepth 100000

def fit (n : Int) : Prop := -9223372036854775808 ≤ n ∧ n ≤ 9223372036854775807
theorem add_yes (a : Int) (w : World) (ha : fit a) (h : a ≤ 9223372034645787007) :
    Calls Tryz.prog 37 #[.int .i64 a, .int .i64 2208988800] w fun e w' => e = .returned (.tuple #[.int .i64 (a + 2208988800), .bool true]) ∧ w = w' := by
  obtain ⟨ha1, ha2⟩ := ha
  go_enter Tryz.func37, Tryz.ntmps37
  go_wp2
  go_ret2
  exact ⟨rfl, rfl⟩
theorem add_no (a : Int) (w : World) (ha : fit a) (h : ¬ a ≤ 9223372034645787007) :
    Calls Tryz.prog 37 #[.int .i64 a, .int .i64 2208988800] w fun e w' => e = .returned (.tuple #[.int .i64 0, .bool false]) ∧ w = w' := by
  obtain ⟨ha1, ha2⟩ := ha
  go_enter Tryz.func37, Tryz.ntmps37
  go_wp2
  go_ret2
  exact ⟨rfl, rfl⟩
theorem sub_yes (a : Int) (w : World) (ha : fit a) (h : 0 ≤ a) :
    Calls Tryz.prog 97 #[.int .i64 a, .int .i64 2208988800] w fun e w' => e = .returned (.tuple #[.int .i64 (a - 2208988800), .bool true]) ∧ w = w' := by
  obtain ⟨ha1, ha2⟩ := ha
  go_enter Tryz.func97, Tryz.ntmps97
  go_wp2
  go_ret2
  exact ⟨rfl, rfl⟩
theorem posix_yes (n : Int) (w : World) (hn : fit n) (h : 0 ≤ n) :
    Calls Tryz.prog 76 #[.int .i64 n] w fun e w' => e = .returned (.tuple #[.int .i64 (n - 2208988800), .bool true]) ∧ w = w' := by
  have S := Lib.hid (fun W => sub_yes n W hn h)
  obtain ⟨hn1, hn2⟩ := hn
  go_enter Tryz.func76, Tryz.ntmps76
  go_wp2_with (first
    | (go_at_call 97; (with_reducible refine (S.out _).mono ?_; rintro e w' ⟨rfl, rfl⟩)))
  go_ret2
  exact ⟨rfl, rfl⟩
theorem posix_no (n : Int) (w : World) (hn : fit n) (h : ¬ 0 ≤ n) :
    Calls Tryz.prog 76 #[.int .i64 n] w fun e w' => e = .returned (.tuple #[.int .i64 0, .bool false]) ∧ w = w' := by
  obtain ⟨hn1, hn2⟩ := hn
  go_enter Tryz.func76, Tryz.ntmps76
  go_wp2
  go_ret2
  exact ⟨rfl, rfl⟩
def Has (p : Int) : Prop := -2208988800 ≤ p ∧ p ≤ 9223372034645787007
theorem ntp_yes (p : Int) (w : World) (h : Has p) :
    Calls Tryz.prog 16 #[.int .i64 p] w fun e w' => e = .returned (.tuple #[.int .i64 (p + 2208988800), .bool true]) ∧ w = w' := by
  obtain ⟨h1, h2⟩ := h
  have A := Lib.hid (fun W => add_yes p W ⟨by omega, by omega⟩ h2)
  go_enter Tryz.func16, Tryz.ntmps16
  go_wp2_with (first
    | (go_at_call 37; (with_reducible refine (A.out _).mono ?_; rintro e w' ⟨rfl, rfl⟩)))
  go_ret2
  exact ⟨rfl, rfl⟩
theorem ntp_no (p : Int) (w : World) (hp : fit p) (h : ¬ Has p) :
    Calls Tryz.prog 16 #[.int .i64 p] w fun e w' => e = .returned (.tuple #[.int .i64 0, .bool false]) ∧ w = w' := by
  by_cases h2 : p ≤ 9223372034645787007
  · have A := Lib.hid (fun W => add_yes p W hp h2)
    have h1 : p < -2208988800 := by unfold Has at h; omega
    obtain ⟨hp1, hp2⟩ := hp
    clear h
    go_enter Tryz.func16, Tryz.ntmps16
    go_wp2_with (first
      | (go_at_call 37; (with_reducible refine (A.out _).mono ?_; rintro e w' ⟨rfl, rfl⟩)))
    go_ret2
    exact ⟨rfl, rfl⟩
  · have A := Lib.hid (fun W => add_no p W hp h2)
    obtain ⟨hp1, hp2⟩ := hp
    clear h
    go_enter Tryz.func16, Tryz.ntmps16
    go_wp2_with (first
      | (go_at_call 37; (with_reducible refine (A.out _).mono ?_; rintro e w' ⟨rfl, rfl⟩)))
    go_ret2
    exact ⟨rfl, rfl⟩
end Go.Proofs.YtpkohihnocblfaaGreatDoor.ntp
