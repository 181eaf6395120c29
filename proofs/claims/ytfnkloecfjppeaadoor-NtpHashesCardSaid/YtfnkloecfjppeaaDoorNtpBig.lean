/-
  Plain mathematics of hashes' texts: the words of a text of five numbers, in small or great letters, with the first noughts or without them, are these numbers. Nothing of any program. Conditions: the numbers are below 2^32.
-/
import Derived.Test.YtfnkloecfjppeaaDoorNtpMath
namespace Go.Proofs.YtfnkloecfjppeaaDoor.nx
open lx
open sha (hd)
set_option linter.unusedVariables false

/-- a digit in great letters. -/
def up (c : UInt8) : UInt8 := if 97 ≤ c.toNat then c - 32 else c
theorem hd_blk {n : Nat} (h : n < 16) : blk (hd n) = false := by
  rcases sixteen h with rfl | rfl | rfl | rfl | rfl | rfl | rfl | rfl | rfl | rfl | rfl | rfl | rfl | rfl | rfl | rfl <;> rfl
theorem up_blk {n : Nat} (h : n < 16) : blk (up (hd n)) = false := by
  rcases sixteen h with rfl | rfl | rfl | rfl | rfl | rfl | rfl | rfl | rfl | rfl | rfl | rfl | rfl | rfl | rfl | rfl <;> rfl
theorem dv_up {n : Nat} (h : n < 16) : dv (up (hd n)).toNat = some n := by
  rcases sixteen h with rfl | rfl | rfl | rfl | rfl | rfl | rfl | rfl | rfl | rfl | rfl | rfl | rfl | rfl | rfl | rfl <;> rfl
theorem hd_zero {n : Nat} (h : n < 16) (h0 : n ≠ 0) : (hd n).toNat ≠ 48 := by
  rcases sixteen h with rfl | rfl | rfl | rfl | rfl | rfl | rfl | rfl | rfl | rfl | rfl | rfl | rfl | rfl | rfl | rfl <;> first | decide | exact absurd rfl h0
theorem hd_le {n : Nat} (h : n < 16) : (hd n).toNat ≤ 102 := by
  rcases sixteen h with rfl | rfl | rfl | rfl | rfl | rfl | rfl | rfl | rfl | rfl | rfl | rfl | rfl | rfl | rfl | rfl <;> decide
theorem hk_mem : ∀ (k n : Nat), ∀ c ∈ hk k n, ∃ d, d < 16 ∧ c = hd d
  | 0, n, c, h => by cases h
  | k + 1, n, c, h => by
    rw [hk] at h
    rcases List.mem_append.1 h with h | h
    · exact hk_mem k _ c h
    · exact ⟨n % 16, Nat.mod_lt _ (by decide), List.mem_singleton.1 h⟩
theorem hk_word {k : Nat} (n : Nat) (h : 1 ≤ k) : Word (hk k n) := by
  refine ⟨fun e => ?_, fun c hc => ?_⟩
  · have := hk_len k n
    rw [e] at this
    simp at this
    omega
  · obtain ⟨d, hd, rfl⟩ := hk_mem k n c hc
    exact hd_blk hd
theorem up_word {k : Nat} (n : Nat) (h : 1 ≤ k) : Word ((hk k n).map up) := by
  refine ⟨fun e => ?_, fun c hc => ?_⟩
  · have := hk_len k n
    rw [List.map_eq_nil_iff.1 e] at this
    simp at this
    omega
  · obtain ⟨x, hx, rfl⟩ := List.mem_map.1 hc
    obtain ⟨d, hd, rfl⟩ := hk_mem k n x hx
    exact up_blk hd
theorem wg_up : ∀ (l : List UInt8) (m : Nat), (∀ c ∈ l, ∃ d, d < 16 ∧ c = hd d) → wg m (l.map up) = wg m l
  | [], m, _ => rfl
  | c :: r, m, h => by
    obtain ⟨d, hd, rfl⟩ := h c (by simp)
    rw [List.map_cons, wg_c (dv_up hd), wg_c (dv_hd hd), wg_up r _ (fun x hx => h x (by simp [hx]))]
theorem wrd_up {k n : Nat} (h1 : 1 ≤ k) (h8 : k ≤ 8) (h : n < 16 ^ k) : wrd ((hk k n).map up) = some n := by
  have hl := hk_len k n
  rw [wrd_in (up_word n h1).1 (by rw [List.length_map]; omega), wg_up _ _ (hk_mem k n), ← wrd_in (hk_word n h1).1 (by omega)]
  exact wrd_hk h1 h8 h
theorem wds_sp {x : List UInt8} (h : Word x) (r : List UInt8) : wds [] (x ++ 32 :: r) = x :: wds [] r := by
  rw [wds_plain x h.2, List.nil_append, wds_b (by decide) h.1]
theorem wds_last {x : List UInt8} (h : Word x) : wds [] x = [x] := by
  have := wds_plain x h.2 [] []
  rw [List.append_nil, List.nil_append, wds_end h.1] at this
  exact this
theorem wds_txt (f : Nat → Nat) : wds [] (L (txt f)) = [hk 8 (f 0), hk 8 (f 1), hk 8 (f 2), hk 8 (f 3), hk 8 (f 4)] := by
  have e : L (txt f) = hk 8 (f 0) ++ 32 :: (hk 8 (f 1) ++ 32 :: (hk 8 (f 2) ++ 32 :: (hk 8 (f 3) ++ 32 :: hk 8 (f 4)))) := by
    unfold txt
    rw [L_B, txL_next _ 4 (by decide), txL_next _ 3 (by decide), txL_next _ 2 (by decide), txL_next _ 1 (by decide), txL_first]
    simp only [List.append_assoc, List.cons_append, List.nil_append]
  rw [e, wds_sp (hk_word _ (by decide)), wds_sp (hk_word _ (by decide)), wds_sp (hk_word _ (by decide)), wds_sp (hk_word _ (by decide)), wds_last (hk_word _ (by decide))]
theorem txt_size (f : Nat → Nat) : (txt f).size = 44 := by
  unfold txt
  rw [B_size, txL_next _ 4 (by decide), txL_next _ 3 (by decide), txL_next _ 2 (by decide), txL_next _ 1 (by decide), txL_first]
  simp only [List.length_append, hk_len, List.length_singleton]
/-- without the first noughts. -/
def sh (n : Nat) : List UInt8 := hk (nd n) n
def tL (f : Nat → Nat) : Nat → List UInt8
  | 0 => [9]
  | k + 1 => tL f k ++ sh (f k) ++ [32, 32]
def uL (f : Nat → Nat) : Nat → List UInt8
  | 0 => []
  | k + 1 => uL f k ++ [32] ++ (sh (f k)).map up
theorem sh_len (n : Nat) : (sh n).length ≤ 8 := by unfold sh; rw [hk_len]; exact (nd_bd n).2
theorem tL_len (f : Nat → Nat) : ∀ k, (tL f k).length ≤ 1 + 10 * k
  | 0 => by simp [tL]
  | k + 1 => by
    have a := tL_len f k
    have b := sh_len (f k)
    rw [tL, List.length_append, List.length_append]
    simp
    omega
theorem uL_len (f : Nat → Nat) : ∀ k, (uL f k).length ≤ 9 * k
  | 0 => by simp [uL]
  | k + 1 => by
    have a := uL_len f k
    have b := sh_len (f k)
    rw [uL, List.length_append, List.length_append, List.length_map]
    simp
    omega
theorem sh_word (n : Nat) : Word (sh n) := hk_word n (nd_bd n).1
theorem wds_t (f : Nat → Nat) : wds [] (tL f 5) = [sh (f 0), sh (f 1), sh (f 2), sh (f 3), sh (f 4)] := by
  have e : tL f 5 = 9 :: (sh (f 0) ++ 32 :: 32 :: (sh (f 1) ++ 32 :: 32 :: (sh (f 2) ++ 32 :: 32 :: (sh (f 3) ++ 32 :: 32 :: (sh (f 4) ++ 32 :: 32 :: []))))) := by
    simp only [tL, List.append_assoc, List.cons_append, List.nil_append]
  have b : blk 32 = true := by decide
  rw [e, wds_b0 (by decide), wds_sp (sh_word _), wds_b0 b, wds_sp (sh_word _), wds_b0 b, wds_sp (sh_word _), wds_b0 b, wds_sp (sh_word _), wds_b0 b, wds_sp (sh_word _), wds_b0 b, wds_end0]
theorem wds_u (f : Nat → Nat) : wds [] (uL f 5) = [(sh (f 0)).map up, (sh (f 1)).map up, (sh (f 2)).map up, (sh (f 3)).map up, (sh (f 4)).map up] := by
  have e : uL f 5 = 32 :: ((sh (f 0)).map up ++ 32 :: ((sh (f 1)).map up ++ 32 :: ((sh (f 2)).map up ++ 32 :: ((sh (f 3)).map up ++ 32 :: (sh (f 4)).map up)))) := by
    simp only [uL, List.append_assoc, List.cons_append, List.nil_append]
  have w : ∀ n, Word ((sh n).map up) := fun n => up_word n (nd_bd n).1
  rw [e, wds_b0 (by decide), wds_sp (w _), wds_sp (w _), wds_sp (w _), wds_sp (w _), wds_last (w _)]
theorem hash_of {x : ByteArray} {f : Nat → Nat} {w0 w1 w2 w3 w4 : List UInt8} (h : wds [] (L x) = [w0, w1, w2, w3, w4]) (h0 : wrd w0 = some (f 0)) (h1 : wrd w1 = some (f 1)) (h2 : wrd w2 = some (f 2)) (h3 : wrd w3 = some (f 3)) (h4 : wrd w4 = some (f 4)) : hT x = true ∧ ∀ k, k < 5 → hN x k = f k := by
  have e : wordsS x = [B w0, B w1, B w2, B w3, B w4] := by unfold wordsS; rw [h]; rfl
  have a0 : wat x 0 = w0 := by unfold wat; rw [e]; exact L_B _
  have a1 : wat x 1 = w1 := by unfold wat; rw [e]; exact L_B _
  have a2 : wat x 2 = w2 := by unfold wat; rw [e]; exact L_B _
  have a3 : wat x 3 = w3 := by unfold wat; rw [e]; exact L_B _
  have a4 : wat x 4 = w4 := by unfold wat; rw [e]; exact L_B _
  have t : hT x = true := by
    rw [hT_iff]
    refine ⟨by rw [e]; rfl, fun k hk => ?_⟩
    rcases (show k = 0 ∨ k = 1 ∨ k = 2 ∨ k = 3 ∨ k = 4 by omega) with rfl | rfl | rfl | rfl | rfl
    · rw [a0]; exact (w_yes h0).2
    · rw [a1]; exact (w_yes h1).2
    · rw [a2]; exact (w_yes h2).2
    · rw [a3]; exact (w_yes h3).2
    · rw [a4]; exact (w_yes h4).2
  refine ⟨t, fun k hk => ?_⟩
  rw [hN_yes t]
  rcases (show k = 0 ∨ k = 1 ∨ k = 2 ∨ k = 3 ∨ k = 4 by omega) with rfl | rfl | rfl | rfl | rfl
  · rw [a0]; exact (w_yes h0).1
  · rw [a1]; exact (w_yes h1).1
  · rw [a2]; exact (w_yes h2).1
  · rw [a3]; exact (w_yes h3).1
  · rw [a4]; exact (w_yes h4).1
theorem hash_txt (f : Nat → Nat) (hf : ∀ k, k < 5 → f k < 4294967296) : hT (txt f) = true ∧ ∀ k, k < 5 → hN (txt f) k = f k := by
  have g : ∀ k, k < 5 → wrd (hk 8 (f k)) = some (f k) := fun k hk => wrd_hk (by decide) (by decide) (hf k hk)
  exact hash_of (wds_txt f) (g 0 (by decide)) (g 1 (by decide)) (g 2 (by decide)) (g 3 (by decide)) (g 4 (by decide))
theorem hash_t (f : Nat → Nat) (hf : ∀ k, k < 5 → f k < 4294967296) : hT (B (tL f 5)) = true ∧ ∀ k, k < 5 → hN (B (tL f 5)) k = f k := by
  have g : ∀ k, k < 5 → wrd (sh (f k)) = some (f k) := fun k hk => wrd_hk (nd_bd _).1 (nd_bd _).2 (nd_lt (hf k hk))
  exact hash_of (by rw [L_B]; exact wds_t f) (g 0 (by decide)) (g 1 (by decide)) (g 2 (by decide)) (g 3 (by decide)) (g 4 (by decide))
theorem hash_u (f : Nat → Nat) (hf : ∀ k, k < 5 → f k < 4294967296) : hT (B (uL f 5)) = true ∧ ∀ k, k < 5 → hN (B (uL f 5)) k = f k := by
  have g : ∀ k, k < 5 → wrd ((sh (f k)).map up) = some (f k) := fun k hk => wrd_up (nd_bd _).1 (nd_bd _).2 (nd_lt (hf k hk))
  exact hash_of (by rw [L_B]; exact wds_u f) (g 0 (by decide)) (g 1 (by decide)) (g 2 (by decide)) (g 3 (by decide)) (g 4 (by decide))
/-- the first digit. -/
theorem hk_first (m n : Nat) : (hk (m + 1) n)[0]? = some (hd (n / 16 ^ m % 16)) := by
  rw [hk_get (m + 1) n 0 (by omega)]
  rfl
theorem hk_tail : ∀ (m n : Nat), (hk (m + 1) n).drop 1 = hk m n
  | 0, n => rfl
  | m + 1, n => by
    have hl := hk_len (m + 1) (n / 16)
    rw [hk, List.drop_append_of_le_length (by omega), hk_tail m (n / 16), hk]
/-- a nought, as long as there are more digits than wanted. -/
theorem first_zero {m n : Nat} (h : nd n ≤ m) (hn : n < 4294967296) : n / 16 ^ m % 16 = 0 := by
  have a := nd_lt hn
  have b : 16 ^ nd n ≤ 16 ^ m := Nat.pow_le_pow_right (by decide) h
  rw [Nat.div_eq_of_lt (by omega)]
theorem first_more {m n : Nat} (h : nd n = m + 1) (h1 : 1 < nd n) (hn : n < 4294967296) : n / 16 ^ m % 16 ≠ 0 := by
  have a := nd_lt hn
  have b := nd_ge h1
  rw [h, Nat.pow_succ] at a
  rw [h, Nat.add_sub_cancel] at b
  have p : 0 < 16 ^ m := Nat.pow_pos (by decide)
  have c : 1 ≤ n / 16 ^ m := (Nat.le_div_iff_mul_le p).2 (by omega)
  have d : n / 16 ^ m < 16 := (Nat.div_lt_iff_lt_mul p).2 (by rw [Nat.mul_comm]; exact a)
  rw [Nat.mod_eq_of_lt d]
  omega
end Go.Proofs.YtfnkloecfjppeaaDoor.nx
