/-
  Plain mathematics of hashes' texts: the words of a text of five numbers, in small or great letters, with the first noughts or without them, are these numbers. Nothing of any program. Conditions: the numbers are below 2^32.
-/
import Derived.Test.YtldieebiicblbaaGreatDoorG06
import Derived.Test.YtldieebiicblbaaGreatDoorG15
import Derived.Test.YtldieebiicblbaaGreatDoorG16
import Derived.Test.YtldieebiicblbaaGreatDoorG19
namespace Go.Proofs.YtldieebiicblbaaGreatDoor.nx
open lx
open sha (hd)
set_option linter.unusedVariables false
set_option maxRecDepth 100000

/-- a digit in great letters. -/
def up (c : UInt8) : UInt8 := if 97 ≤ c.toNat then c - 32 else c
theorem hd_blk {n : Nat} (h : n < 16) : blk (hd n) = false := by
  rcases sixteen h with rfl | rfl | rfl | rfl | rfl | rfl | rfl | rfl | rfl | rfl | rfl | rfl | rfl | rfl | rfl | rfl <;> rfl
theorem up_blk {n : Nat} (h : n < 16) : blk (up (hd n)) = false := by
  rcases sixteen h with rfl | rfl | rfl | rfl | rfl | rfl | rfl | rfl | rfl | rfl | rfl | rfl | rfl | rfl | rfl | rfl <;> rfl
theorem dv_up {n : Nat} (h : n < 16) : dv (up (hd n)).toNat = some n := by
  rcases sixteen h with rfl | rfl | rfl | rfl | rfl | rfl | rfl | rfl | rfl | rfl | rfl | rfl | rfl | rfl | rfl | rfl <;> rfl
theorem hd_zero {n : Nat} (h : n < 16) (h0 : n ≠ 0) : (hd n).toNat ≠ 48 := by
  rcases sixteen h with rfl | rfl | rfl | rfl | rfl | rfl | rfl | rfl | rfl | rfl | rfl | rfl | rfl | rfl | rfl | rfl <;> first | decide | exact absurd rfl h0
theorem hd_le {n : Nat} (h : n < 16) : (hd n).toNat ≤ 102 := by
  rcases sixteen h with rfl | rfl | rfl | rfl | rfl | rfl | rfl | rfl | rfl | rfl | rfl | rfl | rfl | rfl | rfl | rfl <;> decide
theorem hk_mem : ∀ (k n : Nat), ∀ c ∈ hk k n, ∃ d, d < 16 ∧ c = hd d
  | 0, n, c, h => by cases h
  | k + 1, n, c, h => by
    rw [hk] at h
    rcases List.mem_append.1 h with h | h
    · exact hk_mem k _ c h
    · exact ⟨n % 16, Nat.mod_lt _ (by decide), List.mem_singleton.1 h⟩
theorem hk_word {k : Nat} (n : Nat) (h : 1 ≤ k) : Word (hk k n) := by
  refine ⟨fun e => ?_, fun c hc => ?_⟩
  · have := hk_len k n
    rw [e] at this
    simp at this
    omega
  · obtain ⟨d, hd, rfl⟩ := hk_mem k n c hc
    exact hd_blk hd
theorem up_word {k : Nat} (n : Nat) (h : 1 ≤ k) : Word ((hk k n).map up) := by
  refine ⟨fun e => ?_, fun c hc => ?_⟩
  · have := hk_len k n
    rw [List.map_eq_nil_iff.1 e] at this
    simp at this
    omega
  · obtain ⟨x, hx, rfl⟩ := List.mem_map.1 hc
    obtain ⟨d, hd, rfl⟩ := hk_mem k n x hx
    exact up_blk hd
theorem wg_up : ∀ (l : List UInt8) (m : Nat), (∀ c ∈ l, ∃ d, d < 16 ∧ c = hd d) → wg m (l.map up) = wg m l
  | [], m, _ => rfl
  | c :: r, m, h => by
    obtain ⟨d, hd, rfl⟩ := h c (by simp)
    rw [List.map_cons, wg_c (dv_up hd), wg_c (dv_hd hd), wg_up r _ (fun x hx => h x (by simp [hx]))]
theorem wrd_up {k n : Nat} (h1 : 1 ≤ k) (h8 : k ≤ 8) (h : n < 16 ^ k) : wrd ((hk k n).map up) = some n := by
  have hl := hk_len k n
  rw [wrd_in (up_word n h1).1 (by rw [List.length_map]; omega), wg_up _ _ (hk_mem k n), ← wrd_in (hk_word n h1).1 (by omega)]
  exact wrd_hk h1 h8 h
theorem wds_sp {x : List UInt8} (h : Word x) (r : List UInt8) : wds [] (x ++ 32 :: r) = x :: wds [] r := by
  rw [wds_plain x h.2, List.nil_append, wds_b (by decide) h.1]
theorem wds_last {x : List UInt8} (h : Word x) : wds [] x = [x] := by
  have := wds_plain x h.2 [] []
  rw [List.append_nil, List.nil_append, wds_end h.1] at this
  exact this
theorem wds_txt (f : Nat → Nat) : wds [] (L (txt f)) = [hk 8 (f 0), hk 8 (f 1), hk 8 (f 2), hk 8 (f 3), hk 8 (f 4)] := by
  have e : L (txt f) = hk 8 (f 0) ++ 32 :: (hk 8 (f 1) ++ 32 :: (hk 8 (f 2) ++ 32 :: (hk 8 (f 3) ++ 32 :: hk 8 (f 4)))) := by
    unfold txt
    rw [L_B, txL_next _ 4 (by decide), txL_next _ 3 (by decide), txL_next _ 2 (by decide), txL_next _ 1 (by decide), txL_first]
    simp only [List.append_assoc, List.cons_append, List.nil_append]
  rw [e, wds_sp (hk_word _ (by decide)), wds_sp (hk_word _ (by decide)), wds_sp (hk_word _ (by decide)), wds_sp (hk_word _ (by decide)), wds_last (hk_word _ (by decide))]
theorem txt_size (f : Nat → Nat) : (txt f).size = 44 := by
  unfold txt
  rw [B_size, txL_next _ 4 (by decide), txL_next _ 3 (by decide), txL_next _ 2 (by decide), txL_next _ 1 (by decide), txL_first]
  simp only [List.length_append, hk_len, List.length_singleton]
/-- without the first noughts. -/
def sh (n : Nat) : List UInt8 := hk (nd n) n
def tL (f : Nat → Nat) : Nat → List UInt8
  | 0 => [9]
  | k + 1 => tL f k ++ sh (f k) ++ [32, 32]
def uL (f : Nat → Nat) : Nat → List UInt8
  | 0 => []
  | k + 1 => uL f k ++ [32] ++ (sh (f k)).map up
theorem sh_len (n : Nat) : (sh n).length ≤ 8 := by unfold sh; rw [hk_len]; exact (nd_bd n).2
theorem tL_len (f : Nat → Nat) : ∀ k, (tL f k).length ≤ 1 + 10 * k
  | 0 => by simp [tL]
  | k + 1 => by
    have a := tL_len f k
    have b := sh_len (f k)
    rw [tL, List.length_append, List.length_append]
    simp
    omega
theorem uL_len (f : Nat → Nat) : ∀ k, (uL f k).length ≤ 9 * k
  | 0 => by simp [uL]
  | k + 1 => by
    have a := uL_len f k
    have b := sh_len (f k)
    rw [uL, List.length_append, List.length_append, List.length_map]
    simp
    omega
theorem sh_word (n : Nat) : Word (sh n) := hk_word n (nd_bd n).1
theorem wds_t (f : Nat → Nat) : wds [] (tL f 5) = [sh (f 0), sh (f 1), sh (f 2), sh (f 3), sh (f 4)] := by
  have e : tL f 5 = 9 :: (sh (f 0) ++ 32 :: 32 :: (sh (f 1) ++ 32 :: 32 :: (sh (f 2) ++ 32 :: 32 :: (sh (f 3) ++ 32 :: 32 :: (sh (f 4) ++ 32 :: 32 :: []))))) := by
    simp only [tL, List.append_assoc, List.cons_append, List.nil_append]
  have b : blk 32 = true := by decide
  rw [e, wds_b0 (by decide), wds_sp (sh_word _), wds_b0 b, wds_sp (sh_word _), wds_b0 b, wds_sp (sh_word _), wds_b0 b, wds_sp (sh_word _), wds_b0 b, wds_sp (sh_word _), wds_b0 b, wds_end0]
theorem wds_u (f : Nat → Nat) : wds [] (uL f 5) = [(sh (f 0)).map up, (sh (f 1)).map up, (sh (f 2)).map up, (sh (f 3)).map up, (sh (f 4)).map up] := by
  have e : uL f 5 = 32 :: ((sh (f 0)).map up ++ 32 :: ((sh (f 1)).map up ++ 32 :: ((sh (f 2)).map up ++ 32 :: ((sh (f 3)).map up ++ 32 :: (sh (f 4)).map up)))) := by
    simp only [uL, List.append_assoc, List.cons_append, List.nil_append]
  have w : ∀ n, Word ((sh n).map up) := fun n => up_word n (nd_bd n).1
  rw [e, wds_b0 (by decide), wds_sp (w _), wds_sp (w _), wds_sp (w _), wds_sp (w _), wds_last (w _)]
theorem hash_of {x : ByteArray} {f : Nat → Nat} {w0 w1 w2 w3 w4 : List UInt8} (h : wds [] (L x) = [w0, w1, w2, w3, w4]) (h0 : wrd w0 = some (f 0)) (h1 : wrd w1 = some (f 1)) (h2 : wrd w2 = some (f 2)) (h3 : wrd w3 = some (f 3)) (h4 : wrd w4 = some (f 4)) : hT x = true ∧ ∀ k, k < 5 → hN x k = f k := by
  have e : wordsS x = [B w0, B w1, B w2, B w3, B w4] := by unfold wordsS; rw [h]; rfl
  have a0 : wat x 0 = w0 := by unfold wat; rw [e]; exact L_B _
  have a1 : wat x 1 = w1 := by unfold wat; rw [e]; exact L_B _
  have a2 : wat x 2 = w2 := by unfold wat; rw [e]; exact L_B _
  have a3 : wat x 3 = w3 := by unfold wat; rw [e]; exact L_B _
  have a4 : wat x 4 = w4 := by unfold wat; rw [e]; exact L_B _
  have t : hT x = true := by
    rw [hT_iff]
    refine ⟨by rw [e]; rfl, fun k hk => ?_⟩
    rcases (show k = 0 ∨ k = 1 ∨ k = 2 ∨ k = 3 ∨ k = 4 by omega) with rfl | rfl | rfl | rfl | rfl
    · rw [a0]; exact (w_yes h0).2
    · rw [a1]; exact (w_yes h1).2
    · rw [a2]; exact (w_yes h2).2
    · rw [a3]; exact (w_yes h3).2
    · rw [a4]; exact (w_yes h4).2
  refine ⟨t, fun k hk => ?_⟩
  rw [hN_yes t]
  rcases (show k = 0 ∨ k = 1 ∨ k = 2 ∨ k = 3 ∨ k = 4 by omega) with rfl | rfl | rfl | rfl | rfl
  · rw [a0]; exact (w_yes h0).1
  · rw [a1]; exact (w_yes h1).1
  · rw [a2]; exact (w_yes h2).1
  · rw [a3]; exact (w_yes h3).1
  · rw [a4]; exact (w_yes h4).1
theorem hash_txt (f : Nat → Nat) (hf : ∀ k, k < 5 → f k < 4294967296) : hT (txt f) = true ∧ ∀ k, k < 5 → hN (txt f) k = f k := by
  have g : ∀ k, k < 5 → wrd (hk 8 (f k)) = some (f k) := fun k hk => wrd_hk (by decide) (by decide) (hf k hk)
  exact hash_of (wds_txt f) (g 0 (by decide)) (g 1 (by decide)) (g 2 (by decide)) (g 3 (by decide)) (g 4 (by decide))
theorem hash_t (f : Nat → Nat) (hf : ∀ k, k < 5 → f k < 4294967296) : hT (B (tL f 5)) = true ∧ ∀ k, k < 5 → hN (B (tL f 5)) k = f k := by
  have g : ∀ k, k < 5 → wrd (sh (f k)) = some (f k) := fun k hk => wrd_hk (nd_bd _).1 (nd_bd _).2 (nd_lt (hf k hk))
  exact hash_of (by rw [L_B]; exact wds_t f) (g 0 (by decide)) (g 1 (by decide)) (g 2 (by decide)) (g 3 (by decide)) (g 4 (by decide))
theorem hash_u (f : Nat → Nat) (hf : ∀ k, k < 5 → f k < 4294967296) : hT (B (uL f 5)) = true ∧ ∀ k, k < 5 → hN (B (uL f 5)) k = f k := by
  have g : ∀ k, k < 5 → wrd ((sh (f k)).map up) = some (f k) := fun k hk => wrd_up (nd_bd _).1 (nd_bd _).2 (nd_lt (hf k hk))
  exact hash_of (by rw [L_B]; exact wds_u f) (g 0 (by decide)) (g 1 (by decide)) (g 2 (by decide)) (g 3 (by decide)) (g 4 (by decide))
/-- the first digit. -/
theorem hk_first (m n : Nat) : (hk (m + 1) n)[0]? = some (hd (n / 16 ^ m % 16)) := by
  rw [hk_get (m + 1) n 0 (by omega)]
  rfl
theorem hk_tail : ∀ (m n : Nat), (hk (m + 1) n).drop 1 = hk m n
  | 0, n => rfl
  | m + 1, n => by
    have hl := hk_len (m + 1) (n / 16)
    rw [hk, List.drop_append_of_le_length (by omega), hk_tail m (n / 16), hk]
/-- a nought, as long as there are more digits than wanted. -/
theorem first_zero {m n : Nat} (h : nd n ≤ m) (hn : n < 4294967296) : n / 16 ^ m % 16 = 0 := by
  have a := nd_lt hn
  have b : 16 ^ nd n ≤ 16 ^ m := Nat.pow_le_pow_right (by decide) h
  rw [Nat.div_eq_of_lt (by omega)]
theorem first_more {m n : Nat} (h : nd n = m + 1) (h1 : 1 < nd n) (hn : n < 4294967296) : n / 16 ^ m % 16 ≠ 0 := by
  have a := nd_lt hn
  have b := nd_ge h1
  rw [h, Nat.pow_succ] at a
  rw [h, Nat.add_sub_cancel] at b
  have p : 0 < 16 ^ m := Nat.pow_pos (by decide)
  have c : 1 ≤ n / 16 ^ m := (Nat.le_div_iff_mul_le p).2 (by omega)
  have d : n / 16 ^ m < 16 := (Nat.div_lt_iff_lt_mul p).2 (by rw [Nat.mul_comm]; exact a)
  rw [Nat.mod_eq_of_lt d]
  omega
end Go.Proofs.YtldieebiicblbaaGreatDoor.nx

/-
  The text of a list, as plain mathematics (tx, full), and that what was written is read as it was. No condition beside those in the statements.
-/
namespace Go.Proofs.YtldieebiicblbaaGreatDoor.ls
open lx nx
open lm (Lp ce Good dy st)
set_option linter.unusedVariables false
set_option maxRecDepth 100000

/-! decimals -/
theorem dd_decs : ∀ n : Nat, Lib.decDigits n = decs n := by
  intro n
  induction n using Nat.strongRecOn with
  | _ n ih =>
    by_cases h : n < 10
    · rw [Lib.decDigits_one h]
      unfold decs
      by_cases h0 : n = 0
      · subst h0; rfl
      · rw [if_neg h0, dec_pos h0, show n / 10 = 0 by omega, dec_zero, List.nil_append]
        unfold dgt
        rw [show n % 10 = n by omega]
    · rw [Lib.decDigits, dif_neg h, ih (n / 10) (by omega)]
      unfold decs
      rw [if_neg (by omega), if_neg (by omega), dec_pos (show n ≠ 0 by omega)]
      rfl
def num (n : Int) : List UInt8 := decs n.toNat
theorem itoa_num {n : Int} (h : 0 ≤ n) : Lib.itoa n = num n := by
  unfold Lib.itoa num
  rw [if_neg (by omega), dd_decs]
theorem num_dg (n : Int) : ∀ c ∈ num n, dgB c = true := by
  intro c hc
  unfold num decs at hc
  split at hc
  · simp at hc; subst hc; decide
  · exact dec_dg _ c hc
theorem num_ne (n : Int) : num n ≠ [] := decs_ne _
theorem num_len {n : Int} (h : n ≤ 9223372036854775807) : (num n).length ≤ 19 := decs_len _ (by omega)
theorem num_nm {n : Int} (h0 : 0 ≤ n) (h : n ≤ 9223372036854775807) : nm (num n) = some n := by
  have := nm_decs n.toNat 0 (by omega)
  rw [List.replicate_zero, List.nil_append] at this
  unfold num
  rw [this]
  show some ((n.toNat : Nat) : Int) = some n
  rw [Int.toNat_of_nonneg h0]
theorem dg_facts {c : UInt8} (h : dgB c = true) : blk c = false ∧ c ≠ 10 ∧ c ≠ 13 ∧ c ≠ 35 := by
  unfold dgB at h
  rw [decide_eq_true_eq] at h
  refine ⟨?_, ?_, ?_, ?_⟩
  · unfold blk
    rw [decide_eq_false_iff_not]
    rintro (rfl | rfl) <;> exact absurd h (by decide)
  all_goals
    rintro rfl
    exact absurd h (by decide)
theorem num_word (n : Int) : Word (num n) := ⟨num_ne n, fun c hc => (dg_facts (num_dg n c hc)).1⟩

/-! lines of a list -/
def tl (a b : List UInt8) : List UInt8 := a ++ [9] ++ b
theorem wds_tab (b : List UInt8) (h : Word b) : wds [] (9 :: b) = [b] := by rw [wds_b0 (by decide), wds_last h]
theorem wds_two {a b : List UInt8} (ha : Word a) (hb : Word b) : wds [] (tl a b) = [a, b] := by
  unfold tl
  rw [List.append_assoc, wds_plain a ha.2, List.nil_append, List.singleton_append, wds_b (by decide) ha.1, wds_last hb]
/-- a line that a split leaves as it is. -/
def Fin1 (l : List UInt8) : Prop := (∀ c ∈ l, c ≠ 10) ∧ trim l = l
theorem fin1_of {a b : List UInt8} (ha : ∀ c ∈ a, c ≠ 10) (hb : ∀ c ∈ b, c ≠ 10 ∧ c ≠ 13) (hne : b ≠ []) : Fin1 (tl a b) := by
  refine ⟨fun c hc => ?_, trim_keep fun m e => ?_⟩
  · unfold tl at hc
    simp only [List.mem_append, List.mem_singleton] at hc
    rcases hc with (hc | rfl) | hc
    · exact ha c hc
    · decide
    · exact (hb c hc).1
  · obtain ⟨b', z, rfl⟩ : ∃ b' z, b = b' ++ [z] := ⟨_, _, (List.dropLast_concat_getLast hne).symm⟩
    unfold tl at e
    rw [← List.append_assoc] at e
    have := (List.append_inj' e rfl).2
    simp at this
    subst this
    exact (hb 13 (by simp)).2 rfl
def byl (ls : List (List UInt8)) : List UInt8 := ls.flatMap (· ++ [10])
theorem bytes_app (a b : List (List UInt8)) : byl (a ++ b) = byl a ++ byl b := List.flatMap_append
theorem spl_bytes : ∀ (ls : List (List UInt8)), (∀ l ∈ ls, Fin1 l) → ∀ r, spl [] (byl ls ++ r) = ls ++ spl [] r
  | [], _, r => rfl
  | l :: ls, h, r => by
    have hl := h l (by simp)
    have e : byl (l :: ls) = l ++ [10] ++ byl ls := by unfold byl; rw [List.flatMap_cons]
    rw [e, List.append_assoc, List.append_assoc, List.singleton_append, spl_hit hl.1, hl.2, spl_bytes ls (fun x hx => h x (by simp [hx])) r]
    rfl
theorem spl_all {ls : List (List UInt8)} (h : ∀ l ∈ ls, Fin1 l) : spl [] (byl ls) = ls := by
  have := spl_bytes ls h []
  rw [List.append_nil, spl_end0, List.append_nil] at this
  exact this

/-! what each line is -/
theorem two_word (c : UInt8) (h : blk c = false) : Word [35, c] := ⟨by simp, fun x hx => by
  simp only [List.mem_cons, List.not_mem_nil, or_false] at hx
  rcases hx with rfl | rfl
  · decide
  · exact h⟩
theorem kd_stamp (b : List UInt8) (hb : Word b) : kd (tl [35, 36] b) = 1 := by
  unfold kd
  rw [if_neg (by rw [wds_two (two_word 36 (by decide)) hb]; simp), if_pos (show (tl [35, 36] b).take 2 = [35, 36] from rfl)]
theorem kd_expiry (b : List UInt8) (hb : Word b) : kd (tl [35, 64] b) = 2 := by
  unfold kd
  rw [if_neg (by rw [wds_two (two_word 64 (by decide)) hb]; simp), if_neg (show ¬ (tl [35, 64] b).take 2 = [35, 36] from by show ¬ [35, 64] = [35, 36]; decide), if_pos (show (tl [35, 64] b).take 2 = [35, 64] from rfl)]
/-- a line with a hash; c: a blank. -/
def hl (c : UInt8) (f : Nat → Nat) : List UInt8 := [35, 104] ++ [c] ++ L (txt f)
theorem wds_hl {c : UInt8} (h : blk c = true) (f : Nat → Nat) : wds [] (hl c f) = [35, 104] :: wds [] (L (txt f)) := by
  unfold hl
  rw [List.append_assoc, wds_plain [35, 104] (two_word 104 (by decide)).2, List.nil_append, List.singleton_append, wds_b h (by simp)]
theorem kd_hash {c : UInt8} (h : blk c = true) (f : Nat → Nat) : kd (hl c f) = 3 := by
  unfold kd
  rw [if_neg (by rw [wds_hl h]; simp), if_neg (show ¬ (hl c f).take 2 = [35, 36] from by show ¬ [35, 104] = [35, 36]; decide), if_neg (show ¬ (hl c f).take 2 = [35, 64] from by show ¬ [35, 104] = [35, 64]; decide), if_pos (show (hl c f).take 2 = [35, 104] from rfl)]
theorem first_dg (n : Int) : ∃ c r, num n = c :: r ∧ c ≠ 35 := by
  cases h : num n with
  | nil => exact absurd h (num_ne n)
  | cons c r => exact ⟨c, r, rfl, (dg_facts (num_dg n c (by rw [h]; simp))).2.2.2⟩
theorem kd_data (a b : Int) : kd (tl (num a) (num b)) = 5 := by
  unfold kd
  obtain ⟨c, r, e, hc⟩ := first_dg a
  rw [wds_two (num_word a) (num_word b), if_neg (by simp)]
  have ht : ∀ x, ¬ (tl (num a) (num b)).take 2 = [35, x] := by
    intro x h
    unfold tl at h
    rw [e] at h
    simp at h
    exact hc h.1
  rw [if_neg (ht _), if_neg (ht _), if_neg (ht _), if_neg]
  rw [List.headD_cons, e]
  simp
  exact hc
theorem ok_num {k : Nat} {l : List UInt8} {n : Int} (hk : kd l = k) (h12 : k = 1 ∨ k = 2) (hd : l.drop 2 = 9 :: num n) (h0 : 0 ≤ n) (h1 : n ≤ 9223372036854775807) : ok l = true ∧ g1 l = n ∧ hw k l = num n := by
  have hw' : ws k l = [num n] := by
    unfold ws sd
    rw [if_neg (by omega), hd, wds_tab _ (num_word n)]
  have hn : nmT (num n) = true := by unfold nmT; rw [num_nm h0 h1]; rfl
  have hr : rk k l = true := by
    unfold rk cn
    rw [hw', if_neg (by omega)]
    simp [hn]
  refine ⟨?_, ?_, ?_⟩
  · unfold ok
    rw [hk, if_neg (by omega), if_neg (by omega)]
    exact hr
  · unfold g1
    rw [hk, hw']
    show nmI (num n) = n
    unfold nmI
    rw [num_nm h0 h1]
    rfl
  · unfold hw
    rw [if_pos ⟨hk, hr⟩, hw']
    simp
theorem ok_data {a b : Int} (ha : 0 ≤ a) (ha1 : a ≤ 9223372036854775807) (hb : 0 ≤ b) (hb1 : b ≤ 9223372036854775807) : ok (tl (num a) (num b)) = true ∧ g1 (tl (num a) (num b)) = a ∧ g2 (tl (num a) (num b)) = b := by
  have hk := kd_data a b
  have hs : ahd (tl (num a) (num b)) = tl (num a) (num b) := by
    unfold ahd
    have no : ∀ c ∈ tl (num a) (num b), decide (c ≠ 35) = true := by
      intro c hc
      rw [decide_eq_true_eq]
      unfold tl at hc
      simp only [List.mem_append, List.mem_singleton] at hc
      rcases hc with (hc | rfl) | hc
      · exact (dg_facts (num_dg _ c hc)).2.2.2
      · decide
      · exact (dg_facts (num_dg _ c hc)).2.2.2
    have := List.takeWhile_append_of_pos (l₂ := []) no
    rw [List.append_nil, List.takeWhile_nil, List.append_nil] at this
    exact this
  have hw' : ws 5 (tl (num a) (num b)) = [num a, num b] := by
    unfold ws sd
    rw [if_pos rfl, hs, wds_two (num_word a) (num_word b)]
  have na : nmT (num a) = true := by unfold nmT; rw [num_nm ha ha1]; rfl
  have nb : nmT (num b) = true := by unfold nmT; rw [num_nm hb hb1]; rfl
  refine ⟨?_, ?_, ?_⟩
  · unfold ok
    rw [hk, if_neg (by omega), if_neg (by omega)]
    unfold rk cn
    rw [hw']
    simp [na, nb]
  · unfold g1
    rw [hk, hw']
    show nmI (num a) = a
    unfold nmI
    rw [num_nm ha ha1]
    rfl
  · unfold g2
    rw [hk, hw']
    show nmI (num b) = b
    unfold nmI
    rw [num_nm hb hb1]
    rfl
theorem ok_hash {c : UInt8} (h : blk c = true) (f : Nat → Nat) (hf : ∀ k, k < 5 → f k < 4294967296) : ok (hl c f) = true ∧ ∀ k, k < 5 → hN (B ((hl c f).drop 2)) k = f k := by
  have e : (hl c f).drop 2 = c :: L (txt f) := rfl
  have hw' : wds [] (L (B (c :: L (txt f)))) = [hk 8 (f 0), hk 8 (f 1), hk 8 (f 2), hk 8 (f 3), hk 8 (f 4)] := by rw [L_B, wds_b0 h, wds_txt]
  have p16 : (16 : Nat) ^ 8 = 4294967296 := rfl
  have hh := hash_of (f := f) hw' (wrd_hk (by decide) (by decide) (by rw [p16]; exact hf 0 (by decide))) (wrd_hk (by decide) (by decide) (by rw [p16]; exact hf 1 (by decide))) (wrd_hk (by decide) (by decide) (by rw [p16]; exact hf 2 (by decide))) (wrd_hk (by decide) (by decide) (by rw [p16]; exact hf 3 (by decide))) (wrd_hk (by decide) (by decide) (by rw [p16]; exact hf 4 (by decide)))
  refine ⟨?_, fun k hk' => by rw [e]; exact hh.2 k hk'⟩
  unfold ok
  rw [kd_hash h, if_neg (by omega), if_pos rfl, e]
  exact hh.1
theorem txt_bytes (f : Nat → Nat) : ∀ c ∈ L (txt f), c ≠ 10 ∧ c ≠ 13 := by
  have hd_ok : ∀ d, d < 16 → sha.hd d ≠ 10 ∧ sha.hd d ≠ 13 := by decide
  have key : ∀ k, ∀ c ∈ txL f k, c ≠ 10 ∧ c ≠ 13 := by
    intro k
    induction k with
    | zero => intro c hc; simp [txL] at hc
    | succ k ih =>
      intro c hc
      rw [txL] at hc
      simp only [List.mem_append] at hc
      rcases hc with (hc | hc) | hc
      · exact ih c hc
      · split at hc
        · simp at hc
        · simp at hc; subst hc; decide
      · obtain ⟨d, hd1, rfl⟩ := hk_mem 8 (f k) c hc
        exact hd_ok d hd1
  intro c hc
  unfold txt at hc
  rw [L_B] at hc
  exact key 5 c hc
theorem fin1_hash {c : UInt8} (h : blk c = true) (f : Nat → Nat) : Fin1 (hl c f) := by
  have hc : c ≠ 10 := by rintro rfl; exact absurd h (by decide)
  have hne : L (txt f) ≠ [] := by
    intro e
    have := txt_size f
    rw [← L_len, e] at this
    simp at this
  refine ⟨fun x hx => ?_, trim_keep fun m e => ?_⟩
  · unfold hl at hx
    simp only [List.mem_append, List.mem_cons, List.not_mem_nil, or_false] at hx
    rcases hx with ((rfl | rfl) | rfl) | hx
    · decide
    · decide
    · exact hc
    · exact (txt_bytes f x hx).1
  · have hb := txt_bytes f
    unfold hl at e
    obtain ⟨b', z, hz⟩ : ∃ b' z, L (txt f) = b' ++ [z] := ⟨_, _, (List.dropLast_concat_getLast hne).symm⟩
    rw [hz] at e hb
    rw [← List.append_assoc] at e
    have := (List.append_inj' e rfl).2
    simp at this
    subst this
    exact (hb 13 (by simp)).2 rfl

/-! the text of a table -/
def dln (lv : List Lp) (i : Nat) : List UInt8 := tl (num ((dy lv i + 1) * 86400 + 2208988800)) (num (10 + lm.tot lv (i + 1)))
def dl (lv : List Lp) (k : Nat) : List (List UInt8) := (List.range k).map (dln lv)
theorem dl_succ (lv : List Lp) (k : Nat) : dl lv (k + 1) = dl lv k ++ [dln lv k] := by
  unfold dl
  rw [List.range_succ, List.map_append]
  rfl
def hd2 (has : Bool) (x stamp : Int) : List (List UInt8) := tl [35, 36] (num stamp) :: ((if has = true then [tl [35, 64] (num (x + 2208988800))] else []) ++ [tl (num 2272060800) (num 10)])
def pre (lv : List Lp) (has : Bool) (x stamp : Int) : List (List UInt8) := hd2 has x stamp ++ dl lv lv.length
def full (lv : List Lp) (has : Bool) (x stamp : Int) : List (List UInt8) := pre lv has x stamp ++ [hl 9 (hq (pre lv has x stamp))]
/-- there is a text. -/
def TOK (lv : List Lp) (has : Bool) (x stamp : Int) : Prop := 0 ≤ stamp ∧ ce lv has x = 0 ∧ ∀ k, k < lv.length → leap.rl lv k = false ∧ 0 ≤ 10 + lm.tot lv (k + 1)

theorem dy_take (lv : List Lp) {n i : Nat} (h : i < n) : (lv.take n).getD i lm.z3 = lv.getD i lm.z3 := by
  rw [List.getD_eq_getElem?_getD, List.getD_eq_getElem?_getD, List.getElem?_take, if_pos h]
theorem good_take {lv : List Lp} (h : lm.Good lv) (n : Nat) : lm.Good (lv.take n) := by
  intro i hi
  rw [List.length_take] at hi
  have := h i (by omega)
  unfold lm.wr dy st at *
  rw [dy_take lv (by omega)]
  by_cases h0 : 0 < i
  · rw [dy_take lv (show i - 1 < n by omega)]
    exact this
  · simpa [h0] using this
theorem ce_good {lv : List Lp} (h : lm.Good lv) : ce lv false 0 = 0 := by rw [(lm.ce_end h).2]; rfl
theorem take_snoc (lv : List Lp) {k : Nat} (h : k < lv.length) (hr : leap.rl lv k = false) : lv.take k ++ [(dy lv k, st lv k, false)] = lv.take (k + 1) := by
  rw [List.take_succ_eq_append_getElem h]
  congr 2
  unfold dy st
  unfold leap.rl at hr
  rw [List.getD_eq_getElem?_getD, List.getElem?_eq_getElem h] at *
  simp only [Option.getD_some] at *
  rw [← hr]
theorem tot_up {lv : List Lp} (h : lm.Good lv) (k : Nat) (hk : k ≤ lv.length) : -200 ≤ lm.tot lv k ∧ lm.tot lv k ≤ 200 := by
  have := lm.tot_bd h k hk
  have := h.len
  omega
theorem run_dl {lv : List Lp} (hg : lm.Good lv) (hc : ∀ k, k < lv.length → leap.rl lv k = false ∧ 0 ≤ 10 + lm.tot lv (k + 1)) (j : Nat) (s : S) (h5 : s.p 5 ≠ 0) (hl : s.lv = []) (hct : s.ct = 10) :
    ∀ k, k ≤ lv.length → ∃ s', run (dl lv k) j s = ((0, 0), s') ∧ s'.p = s.p ∧ s'.lv = lv.take k ∧ s'.ct = 10 + lm.tot lv k ∧ s'.ex = s.ex ∧ s'.h = s.h
  | 0, _ => ⟨s, rfl, rfl, by rw [hl]; rfl, by rw [hct]; rfl, rfl, rfl⟩
  | k + 1, hk => by
    obtain ⟨s', h1, h2, h3, h4, h6, h7⟩ := run_dl hg hc j s h5 hl hct k (by omega)
    have hd := hg.day (i := k) (by omega)
    have hst := hg.step (i := k) (by omega)
    have hcc := hc k (by omega)
    have hu := tot_up hg (k + 1) hk
    have ht : lm.tot lv (k + 1) = lm.tot lv k + st lv k := rfl
    obtain ⟨o1, o2, o3⟩ := ok_data (a := (dy lv k + 1) * 86400 + 2208988800) (b := 10 + lm.tot lv (k + 1)) (by omega) (by omega) hcc.2 (by omega)
    have hkd : kd (dln lv k) = 5 := kd_data _ _
    have hlp : lp (g1 (dln lv k)) (g2 (dln lv k) - s'.ct) = (dy lv k, st lv k, false) := by
      unfold lp dln
      rw [o2, o3, h4]
      congr 1
      · omega
      · congr 1
        omega
    have hE : stE (dln lv k) s' = 0 := by
      unfold stE dE
      rw [hkd, if_neg (by omega), if_pos rfl, if_neg (by unfold dln; rw [o1]; decide), if_pos (by rw [h2]; exact h5)]
      unfold lE
      rw [hlp, h3, take_snoc lv (by omega) hcc.1, ce_good (good_take hg _)]
      unfold dln
      rw [o2, o3, h4, if_neg (by omega), if_neg (by omega)]
    refine ⟨stS (dln lv k) (j + (dl lv k).length + 1) s', ?_, ?_, ?_, ?_, ?_, ?_⟩
    · rw [dl_succ, run_app, h1, if_pos rfl, run_go hE, run_nil]
    · unfold stS put
      simp only
      rw [if_neg (by omega), hkd]
      funext i
      rw [if_neg (fun g => h5 (by rw [← h2]; exact g.2)), h2]
    · unfold stS
      simp only
      rw [if_pos ⟨hkd, by rw [h2]; exact h5⟩, hlp, h3, take_snoc lv (by omega) hcc.1]
    · unfold stS
      simp only
      rw [if_pos hkd]
      unfold dln
      rw [o3]
    · unfold stS
      simp only
      rw [if_neg (by omega), h6]
    · unfold stS
      simp only
      rw [if_neg (by omega), h7]
end Go.Proofs.YtldieebiicblbaaGreatDoor.ls

/-
  What was written is read as it was; remarks and empty lines change nothing but the line of a fault; a list with its hash is read as without. Plain mathematics (ls). No condition beside those in the statements.
-/
namespace Go.Proofs.YtldieebiicblbaaGreatDoor.ls
open lx nx
open lm (Lp ce dy st)
open list (stE_mark stS_mark stE_data stS_data stE_skip stS_skip mS dS)
set_option linter.unusedVariables false
set_option maxRecDepth 100000

theorem hq_lt (ls : List (List UInt8)) (k : Nat) : hq ls k < 4294967296 := sx.word_lt _ (4 * k + 4) k (fun j _ => sx.dig_lt _ j) (Nat.le_refl _)
theorem hw_hash {c : UInt8} (h : blk c = true) (f : Nat → Nat) (k : Nat) (hk : list.Kind k) : hw k (hl c f) = [] := by
  unfold hw
  rw [if_neg]
  rintro ⟨h1, _⟩
  rw [kd_hash h] at h1
  subst h1
  unfold list.Kind at hk
  omega
theorem hsh_hash {c : UInt8} (h : blk c = true) (f : Nat → Nat) (ls : List (List UInt8)) : hsh (ls ++ [hl c f]) = hsh ls := by
  unfold hsh
  rw [list.hs1_snoc, list.hs1_snoc, list.hs1_snoc, hw_hash h f 1 (by unfold list.Kind; omega), hw_hash h f 2 (by unfold list.Kind; omega), hw_hash h f 5 (by unfold list.Kind; omega), List.append_nil, List.append_nil, List.append_nil]
theorem hq_hash {c : UInt8} (h : blk c = true) (f : Nat → Nat) (ls : List (List UInt8)) : hq (ls ++ [hl c f]) = hq ls := by
  unfold hq
  rw [hsh_hash h]
theorem run_one {l : List UInt8} {s : S} (h : stE l s = 0) (k : Nat) : run [l] k s = ((0, 0), stS l (k + 1) s) := by rw [run_go h, run_nil]
theorem run_mark {l : List UInt8} {s : S} {k : Nat} (hk : kd l = k) (h : k = 1 ∨ k = 2 ∨ k = 3) (hp : s.p k = 0) (ho : ok l = true) (j : Nat) : ∃ s', run [l] j s = ((0, 0), s') ∧ s'.p = put s.p k (j + 1) ∧ s'.lv = s.lv ∧ s'.ct = s.ct ∧ (s'.ex = if k = 2 then g1 l - 2208988800 else s.ex) ∧ (s'.h = if k = 3 then hN (B (l.drop 2)) else s.h) := by
  have hE : stE l s = 0 := by rw [stE_mark hk h, if_pos ⟨hp, ho⟩]
  obtain ⟨a, b, c, d, e⟩ := stS_mark (s := s) (a := j + 1) hk h
  refine ⟨_, run_one hE j, a, b, c, ?_, ?_⟩
  · rw [d]; unfold mS; rw [hk]
  · rw [e]; unfold mS; rw [hk]
theorem put_ne {p : Nat → Nat} {k a : Nat} (h : p k = 0) (ha : a ≠ 0) : put p k a k ≠ 0 := by unfold put; rw [if_pos ⟨rfl, h⟩]; exact ha
theorem put_other {p : Nat → Nat} {k a i : Nat} (h : i ≠ k) : put p k a i = p i := by unfold put; rw [if_neg (fun g => h g.1)]
theorem x_bd {lv : List Lp} {has : Bool} {x : Int} (h : ce lv has x = 0) : if has = true then 63072000 ≤ x ∧ x ≤ 253402300799 else x = 0 := by
  have hg := lm.good_of h
  have hx := (lm.ce_ok.1 h).2
  unfold lm.xp at hx
  cases has with
  | false =>
    simp at hx ⊢
    exact hx
  | true =>
    simp only [if_true] at hx ⊢
    have hl : 63072000 ≤ lm.lst lv := by
      unfold lm.lst
      split
      · omega
      · rename_i hn
        have := hg.day (i := lv.length - 1) (by omega)
        omega
    split at hx
    · omega
    · omega
/-- the head of a text. -/
theorem run_hd2 {has : Bool} {x stamp : Int} (h0 : 0 ≤ stamp) (h1 : stamp ≤ 9223372036854775807) (hx : if has = true then 63072000 ≤ x ∧ x ≤ 253402300799 else x = 0) :
    ∃ s, run (hd2 has x stamp) 0 S0 = ((0, 0), s) ∧ s.p 5 ≠ 0 ∧ (s.p 2 ≠ 0 ↔ has = true) ∧ s.p 3 = 0 ∧ s.lv = [] ∧ s.ct = 10 ∧ (has = true → s.ex = x) := by
  obtain ⟨o1, _, _⟩ := ok_num (l := tl [35, 36] (num stamp)) (kd_stamp _ (num_word _)) (.inl rfl) rfl h0 h1
  obtain ⟨s1, r1, p1, l1, c1, e1, _⟩ := run_mark (s := S0) (kd_stamp _ (num_word stamp)) (.inl rfl) rfl o1 0
  have data : ∀ (s : S) (j : Nat), s.p 5 = 0 → s.lv = [] → ∃ s', run [tl (num 2272060800) (num 10)] j s = ((0, 0), s') ∧ s'.p = put s.p 5 (j + 1) ∧ s'.lv = [] ∧ s'.ct = 10 ∧ s'.ex = s.ex := by
    intro s j hp hl
    obtain ⟨d1, d2, d3⟩ := ok_data (a := 2272060800) (b := 10) (by decide) (by decide) (by decide) (by decide)
    have hE : stE (tl (num 2272060800) (num 10)) s = 0 := by
      rw [stE_data (kd_data _ _)]
      unfold dE
      rw [d1, d2, d3, if_neg (by decide), if_neg (fun k => k hp), if_neg (by omega)]
    obtain ⟨a, b, c, d, e⟩ := stS_data (s := s) (a := j + 1) (kd_data 2272060800 10)
    refine ⟨_, run_one hE j, a, ?_, ?_, ?_⟩
    · rw [b]; unfold dS; simp only; rw [if_neg (fun k => k hp), hl]
    · rw [c]; unfold dS; simp only; rw [d3]
    · rw [d]; rfl
  cases has with
  | false =>
    obtain ⟨s3, r3, p3, l3, c3, e3⟩ := data s1 1 (by rw [p1, put_other (by decide)]; rfl) (by rw [l1]; rfl)
    refine ⟨s3, ?_, ?_, ?_, ?_, l3, c3, fun h => by cases h⟩
    · show run ([tl [35, 36] (num stamp)] ++ [tl (num 2272060800) (num 10)]) 0 S0 = _
      rw [run_app, r1, if_pos rfl]
      exact r3
    · rw [p3]; exact put_ne (by rw [p1, put_other (by decide)]; rfl) (by omega)
    · rw [p3, put_other (by decide), p1, put_other (by decide)]
      simp [S0]
    · rw [p3, put_other (by decide), p1, put_other (by decide)]; rfl
  | true =>
    simp only [if_true] at hx
    obtain ⟨o2, g2', _⟩ := ok_num (l := tl [35, 64] (num (x + 2208988800))) (kd_expiry _ (num_word _)) (.inr rfl) rfl (by omega) (by omega)
    obtain ⟨s2, r2, p2, l2, c2, e2, _⟩ := run_mark (s := s1) (kd_expiry _ (num_word (x + 2208988800))) (.inr (.inl rfl)) (by rw [p1, put_other (by decide)]; rfl) o2 1
    obtain ⟨s3, r3, p3, l3, c3, e3⟩ := data s2 2 (by rw [p2, put_other (by decide), p1, put_other (by decide)]; rfl) (by rw [l2, l1]; rfl)
    refine ⟨s3, ?_, ?_, ?_, ?_, l3, c3, fun _ => ?_⟩
    · show run ([tl [35, 36] (num stamp)] ++ ([tl [35, 64] (num (x + 2208988800))] ++ [tl (num 2272060800) (num 10)])) 0 S0 = _
      rw [run_app, r1, if_pos rfl, run_app]
      show (if (run [tl [35, 64] (num (x + 2208988800))] 1 s1).1.2 = 0 then _ else _) = _
      rw [show (0 + [tl [35, 36] (num stamp)].length) = 1 from rfl, r2, if_pos rfl]
      exact r3
    · rw [p3]; exact put_ne (by rw [p2, put_other (by decide), p1, put_other (by decide)]; rfl) (by omega)
    · rw [p3, put_other (by decide), p2]
      exact ⟨fun _ => rfl, fun _ => put_ne (by rw [p1, put_other (by decide)]; rfl) (by omega)⟩
    · rw [p3, put_other (by decide), p2, put_other (by decide), p1, put_other (by decide)]; rfl
    · rw [e3, e2, if_pos rfl, g2']; omega
theorem parse_full {lv : List Lp} {has : Bool} {x stamp : Int} (h : TOK lv has x stamp) (h1 : stamp ≤ 9223372036854775807) : parse (full lv has x stamp) = ⟨0, 0, lv, has, x⟩ := by
  obtain ⟨h0, hc, hr⟩ := h
  have hg := lm.good_of hc
  have hx := x_bd hc
  obtain ⟨s, r, p5, p2, p3, l, c, e⟩ := run_hd2 h0 h1 hx
  obtain ⟨s', r', q1, q2, q3, q4, q5⟩ := run_dl hg hr (hd2 has x stamp).length s p5 l c lv.length (Nat.le_refl _)
  rw [List.take_length] at q2
  have hpre : run (pre lv has x stamp) 0 S0 = ((0, 0), s') := by
    unfold pre
    rw [run_app, r, if_pos rfl, Nat.zero_add]
    exact r'
  obtain ⟨oh, hh⟩ := ok_hash (c := 9) (by decide) (hq (pre lv has x stamp)) (fun k _ => hq_lt _ k)
  obtain ⟨s4, r4, t1, t2, t3, t4, t5⟩ := run_mark (s := s') (kd_hash (c := 9) (by decide) (hq (pre lv has x stamp))) (.inr (.inr rfl)) (by rw [q1]; exact p3) oh (pre lv has x stamp).length
  have hall : run (full lv has x stamp) 0 S0 = ((0, 0), s4) := by
    unfold full
    rw [run_app, hpre, if_pos rfl, Nat.zero_add]
    exact r4
  have e2 : s4.p 2 = s.p 2 := by rw [t1, put_other (by decide), q1]
  have e5 : s4.p 5 ≠ 0 := by rw [t1, put_other (by decide), q1]; exact p5
  have e3 : s4.p 3 ≠ 0 := by rw [t1]; exact put_ne (by rw [q1]; exact p3) (by omega)
  have eh : h5 s4.h (hq (full lv has x stamp)) = true := by
    rw [h5_iff]
    intro k hk
    rw [t5, if_pos rfl, hh k hk]
    unfold full
    rw [hq_hash (by decide)]
  have el : s4.lv = lv := by rw [t2, q2]
  have ex : s4.ex = s.ex := by rw [t4, if_neg (by decide), q4]
  unfold parse
  rw [hall, if_neg (fun k => k rfl)]
  unfold fin
  rw [if_neg e5]
  cases has with
  | false =>
    have z2 : s4.p 2 = 0 := by
      rw [e2]
      by_cases g : s.p 2 = 0
      · exact g
      · exact absurd (p2.1 g) (by decide)
    simp only [Bool.false_eq_true, if_false] at hx
    rw [if_neg (fun g => g.1 z2), if_neg (fun g => by rw [eh] at g; exact absurd g.2 (by decide)), el, z2, hx]
    rfl
  | true =>
    have z2 : s4.p 2 ≠ 0 := by rw [e2]; exact p2.2 rfl
    rw [if_neg (fun g => g.2 (by rw [el, ex, e rfl]; exact hc)), if_neg (fun g => by rw [eh] at g; exact absurd g.2 (by decide)), el, ex, e rfl, if_pos z2, decide_eq_true z2]
end Go.Proofs.YtldieebiicblbaaGreatDoor.ls
