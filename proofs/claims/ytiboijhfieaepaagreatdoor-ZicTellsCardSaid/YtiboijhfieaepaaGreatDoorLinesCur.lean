/-
  Plain mathematics of texts that are gone through byte by byte, or sign by sign: what is gathered since a place, and the steps of lines, words and numbers. Nothing of any program. Conditions: as said.
-/
import Derived.Test.YtiboijhfieaepaaGreatDoorLinesMath
namespace Go.Proofs.YtiboijhfieaepaaGreatDoor.lx
set_option linter.unusedVariables false
set_option maxRecDepth 100000

/-- the bytes from place f to place p. -/
def cur (s : ByteArray) (f p : Nat) : List UInt8 := ((L s).drop f).take (p - f)
theorem cur_ext (s : ByteArray) (f p : Nat) : L (s.extract f p) = cur s f p := L_ext s f p
theorem cur_B (s : ByteArray) (f p : Nat) : s.extract f p = B (cur s f p) := ext_B s f p
theorem cur_same (s : ByteArray) (p : Nat) : cur s p p = [] := by unfold cur; simp
theorem cur_len (s : ByteArray) (f p : Nat) (h : p ≤ s.size) : (cur s f p).length = p - f := by
  unfold cur
  have : (L s).length = s.size := rfl
  simp
  omega
theorem cur_ne (s : ByteArray) (f p : Nat) (h : f < p) (hp : p ≤ s.size) : cur s f p ≠ [] := by
  intro k
  have := cur_len s f p hp
  rw [k] at this
  simp at this
  omega
theorem cur_more (s : ByteArray) (f p d : Nat) (h : f ≤ p) : cur s f p ++ ((L s).drop p).take d = cur s f (p + d) := by
  unfold cur
  rw [show p + d - f = (p - f) + d by omega, List.take_add, List.drop_drop, show f + (p - f) = p by omega]
theorem cur_all (s : ByteArray) : cur s 0 s.size = L s := by
  unfold cur
  rw [List.drop_zero, Nat.sub_zero, List.take_of_length_le (Nat.le_of_eq (L_len s))]
theorem drop_end (s : ByteArray) (p : Nat) (h : s.size ≤ p) : (L s).drop p = [] := List.drop_of_length_le (by rw [L_len]; exact h)
theorem drop_more (s : ByteArray) (p d : Nat) : (L s).drop p = ((L s).drop p).take d ++ (L s).drop (p + d) := by
  rw [← List.drop_drop, List.take_append_drop]
theorem mem_take (s : ByteArray) (p d : Nat) (c : UInt8) (h : c ∈ ((L s).drop p).take d) : ∃ j, p ≤ j ∧ j < p + d ∧ j < s.size ∧ c.toNat = bt s j := by
  obtain ⟨j, hj, he⟩ := List.getElem_of_mem h
  have hj' := hj
  simp at hj'
  have z : (L s).length = s.size := rfl
  refine ⟨p + j, by omega, by omega, by omega, ?_⟩
  subst he
  unfold bt
  rw [List.getElem_take, List.getElem_drop, List.getD_eq_getElem?_getD, List.getElem?_eq_getElem (by omega), Option.getD_some]

/-! words -/
theorem blk_nat (c : UInt8) : blk c = true ↔ c.toNat = 32 ∨ c.toNat = 9 := by
  unfold blk
  rw [decide_eq_true_eq]
  constructor
  · rintro (h | h) <;> rw [h] <;> decide
  · rintro (h | h)
    · exact .inl (UInt8.toNat_inj.1 h)
    · exact .inr (UInt8.toNat_inj.1 h)
theorem blk_false {c : UInt8} (h1 : c.toNat ≠ 32) (h2 : c.toNat ≠ 9) : blk c = false := by
  rw [Bool.eq_false_iff]
  intro k
  rcases (blk_nat c).1 k with k | k
  · exact h1 k
  · exact h2 k
theorem wds_go (s : ByteArray) (f p d : Nat) (h : f ≤ p) (hb : ∀ j, p ≤ j → j < p + d → bt s j ≠ 32 ∧ bt s j ≠ 9) :
    wds (cur s f p) ((L s).drop p) = wds (cur s f (p + d)) ((L s).drop (p + d)) := by
  rw [drop_more s p d, wds_plain, cur_more s f p d h]
  intro c hc
  obtain ⟨j, h1, h2, _, h4⟩ := mem_take s p d c hc
  have := hb j h1 h2
  exact blk_false (by omega) (by omega)
theorem wds_gap (s : ByteArray) (p : Nat) (hp : p < s.size) (hb : bt s p = 32 ∨ bt s p = 9) : wds (cur s p p) ((L s).drop p) = wds (cur s (p + 1) (p + 1)) ((L s).drop (p + 1)) := by
  obtain ⟨c, h1, h2, _⟩ := drop_at s p hp
  rw [cur_same, cur_same, h2, wds_b0 ((blk_nat c).2 (by omega))]
theorem wds_cut (s : ByteArray) (f p : Nat) (h : f < p) (hp : p < s.size) (hb : bt s p = 32 ∨ bt s p = 9) : wds (cur s f p) ((L s).drop p) = cur s f p :: wds (cur s (p + 1) (p + 1)) ((L s).drop (p + 1)) := by
  obtain ⟨c, h1, h2, _⟩ := drop_at s p hp
  rw [cur_same, h2, wds_b ((blk_nat c).2 (by omega)) (cur_ne s f p h (by omega))]
theorem wds_last (s : ByteArray) (f p : Nat) (h : f < p) (hp : p ≤ s.size) (he : s.size ≤ p) : wds (cur s f p) ((L s).drop p) = [cur s f p] := by
  rw [drop_end s p he, wds_end (cur_ne s f p h hp)]
theorem wds_none (s : ByteArray) (p : Nat) (he : s.size ≤ p) : wds (cur s p p) ((L s).drop p) = [] := by
  rw [drop_end s p he, cur_same, wds_end0]

/-! lines -/
theorem spl_go (s : ByteArray) (f p : Nat) (h : f ≤ p) (hp : p < s.size) (hb : bt s p ≠ 10) : spl (cur s f p) ((L s).drop p) = spl (cur s f (p + 1)) ((L s).drop (p + 1)) := by
  obtain ⟨c, h1, h2, _⟩ := drop_at s p hp
  rw [← cur_more s f p 1 h, h2, spl_no (by rintro rfl; exact hb h1.symm)]
  rfl
theorem spl_cut (s : ByteArray) (f p : Nat) (hp : p < s.size) (hb : bt s p = 10) : spl (cur s f p) ((L s).drop p) = trim (cur s f p) :: spl (cur s (p + 1) (p + 1)) ((L s).drop (p + 1)) := by
  obtain ⟨c, h1, h2, _⟩ := drop_at s p hp
  obtain rfl : c = 10 := UInt8.toNat_inj.1 (by rw [h1, hb]; rfl)
  rw [h2, cur_same, spl_lf]
theorem spl_last (s : ByteArray) (f p : Nat) (h : f < p) (hp : p ≤ s.size) (he : s.size ≤ p) : spl (cur s f p) ((L s).drop p) = [trim (cur s f p)] := by
  rw [drop_end s p he, spl_end (cur_ne s f p h hp)]
theorem spl_none (s : ByteArray) (p : Nat) (he : s.size ≤ p) : spl (cur s p p) ((L s).drop p) = [] := by
  rw [drop_end s p he, cur_same, spl_end0]

/-! numbers -/
theorem nmb_go (s : ByteArray) (p : Nat) (n : Int) (hp : p < s.size) (h1 : 48 ≤ bt s p) (h2 : bt s p ≤ 57) (h3 : 10 * n + ((bt s p : Int) - 48) ≤ 9223372036854775807) : nmb n ((L s).drop p) = nmb (10 * n + ((bt s p : Int) - 48)) ((L s).drop (p + 1)) := by
  obtain ⟨c, e1, e2, _⟩ := drop_at s p hp
  rw [e2, ← e1, nmb_yes (by unfold dgB; rw [decide_eq_true_eq]; omega) (by rw [e1]; exact h3)]
theorem nmb_stop (s : ByteArray) (p : Nat) (n : Int) (hp : p < s.size) (h : ¬ (48 ≤ bt s p ∧ bt s p ≤ 57 ∧ 10 * n + ((bt s p : Int) - 48) ≤ 9223372036854775807)) : nmb n ((L s).drop p) = none := by
  obtain ⟨c, e1, e2, _⟩ := drop_at s p hp
  rw [e2, nmb_no]
  rintro ⟨k1, k2⟩
  unfold dgB at k1
  rw [decide_eq_true_eq, e1] at k1
  rw [e1] at k2
  exact h ⟨k1.1, k1.2, k2⟩
theorem nmb_done (s : ByteArray) (p : Nat) (n : Int) (hp : s.size ≤ p) : nmb n ((L s).drop p) = some n := by rw [drop_end s p hp, nmb_nil]
theorem nm_of (s : ByteArray) (h : 0 < s.size) : nm (L s) = nmb 0 ((L s).drop 0) := by
  unfold nm
  rw [if_neg (fun k => by have := (L_nil s).1 k; omega), List.drop_zero]
theorem nm_yes {s : ByteArray} {n : Int} (h : nm (L s) = some n) : nmI (L s) = n ∧ nmT (L s) = true := by unfold nmI nmT; rw [h]; exact ⟨rfl, rfl⟩
theorem nm_no {s : ByteArray} (h : nm (L s) = none) : nmI (L s) = 0 ∧ nmT (L s) = false := by unfold nmI nmT; rw [h]; exact ⟨rfl, rfl⟩
theorem nm_empty : nm [] = none := rfl
end Go.Proofs.YtiboijhfieaepaaGreatDoor.lx
