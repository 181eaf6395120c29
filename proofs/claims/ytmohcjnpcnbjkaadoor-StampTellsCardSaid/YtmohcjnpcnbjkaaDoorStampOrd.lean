/-
  Plain mathematics: the texts of days and seconds are in the order of these. Nothing of any program. Conditions: dates and clocks that there are.
-/
import Derived.Test.YtmohcjnpcnbjkaaDoorStampShape
namespace Go.Proofs.YtmohcjnpcnbjkaaDoor.stx
open cal
set_option linter.unusedVariables false

theorem dgt_lt (a b : Nat) : dgt a < dgt b ↔ a % 10 < b % 10 := by
  rw [UInt8.lt_iff_toNat_lt, dgt_nat, dgt_nat]; omega
theorem dgt_eq (a b : Nat) : dgt a = dgt b ↔ a % 10 = b % 10 := by
  rw [← UInt8.toNat_inj, dgt_nat, dgt_nat]; omega
theorem less_dgt (a b : Nat) (l m : List UInt8) : Op.bytesLess (dgt a :: l) (dgt b :: m) = true ↔ (a % 10 < b % 10 ∨ a % 10 = b % 10 ∧ Op.bytesLess l m = true) := by
  simp only [Op.bytesLess, Bool.or_eq_true, Bool.and_eq_true, decide_eq_true_eq, beq_iff_eq, dgt_lt, dgt_eq]
theorem less_same (c : UInt8) (l m : List UInt8) : Op.bytesLess (c :: l) (c :: m) = true ↔ Op.bytesLess l m = true := by
  simp [Op.bytesLess]
theorem less_two (a b : Int) (ha : 0 ≤ a ∧ a ≤ 99) (hb : 0 ≤ b ∧ b ≤ 99) (l m : List UInt8) : Op.bytesLess (dgt (a.toNat / 10) :: dgt a.toNat :: l) (dgt (b.toNat / 10) :: dgt b.toNat :: m) = true ↔ (a < b ∨ a = b ∧ Op.bytesLess l m = true) := by
  rw [less_dgt, less_dgt]
  generalize (Op.bytesLess l m = true) = P
  by_cases h : P
  · simp only [h, and_true]; omega
  · simp only [h, and_false, or_false]; omega
theorem digs4 (k : Nat) (h : k ≤ 9999) : ∃ a b c d : Nat, a < 10 ∧ b < 10 ∧ c < 10 ∧ d < 10 ∧ k = 1000 * d + 100 * c + 10 * b + a :=
  ⟨k % 10, k / 10 % 10, k / 100 % 10, k / 1000, by omega, by omega, by omega, by omega, by omega⟩
theorem digs4_at (a b c d : Nat) (ha : a < 10) (hb : b < 10) (hc : c < 10) (hd : d < 10) : (1000 * d + 100 * c + 10 * b + a) / 1000 % 10 = d ∧ (1000 * d + 100 * c + 10 * b + a) / 100 % 10 = c ∧ (1000 * d + 100 * c + 10 * b + a) / 10 % 10 = b ∧ (1000 * d + 100 * c + 10 * b + a) % 10 = a := by
  omega
theorem less_four (a b : Int) (ha : 0 ≤ a ∧ a ≤ 9999) (hb : 0 ≤ b ∧ b ≤ 9999) (l m : List UInt8) :
    Op.bytesLess (dgt (a.toNat / 1000) :: dgt (a.toNat / 100) :: dgt (a.toNat / 10) :: dgt a.toNat :: l) (dgt (b.toNat / 1000) :: dgt (b.toNat / 100) :: dgt (b.toNat / 10) :: dgt b.toNat :: m) = true ↔ (a < b ∨ a = b ∧ Op.bytesLess l m = true) := by
  rw [less_dgt, less_dgt, less_dgt, less_dgt]
  generalize (Op.bytesLess l m = true) = P
  obtain ⟨k, rfl⟩ : ∃ k : Nat, a = k := ⟨a.toNat, by omega⟩
  obtain ⟨j, rfl⟩ : ∃ j : Nat, b = j := ⟨b.toNat, by omega⟩
  obtain ⟨k0, k1, k2, k3, p0, p1, p2, p3, rfl⟩ := digs4 k (by omega)
  obtain ⟨j0, j1, j2, j3, q0, q1, q2, q3, rfl⟩ := digs4 j (by omega)
  simp only [Int.toNat_natCast]
  obtain ⟨e0, e1, e2, e3⟩ := digs4_at k0 k1 k2 k3 p0 p1 p2 p3
  obtain ⟨f0, f1, f2, f3⟩ := digs4_at j0 j1 j2 j3 q0 q1 q2 q3
  rw [e0, e1, e2, e3, f0, f1, f2, f3]
  by_cases h : P
  · simp only [h, and_true]; omega
  · simp only [h, and_false, or_false]; omega
theorem txt_list (y m d h i x : Int) : (txt y m d h i x).toList = [dgt (y.toNat / 1000), dgt (y.toNat / 100), dgt (y.toNat / 10), dgt y.toNat, 45, dgt (m.toNat / 10), dgt m.toNat, 45, dgt (d.toNat / 10), dgt d.toNat, 84, dgt (h.toNat / 10), dgt h.toNat, 58, dgt (i.toNat / 10), dgt i.toNat, 58, dgt (x.toNat / 10), dgt x.toNat, 90] := by
  rw [ByteArray.toList_eq]; rfl
theorem less_txt {y m d h i x y' m' d' h' i' x' : Int} (b : Six y m d h i x) (b' : Six y' m' d' h' i' x') :
    Op.bytesLess (txt y m d h i x).toList (txt y' m' d' h' i' x').toList = true ↔
      (y < y' ∨ y = y' ∧ (m < m' ∨ m = m' ∧ (d < d' ∨ d = d' ∧ (h < h' ∨ h = h' ∧ (i < i' ∨ i = i' ∧ x < x'))))) := by
  obtain ⟨b1, b2, b3, b4, b5, b6⟩ := b
  obtain ⟨c1, c2, c3, c4, c5, c6⟩ := b'
  rw [txt_list, txt_list, less_four _ _ b1 c1, less_same, less_two _ _ b2 c2, less_same, less_two _ _ b3 c3, less_same, less_two _ _ b4 c4, less_same, less_two _ _ b5 c5, less_same, less_two _ _ b6 c6, less_same]
  simp [Op.bytesLess]
/-- of two seconds of days, the order of the texts. -/
theorem text_less {y m d h i x y' m' d' h' i' x' : Int} (v : Vld y m d) (c : Clk h i x) (v' : Vld y' m' d') (c' : Clk h' i' x') :
    Op.bytesLess (txt y m d h i x).toList (txt y' m' d' h' i' x').toList = true ↔ (num y m d < num y' m' d' ∨ num y m d = num y' m' d' ∧ secN h i x < secN h' i' x') := by
  rw [less_txt (six_of v c) (six_of v' c'), num_lt_iff v v', secN_lt_iff c c']
  have e : num y m d = num y' m' d' ↔ (y = y' ∧ m = m' ∧ d = d') := ⟨fun e => num_inj v v' e, fun ⟨e1, e2, e3⟩ => by rw [e1, e2, e3]⟩
  rw [e]
  omega
theorem text_eq {y m d h i x y' m' d' h' i' x' : Int} (v : Vld y m d) (c : Clk h i x) (v' : Vld y' m' d') (c' : Clk h' i' x') :
    txt y m d h i x = txt y' m' d' h' i' x' ↔ (num y m d = num y' m' d' ∧ secN h i x = secN h' i' x') := by
  constructor
  · intro e
    obtain ⟨e1, e2, e3, e4, e5, e6⟩ := txt_inj (six_of v c) (six_of v' c') e
    rw [e1, e2, e3, e4, e5, e6]
    exact ⟨rfl, rfl⟩
  · rintro ⟨e, k⟩
    obtain ⟨e1, e2, e3⟩ := num_inj v v' e
    obtain ⟨e4, e5, e6⟩ := secN_inj c c' k
    rw [e1, e2, e3, e4, e5, e6]
theorem beq_text (a b : ByteArray) : (a.toList == b.toList) = decide (a = b) := by
  rw [ByteArray.toList_eq, ByteArray.toList_eq, Bool.eq_iff_iff]
  simp only [beq_iff_eq, decide_eq_true_eq]
  constructor
  · intro e
    exact ByteArray.ext (Array.ext' e)
  · rintro rfl; rfl
end Go.Proofs.YtmohcjnpcnbjkaaDoor.stx
