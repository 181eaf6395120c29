/-
  Plain mathematics of the twenty bytes of a text: which bytes fit the layout, the six numbers that are read of them place by place, and that these are each other's. Nothing of any program. Conditions: as said.
-/
import Derived.Test.YtmohcjnpcnbjkaaDoorStampMath
import Derived.Laws.RangeAny
namespace Go.Proofs.YtmohcjnpcnbjkaaDoor.stx
set_option linter.unusedVariables false

def layL : List Nat := [48, 48, 48, 48, 45, 48, 48, 45, 48, 48, 84, 48, 48, 58, 48, 48, 58, 48, 48, 90]
def lay (p : Nat) : Nat := layL.getD p 0
def gk (p : Nat) : Nat := ([0, 0, 0, 0, 0, 1, 1, 1, 2, 2, 2, 3, 3, 3, 4, 4, 4, 5, 5, 5, 6] : List Nat).getD p 0
def bt (s : ByteArray) (p : Nat) : Nat := (s.data.toList.getD p 0).toNat
def Fits (s : ByteArray) (p : Nat) : Prop := (lay p = 48 ∧ 48 ≤ bt s p ∧ bt s p ≤ 57) ∨ (lay p ≠ 48 ∧ bt s p = lay p)
instance (s : ByteArray) (p : Nat) : Decidable (Fits s p) := by unfold Fits; infer_instance
def got (s : ByteArray) : Nat → List Int
  | 0 => [0, 0, 0, 0, 0, 0]
  | p + 1 => if lay p = 48 then (got s p).set (gk p) ((got s p).getD (gk p) 0 * 10 + ((bt s p : Int) - 48)) else got s p

theorem bt_at (s : ByteArray) (p : Nat) (h : p < s.size) : (s[p]'h).toNat = bt s p := by
  unfold bt
  have h' : p < s.data.toList.length := by simpa using h
  rw [List.getD_eq_getElem?_getD, List.getElem?_eq_getElem h', Option.getD_some]
  rfl
theorem bt_lt (s : ByteArray) (p : Nat) : bt s p < 256 := (s.data.toList.getD p 0).toNat_lt
theorem twenty {p : Nat} (h : p < 20) : p = 0 ∨ p = 1 ∨ p = 2 ∨ p = 3 ∨ p = 4 ∨ p = 5 ∨ p = 6 ∨ p = 7 ∨ p = 8 ∨ p = 9 ∨ p = 10 ∨ p = 11 ∨ p = 12 ∨ p = 13 ∨ p = 14 ∨ p = 15 ∨ p = 16 ∨ p = 17 ∨ p = 18 ∨ p = 19 := by omega
theorem got_len (s : ByteArray) (p : Nat) : (got s p).length = 6 := by
  induction p with
  | zero => rfl
  | succ p ih =>
    unfold got
    split
    · rw [List.length_set, ih]
    · exact ih
theorem lay_byte (p : Nat) (h : p < 20) : lay p = 48 ∨ lay p = 45 ∨ lay p = 84 ∨ lay p = 58 ∨ lay p = 90 := by
  rcases twenty h with rfl | rfl | rfl | rfl | rfl | rfl | rfl | rfl | rfl | rfl | rfl | rfl | rfl | rfl | rfl | rfl | rfl | rfl | rfl | rfl <;> decide
theorem gk_dig (p : Nat) (h : p < 20) (hd : lay p = 48) : gk p < 6 ∧ gk (p + 1) = gk p := by
  revert hd
  rcases twenty h with rfl | rfl | rfl | rfl | rfl | rfl | rfl | rfl | rfl | rfl | rfl | rfl | rfl | rfl | rfl | rfl | rfl | rfl | rfl | rfl <;> decide
theorem gk_mark (p : Nat) (h : p < 20) (hd : lay p ≠ 48) : gk p < 6 ∧ gk (p + 1) = gk p + 1 := by
  revert hd
  rcases twenty h with rfl | rfl | rfl | rfl | rfl | rfl | rfl | rfl | rfl | rfl | rfl | rfl | rfl | rfl | rfl | rfl | rfl | rfl | rfl | rfl <;> decide
theorem got_dig (s : ByteArray) (p : Nat) (hd : lay p = 48) : got s (p + 1) = (got s p).set (gk p) ((got s p).getD (gk p) 0 * 10 + ((bt s p : Int) - 48)) := by
  show (if lay p = 48 then _ else _) = _
  rw [if_pos hd]
theorem got_mark (s : ByteArray) (p : Nat) (hd : lay p ≠ 48) : got s (p + 1) = got s p := by
  show (if lay p = 48 then _ else _) = _
  rw [if_neg hd]
/-- a digit's place, read of a row that fits. -/
theorem fit_dig {s : ByteArray} {p : Nat} (h : Fits s p) (hd : lay p = 48) : 48 ≤ bt s p ∧ bt s p ≤ 57 := by
  rcases h with h | h
  · exact h.2
  · exact absurd hd h.1
theorem fit_mark {s : ByteArray} {p : Nat} (h : Fits s p) (hd : lay p ≠ 48) : bt s p = lay p := by
  rcases h with h | h
  · exact absurd h.1 hd
  · exact h.2
theorem got_bd (s : ByteArray) (p : Nat) (h : p < 20) (hd : lay p = 48) (hf : ∀ j, j < p → Fits s j) : 0 ≤ (got s p).getD (gk p) 0 ∧ (got s p).getD (gk p) 0 ≤ 999 := by
  have f : ∀ j, j < p → lay j = 48 → 48 ≤ bt s j ∧ bt s j ≤ 57 := fun j hj hl => fit_dig (hf j hj) hl
  have b0 := f 0; have b1 := f 1; have b2 := f 2; have b5 := f 5; have b8 := f 8; have b11 := f 11; have b14 := f 14; have b17 := f 17
  clear f hf
  revert hd
  rcases twenty h with rfl | rfl | rfl | rfl | rfl | rfl | rfl | rfl | rfl | rfl | rfl | rfl | rfl | rfl | rfl | rfl | rfl | rfl | rfl | rfl <;>
    simp [lay, layL, got, gk] at b0 b1 b2 b5 b8 b11 b14 b17 ⊢ <;> omega

/-! the whole row -/
def rY (s : ByteArray) : Int := 1000 * ((bt s 0 : Int) - 48) + 100 * ((bt s 1 : Int) - 48) + 10 * ((bt s 2 : Int) - 48) + ((bt s 3 : Int) - 48)
def r2 (s : ByteArray) (p q : Nat) : Int := 10 * ((bt s p : Int) - 48) + ((bt s q : Int) - 48)
theorem got_all (s : ByteArray) : got s 20 = [rY s, r2 s 5 6, r2 s 8 9, r2 s 11 12, r2 s 14 15, r2 s 17 18] := by
  simp [got, lay, layL, gk, rY, r2]
  omega
theorem of_bytes (s : ByteArray) (hs : s.size = 20) : s = ⟨#[UInt8.ofNat (bt s 0), UInt8.ofNat (bt s 1), UInt8.ofNat (bt s 2), UInt8.ofNat (bt s 3), UInt8.ofNat (bt s 4), UInt8.ofNat (bt s 5), UInt8.ofNat (bt s 6), UInt8.ofNat (bt s 7), UInt8.ofNat (bt s 8), UInt8.ofNat (bt s 9), UInt8.ofNat (bt s 10), UInt8.ofNat (bt s 11), UInt8.ofNat (bt s 12), UInt8.ofNat (bt s 13), UInt8.ofNat (bt s 14), UInt8.ofNat (bt s 15), UInt8.ofNat (bt s 16), UInt8.ofNat (bt s 17), UInt8.ofNat (bt s 18), UInt8.ofNat (bt s 19)]⟩ := by
  obtain ⟨a⟩ := s
  obtain ⟨l⟩ := a
  have hl : l.length = 20 := hs
  match l, hl with
  | [a0, a1, a2, a3, a4, a5, a6, a7, a8, a9, a10, a11, a12, a13, a14, a15, a16, a17, a18, a19], _ =>
    simp [bt, UInt8.ofNat_toNat]
theorem ofN_dgt {b n : Nat} (h : b = 48 + n % 10) : UInt8.ofNat b = dgt n := by rw [h]; rfl
def FitsAll (s : ByteArray) : Prop := s.size = 20 ∧ ∀ p, p < 20 → Fits s p
theorem read_bd {s : ByteArray} (h : FitsAll s) : (0 ≤ rY s ∧ rY s ≤ 9999) ∧ (0 ≤ r2 s 5 6 ∧ r2 s 5 6 ≤ 99) ∧ (0 ≤ r2 s 8 9 ∧ r2 s 8 9 ≤ 99) ∧ (0 ≤ r2 s 11 12 ∧ r2 s 11 12 ≤ 99) ∧ (0 ≤ r2 s 14 15 ∧ r2 s 14 15 ≤ 99) ∧ (0 ≤ r2 s 17 18 ∧ r2 s 17 18 ≤ 99) := by
  have f : ∀ j, j < 20 → lay j = 48 → 48 ≤ bt s j ∧ bt s j ≤ 57 := fun j hj hl => fit_dig (h.2 j hj) hl
  have b0 := f 0 (by omega) rfl; have b1 := f 1 (by omega) rfl; have b2 := f 2 (by omega) rfl; have b3 := f 3 (by omega) rfl
  have b5 := f 5 (by omega) rfl; have b6 := f 6 (by omega) rfl; have b8 := f 8 (by omega) rfl; have b9 := f 9 (by omega) rfl
  have b11 := f 11 (by omega) rfl; have b12 := f 12 (by omega) rfl; have b14 := f 14 (by omega) rfl; have b15 := f 15 (by omega) rfl
  have b17 := f 17 (by omega) rfl; have b18 := f 18 (by omega) rfl
  unfold rY r2
  omega
theorem read_txt {s : ByteArray} (h : FitsAll s) : s = txt (rY s) (r2 s 5 6) (r2 s 8 9) (r2 s 11 12) (r2 s 14 15) (r2 s 17 18) := by
  have f : ∀ j, j < 20 → lay j = 48 → 48 ≤ bt s j ∧ bt s j ≤ 57 := fun j hj hl => fit_dig (h.2 j hj) hl
  have g : ∀ j, j < 20 → lay j ≠ 48 → bt s j = lay j := fun j hj hl => fit_mark (h.2 j hj) hl
  have b0 := f 0 (by omega) rfl; have b1 := f 1 (by omega) rfl; have b2 := f 2 (by omega) rfl; have b3 := f 3 (by omega) rfl
  have b5 := f 5 (by omega) rfl; have b6 := f 6 (by omega) rfl; have b8 := f 8 (by omega) rfl; have b9 := f 9 (by omega) rfl
  have b11 := f 11 (by omega) rfl; have b12 := f 12 (by omega) rfl; have b14 := f 14 (by omega) rfl; have b15 := f 15 (by omega) rfl
  have b17 := f 17 (by omega) rfl; have b18 := f 18 (by omega) rfl
  have m4 := g 4 (by omega) (by decide); have m7 := g 7 (by omega) (by decide); have m10 := g 10 (by omega) (by decide)
  have m13 := g 13 (by omega) (by decide); have m16 := g 16 (by omega) (by decide); have m19 := g 19 (by omega) (by decide)
  have e := of_bytes s h.1
  rw [ofN_dgt (n := (rY s).toNat / 1000) (b := bt s 0) (by unfold rY; omega), ofN_dgt (n := (rY s).toNat / 100) (b := bt s 1) (by unfold rY; omega),
    ofN_dgt (n := (rY s).toNat / 10) (b := bt s 2) (by unfold rY; omega), ofN_dgt (n := (rY s).toNat) (b := bt s 3) (by unfold rY; omega),
    ofN_dgt (n := (r2 s 5 6).toNat / 10) (b := bt s 5) (by unfold r2; omega), ofN_dgt (n := (r2 s 5 6).toNat) (b := bt s 6) (by unfold r2; omega),
    ofN_dgt (n := (r2 s 8 9).toNat / 10) (b := bt s 8) (by unfold r2; omega), ofN_dgt (n := (r2 s 8 9).toNat) (b := bt s 9) (by unfold r2; omega),
    ofN_dgt (n := (r2 s 11 12).toNat / 10) (b := bt s 11) (by unfold r2; omega), ofN_dgt (n := (r2 s 11 12).toNat) (b := bt s 12) (by unfold r2; omega),
    ofN_dgt (n := (r2 s 14 15).toNat / 10) (b := bt s 14) (by unfold r2; omega), ofN_dgt (n := (r2 s 14 15).toNat) (b := bt s 15) (by unfold r2; omega),
    ofN_dgt (n := (r2 s 17 18).toNat / 10) (b := bt s 17) (by unfold r2; omega), ofN_dgt (n := (r2 s 17 18).toNat) (b := bt s 18) (by unfold r2; omega),
    m4, m7, m10, m13, m16, m19] at e
  exact e
def Six (y m d h i x : Int) : Prop := (0 ≤ y ∧ y ≤ 9999) ∧ (0 ≤ m ∧ m ≤ 99) ∧ (0 ≤ d ∧ d ≤ 99) ∧ (0 ≤ h ∧ h ≤ 99) ∧ (0 ≤ i ∧ i ≤ 99) ∧ (0 ≤ x ∧ x ≤ 99)
theorem txt_fits (y m d h i x : Int) : FitsAll (txt y m d h i x) := by
  refine ⟨txt_size _ _ _ _ _ _, fun p hp => ?_⟩
  rcases twenty hp with rfl | rfl | rfl | rfl | rfl | rfl | rfl | rfl | rfl | rfl | rfl | rfl | rfl | rfl | rfl | rfl | rfl | rfl | rfl | rfl <;>
    simp [Fits, lay, layL, bt, txt, dgt_nat] <;> omega
theorem txt_read {y m d h i x : Int} (b : Six y m d h i x) : rY (txt y m d h i x) = y ∧ r2 (txt y m d h i x) 5 6 = m ∧ r2 (txt y m d h i x) 8 9 = d ∧ r2 (txt y m d h i x) 11 12 = h ∧ r2 (txt y m d h i x) 14 15 = i ∧ r2 (txt y m d h i x) 17 18 = x := by
  obtain ⟨b1, b2, b3, b4, b5, b6⟩ := b
  simp only [rY, r2, bt, txt]
  simp [dgt_nat]
  omega
theorem txt_inj {y m d h i x y' m' d' h' i' x' : Int} (b : Six y m d h i x) (b' : Six y' m' d' h' i' x') (e : txt y m d h i x = txt y' m' d' h' i' x') : y = y' ∧ m = m' ∧ d = d' ∧ h = h' ∧ i = i' ∧ x = x' := by
  obtain ⟨e1, e2, e3, e4, e5, e6⟩ := txt_read b
  obtain ⟨f1, f2, f3, f4, f5, f6⟩ := txt_read b'
  rw [e] at e1 e2 e3 e4 e5 e6
  exact ⟨e1.symm.trans f1, e2.symm.trans f2, e3.symm.trans f3, e4.symm.trans f4, e5.symm.trans f5, e6.symm.trans f6⟩
theorem six_of {y m d h i x : Int} (v : cal.Vld y m d) (c : Clk h i x) : Six y m d h i x := by
  have b := cal.dim_bd y m
  obtain ⟨v1, v2, v3, v4, v5, v6⟩ := v
  have k := clk_bd c
  unfold Six
  omega
end Go.Proofs.YtmohcjnpcnbjkaaDoor.stx
