/-
  Plain mathematics of the twenty bytes of a text: which bytes fit the layout, the six numbers that are read of them place by place, and that these are each other's. Nothing of any program. Conditions: as said.
-/
import Derived.Test.YtiboijhfieaepaaGreatDoorStampMath
import Derived.Laws.RangeAny
import Derived.Test.YtiboijhfieaepaaGreatDoorRef03
import Derived.Laws.IdiomStrings
namespace Go.Proofs.YtiboijhfieaepaaGreatDoor.stx
set_option linter.unusedVariables false
set_option maxRecDepth 100000

def layL : List Nat := [48, 48, 48, 48, 45, 48, 48, 45, 48, 48, 84, 48, 48, 58, 48, 48, 58, 48, 48, 90]
def lay (p : Nat) : Nat := layL.getD p 0
def gk (p : Nat) : Nat := ([0, 0, 0, 0, 0, 1, 1, 1, 2, 2, 2, 3, 3, 3, 4, 4, 4, 5, 5, 5, 6] : List Nat).getD p 0
def bt (s : ByteArray) (p : Nat) : Nat := (s.data.toList.getD p 0).toNat
def Fits (s : ByteArray) (p : Nat) : Prop := (lay p = 48 ∧ 48 ≤ bt s p ∧ bt s p ≤ 57) ∨ (lay p ≠ 48 ∧ bt s p = lay p)
instance (s : ByteArray) (p : Nat) : Decidable (Fits s p) := by unfold Fits; infer_instance
def got (s : ByteArray) : Nat → List Int
  | 0 => [0, 0, 0, 0, 0, 0]
  | p + 1 => if lay p = 48 then (got s p).set (gk p) ((got s p).getD (gk p) 0 * 10 + ((bt s p : Int) - 48)) else got s p

theorem bt_at (s : ByteArray) (p : Nat) (h : p < s.size) : (s[p]'h).toNat = bt s p := by
  unfold bt
  have h' : p < s.data.toList.length := by simpa using h
  rw [List.getD_eq_getElem?_getD, List.getElem?_eq_getElem h', Option.getD_some]
  rfl
theorem bt_lt (s : ByteArray) (p : Nat) : bt s p < 256 := (s.data.toList.getD p 0).toNat_lt
theorem twenty {p : Nat} (h : p < 20) : p = 0 ∨ p = 1 ∨ p = 2 ∨ p = 3 ∨ p = 4 ∨ p = 5 ∨ p = 6 ∨ p = 7 ∨ p = 8 ∨ p = 9 ∨ p = 10 ∨ p = 11 ∨ p = 12 ∨ p = 13 ∨ p = 14 ∨ p = 15 ∨ p = 16 ∨ p = 17 ∨ p = 18 ∨ p = 19 := by omega
theorem got_len (s : ByteArray) (p : Nat) : (got s p).length = 6 := by
  induction p with
  | zero => rfl
  | succ p ih =>
    unfold got
    split
    · rw [List.length_set, ih]
    · exact ih
theorem lay_byte (p : Nat) (h : p < 20) : lay p = 48 ∨ lay p = 45 ∨ lay p = 84 ∨ lay p = 58 ∨ lay p = 90 := by
  rcases twenty h with rfl | rfl | rfl | rfl | rfl | rfl | rfl | rfl | rfl | rfl | rfl | rfl | rfl | rfl | rfl | rfl | rfl | rfl | rfl | rfl <;> decide
theorem gk_dig (p : Nat) (h : p < 20) (hd : lay p = 48) : gk p < 6 ∧ gk (p + 1) = gk p := by
  revert hd
  rcases twenty h with rfl | rfl | rfl | rfl | rfl | rfl | rfl | rfl | rfl | rfl | rfl | rfl | rfl | rfl | rfl | rfl | rfl | rfl | rfl | rfl <;> decide
theorem gk_mark (p : Nat) (h : p < 20) (hd : lay p ≠ 48) : gk p < 6 ∧ gk (p + 1) = gk p + 1 := by
  revert hd
  rcases twenty h with rfl | rfl | rfl | rfl | rfl | rfl | rfl | rfl | rfl | rfl | rfl | rfl | rfl | rfl | rfl | rfl | rfl | rfl | rfl | rfl <;> decide
theorem got_dig (s : ByteArray) (p : Nat) (hd : lay p = 48) : got s (p + 1) = (got s p).set (gk p) ((got s p).getD (gk p) 0 * 10 + ((bt s p : Int) - 48)) := by
  show (if lay p = 48 then _ else _) = _
  rw [if_pos hd]
theorem got_mark (s : ByteArray) (p : Nat) (hd : lay p ≠ 48) : got s (p + 1) = got s p := by
  show (if lay p = 48 then _ else _) = _
  rw [if_neg hd]
/-- a digit's place, read of a row that fits. -/
theorem fit_dig {s : ByteArray} {p : Nat} (h : Fits s p) (hd : lay p = 48) : 48 ≤ bt s p ∧ bt s p ≤ 57 := by
  rcases h with h | h
  · exact h.2
  · exact absurd hd h.1
theorem fit_mark {s : ByteArray} {p : Nat} (h : Fits s p) (hd : lay p ≠ 48) : bt s p = lay p := by
  rcases h with h | h
  · exact absurd h.1 hd
  · exact h.2
theorem got_bd (s : ByteArray) (p : Nat) (h : p < 20) (hd : lay p = 48) (hf : ∀ j, j < p → Fits s j) : 0 ≤ (got s p).getD (gk p) 0 ∧ (got s p).getD (gk p) 0 ≤ 999 := by
  have f : ∀ j, j < p → lay j = 48 → 48 ≤ bt s j ∧ bt s j ≤ 57 := fun j hj hl => fit_dig (hf j hj) hl
  have b0 := f 0; have b1 := f 1; have b2 := f 2; have b5 := f 5; have b8 := f 8; have b11 := f 11; have b14 := f 14; have b17 := f 17
  clear f hf
  revert hd
  rcases twenty h with rfl | rfl | rfl | rfl | rfl | rfl | rfl | rfl | rfl | rfl | rfl | rfl | rfl | rfl | rfl | rfl | rfl | rfl | rfl | rfl <;>
    simp [lay, layL, got, gk] at b0 b1 b2 b5 b8 b11 b14 b17 ⊢ <;> omega

/-! the whole row -/
def rY (s : ByteArray) : Int := 1000 * ((bt s 0 : Int) - 48) + 100 * ((bt s 1 : Int) - 48) + 10 * ((bt s 2 : Int) - 48) + ((bt s 3 : Int) - 48)
def r2 (s : ByteArray) (p q : Nat) : Int := 10 * ((bt s p : Int) - 48) + ((bt s q : Int) - 48)
theorem got_all (s : ByteArray) : got s 20 = [rY s, r2 s 5 6, r2 s 8 9, r2 s 11 12, r2 s 14 15, r2 s 17 18] := by
  simp [got, lay, layL, gk, rY, r2]
  omega
theorem of_bytes (s : ByteArray) (hs : s.size = 20) : s = ⟨#[UInt8.ofNat (bt s 0), UInt8.ofNat (bt s 1), UInt8.ofNat (bt s 2), UInt8.ofNat (bt s 3), UInt8.ofNat (bt s 4), UInt8.ofNat (bt s 5), UInt8.ofNat (bt s 6), UInt8.ofNat (bt s 7), UInt8.ofNat (bt s 8), UInt8.ofNat (bt s 9), UInt8.ofNat (bt s 10), UInt8.ofNat (bt s 11), UInt8.ofNat (bt s 12), UInt8.ofNat (bt s 13), UInt8.ofNat (bt s 14), UInt8.ofNat (bt s 15), UInt8.ofNat (bt s 16), UInt8.ofNat (bt s 17), UInt8.ofNat (bt s 18), UInt8.ofNat (bt s 19)]⟩ := by
  obtain ⟨a⟩ := s
  obtain ⟨l⟩ := a
  have hl : l.length = 20 := hs
  match l, hl with
  | [a0, a1, a2, a3, a4, a5, a6, a7, a8, a9, a10, a11, a12, a13, a14, a15, a16, a17, a18, a19], _ =>
    simp [bt, UInt8.ofNat_toNat]
theorem ofN_dgt {b n : Nat} (h : b = 48 + n % 10) : UInt8.ofNat b = dgt n := by rw [h]; rfl
def FitsAll (s : ByteArray) : Prop := s.size = 20 ∧ ∀ p, p < 20 → Fits s p
theorem read_bd {s : ByteArray} (h : FitsAll s) : (0 ≤ rY s ∧ rY s ≤ 9999) ∧ (0 ≤ r2 s 5 6 ∧ r2 s 5 6 ≤ 99) ∧ (0 ≤ r2 s 8 9 ∧ r2 s 8 9 ≤ 99) ∧ (0 ≤ r2 s 11 12 ∧ r2 s 11 12 ≤ 99) ∧ (0 ≤ r2 s 14 15 ∧ r2 s 14 15 ≤ 99) ∧ (0 ≤ r2 s 17 18 ∧ r2 s 17 18 ≤ 99) := by
  have f : ∀ j, j < 20 → lay j = 48 → 48 ≤ bt s j ∧ bt s j ≤ 57 := fun j hj hl => fit_dig (h.2 j hj) hl
  have b0 := f 0 (by omega) rfl; have b1 := f 1 (by omega) rfl; have b2 := f 2 (by omega) rfl; have b3 := f 3 (by omega) rfl
  have b5 := f 5 (by omega) rfl; have b6 := f 6 (by omega) rfl; have b8 := f 8 (by omega) rfl; have b9 := f 9 (by omega) rfl
  have b11 := f 11 (by omega) rfl; have b12 := f 12 (by omega) rfl; have b14 := f 14 (by omega) rfl; have b15 := f 15 (by omega) rfl
  have b17 := f 17 (by omega) rfl; have b18 := f 18 (by omega) rfl
  unfold rY r2
  omega
theorem read_txt {s : ByteArray} (h : FitsAll s) : s = txt (rY s) (r2 s 5 6) (r2 s 8 9) (r2 s 11 12) (r2 s 14 15) (r2 s 17 18) := by
  have f : ∀ j, j < 20 → lay j = 48 → 48 ≤ bt s j ∧ bt s j ≤ 57 := fun j hj hl => fit_dig (h.2 j hj) hl
  have g : ∀ j, j < 20 → lay j ≠ 48 → bt s j = lay j := fun j hj hl => fit_mark (h.2 j hj) hl
  have b0 := f 0 (by omega) rfl; have b1 := f 1 (by omega) rfl; have b2 := f 2 (by omega) rfl; have b3 := f 3 (by omega) rfl
  have b5 := f 5 (by omega) rfl; have b6 := f 6 (by omega) rfl; have b8 := f 8 (by omega) rfl; have b9 := f 9 (by omega) rfl
  have b11 := f 11 (by omega) rfl; have b12 := f 12 (by omega) rfl; have b14 := f 14 (by omega) rfl; have b15 := f 15 (by omega) rfl
  have b17 := f 17 (by omega) rfl; have b18 := f 18 (by omega) rfl
  have m4 := g 4 (by omega) (by decide); have m7 := g 7 (by omega) (by decide); have m10 := g 10 (by omega) (by decide)
  have m13 := g 13 (by omega) (by decide); have m16 := g 16 (by omega) (by decide); have m19 := g 19 (by omega) (by decide)
  have e := of_bytes s h.1
  rw [ofN_dgt (n := (rY s).toNat / 1000) (b := bt s 0) (by unfold rY; omega), ofN_dgt (n := (rY s).toNat / 100) (b := bt s 1) (by unfold rY; omega),
    ofN_dgt (n := (rY s).toNat / 10) (b := bt s 2) (by unfold rY; omega), ofN_dgt (n := (rY s).toNat) (b := bt s 3) (by unfold rY; omega),
    ofN_dgt (n := (r2 s 5 6).toNat / 10) (b := bt s 5) (by unfold r2; omega), ofN_dgt (n := (r2 s 5 6).toNat) (b := bt s 6) (by unfold r2; omega),
    ofN_dgt (n := (r2 s 8 9).toNat / 10) (b := bt s 8) (by unfold r2; omega), ofN_dgt (n := (r2 s 8 9).toNat) (b := bt s 9) (by unfold r2; omega),
    ofN_dgt (n := (r2 s 11 12).toNat / 10) (b := bt s 11) (by unfold r2; omega), ofN_dgt (n := (r2 s 11 12).toNat) (b := bt s 12) (by unfold r2; omega),
    ofN_dgt (n := (r2 s 14 15).toNat / 10) (b := bt s 14) (by unfold r2; omega), ofN_dgt (n := (r2 s 14 15).toNat) (b := bt s 15) (by unfold r2; omega),
    ofN_dgt (n := (r2 s 17 18).toNat / 10) (b := bt s 17) (by unfold r2; omega), ofN_dgt (n := (r2 s 17 18).toNat) (b := bt s 18) (by unfold r2; omega),
    m4, m7, m10, m13, m16, m19] at e
  exact e
def Six (y m d h i x : Int) : Prop := (0 ≤ y ∧ y ≤ 9999) ∧ (0 ≤ m ∧ m ≤ 99) ∧ (0 ≤ d ∧ d ≤ 99) ∧ (0 ≤ h ∧ h ≤ 99) ∧ (0 ≤ i ∧ i ≤ 99) ∧ (0 ≤ x ∧ x ≤ 99)
theorem txt_fits (y m d h i x : Int) : FitsAll (txt y m d h i x) := by
  refine ⟨txt_size _ _ _ _ _ _, fun p hp => ?_⟩
  rcases twenty hp with rfl | rfl | rfl | rfl | rfl | rfl | rfl | rfl | rfl | rfl | rfl | rfl | rfl | rfl | rfl | rfl | rfl | rfl | rfl | rfl <;>
    simp [Fits, lay, layL, bt, txt, dgt_nat] <;> omega
theorem txt_read {y m d h i x : Int} (b : Six y m d h i x) : rY (txt y m d h i x) = y ∧ r2 (txt y m d h i x) 5 6 = m ∧ r2 (txt y m d h i x) 8 9 = d ∧ r2 (txt y m d h i x) 11 12 = h ∧ r2 (txt y m d h i x) 14 15 = i ∧ r2 (txt y m d h i x) 17 18 = x := by
  obtain ⟨b1, b2, b3, b4, b5, b6⟩ := b
  simp only [rY, r2, bt, txt]
  simp [dgt_nat]
  omega
theorem txt_inj {y m d h i x y' m' d' h' i' x' : Int} (b : Six y m d h i x) (b' : Six y' m' d' h' i' x') (e : txt y m d h i x = txt y' m' d' h' i' x') : y = y' ∧ m = m' ∧ d = d' ∧ h = h' ∧ i = i' ∧ x = x' := by
  obtain ⟨e1, e2, e3, e4, e5, e6⟩ := txt_read b
  obtain ⟨f1, f2, f3, f4, f5, f6⟩ := txt_read b'
  rw [e] at e1 e2 e3 e4 e5 e6
  exact ⟨e1.symm.trans f1, e2.symm.trans f2, e3.symm.trans f3, e4.symm.trans f4, e5.symm.trans f5, e6.symm.trans f6⟩
theorem six_of {y m d h i x : Int} (v : cal.Vld y m d) (c : Clk h i x) : Six y m d h i x := by
  have b := cal.dim_bd y m
  obtain ⟨v1, v2, v3, v4, v5, v6⟩ := v
  have k := clk_bd c
  unfold Six
  omega
end Go.Proofs.YtiboijhfieaepaaGreatDoor.stx

/-
  What the document's own answers of layer 4 (digits, Clock, Second, Day, Text) are: the same texts and clocks. No condition on the memory; the arguments as said.
-/
namespace Go.Proofs.YtiboijhfieaepaaGreatDoor.ref04
open Go.ChangeShapes Go.WideShapes Go.ChangeAt Go.RowKit
open cal stx
set_option linter.unusedVariables false
set_option maxRecDepth 100000

/-! digits -/
def dgs (N : Nat) : Nat → List UInt8
  | 0 => []
  | i + 1 => dgt (N / 10 ^ i) :: dgs N i
theorem dgs_len (N i : Nat) : (dgs N i).length = i := by
  induction i with
  | zero => rfl
  | succ i ih => simp [dgs, ih]
theorem dgs_two (n : Int) : (⟨(dgs n.toNat 2).toArray⟩ : ByteArray) = d2 n := by simp [dgs, d2]
theorem dgs_four (n : Int) : (⟨(dgs n.toNat 4).toArray⟩ : ByteArray) = d4 n := by simp [dgs, d4]
theorem dgs_cat (N i : Nat) : (⟨#[dgt (N / 10 ^ i)]⟩ : ByteArray) ++ ⟨(dgs N i).toArray⟩ = ⟨(dgs N (i + 1)).toArray⟩ := by
  apply ByteArray.ext
  simp [dgs]
theorem one_sign (W : World) (q : Nat) : (convert 57 9 (.slice (some ⟨W.heap.size, 0, none⟩) 1 1)).run Tryz.prog (W.alloc (.cells #[.int .u8 (48 + (q : Int) % 10)] 5)) = .ok (.string ⟨#[dgt q]⟩) (W.alloc (.cells #[.int .u8 (48 + (q : Int) % 10)] 5)) := by
  refine run_convert_bytes_back (P := Tryz.prog) _ 57 9 5 ⟨W.heap.size, 0, none⟩ 1 [dgt q] Tryz.underlying57 Tryz.underlying5 Tryz.underlying9 ?_
  intro j hj
  obtain rfl : j = 0 := by simpa using hj
  have e : (Addr.mk W.heap.size 0 none).add 0 = ⟨W.heap.size, 0, none⟩ := rfl
  rw [e, World.cell?_alloc_at _ _ _ _ rfl]
  have := dgt_nat q
  simp
  omega
set_option maxHeartbeats 1000000 in
theorem digits_on {w : World} (W : World) (hb : Below w.heap.size w W) (N K : Nat) (hN : N ≤ 9999) (hK : K ≤ 4) :
    Calls Tryz.prog 66 #[.int .i64 N, .int .i64 K] W fun e w' => e = .returned (.string ⟨(dgs N K).toArray⟩) ∧ Below w.heap.size w w' := by
  go_enter Tryz.func66, Tryz.ntmps66
  go_wp2
  go_loopw [0, 5, 6] (fun a s k V => ∃ i : Nat, i ≤ K ∧ a = .int .i64 ((N / 10 ^ i : Nat) : Int) ∧ s = .string ⟨(dgs N i).toArray⟩ ∧ k = .int .i64 i ∧ Below w.heap.size w V) (fun _ _ k _ => (K - (intOf k)).toNat)
  case atStart => exact ⟨0, by omega, by simp, rfl, rfl, hb⟩
  case round =>
    obtain ⟨i, hi, rfl, rfl, rfl, hbr⟩ := hrel
    have hq : N / 10 ^ i ≤ 9999 := Nat.le_trans (Nat.div_le_self _ _) hN
    have HQ : Hid (N / 10 ^ (i + 1) = N / 10 ^ i / 10) := by show N / 10 ^ (i + 1) = _; rw [Nat.pow_succ, Nat.div_div_eq_div_mul]
    have HC := Lib.hid (dgs_cat N i)
    have hz : (⟨(dgs N i).toArray⟩ : ByteArray).size = i := by show (dgs N i).toArray.size = i; simp [dgs_len]
    have hcv := fun W => one_sign W (N / 10 ^ i)
    by_cases hc : i < K
    · generalize N / 10 ^ i = q at *
      generalize (⟨(dgs N i).toArray⟩ : ByteArray) = Z at *
      go_wp2
      exact ⟨⟨i + 1, by omega, by rw [HQ.out]; simp, by rw [HC.out], by simp, ref03.bal hbr _⟩, by simp [intOf]; omega⟩
    · obtain rfl : i = K := by omega
      clear hc
      go_wp2
      go_ret
      exact ⟨rfl, hbr⟩
theorem digits2_on {w : World} (W : World) (hb : Below w.heap.size w W) (n : Int) (h0 : 0 ≤ n) (h1 : n ≤ 99) :
    Calls Tryz.prog 66 #[.int .i64 n, .int .i64 2] W fun e w' => e = .returned (.string (d2 n)) ∧ Below w.heap.size w w' := by
  have := digits_on (w := w) W hb n.toNat 2 (by omega) (by omega)
  rw [dgs_two, show ((n.toNat : Nat) : Int) = n by omega] at this
  exact this
theorem digits4_on {w : World} (W : World) (hb : Below w.heap.size w W) (n : Int) (h0 : 0 ≤ n) (h1 : n ≤ 9999) :
    Calls Tryz.prog 66 #[.int .i64 n, .int .i64 4] W fun e w' => e = .returned (.string (d4 n)) ∧ Below w.heap.size w w' := by
  have := digits_on (w := w) W hb n.toNat 4 (by omega) (by omega)
  rw [dgs_four, show ((n.toNat : Nat) : Int) = n by omega] at this
  exact this

/-! number -/
def nv (z : ByteArray) : Nat → Int
  | 0 => 0
  | i + 1 => 10 * nv z i + ((bt z i : Int) - 48)
def Digs (z : ByteArray) : Prop := ∀ j, j < z.size → 48 ≤ bt z j ∧ bt z j ≤ 57
theorem nv_bd (z : ByteArray) (i : Nat) (h : ∀ j, j < i → 48 ≤ bt z j ∧ bt z j ≤ 57) (hi : i ≤ 4) : 0 ≤ nv z i ∧ nv z i < 10 ^ i := by
  induction i with
  | zero => show (0 : Int) ≤ 0 ∧ (0 : Int) < 10 ^ 0; decide
  | succ i ih =>
    have a := ih (fun j hj => h j (by omega)) (by omega)
    have b := h i (by omega)
    show 0 ≤ 10 * nv z i + ((bt z i : Int) - 48) ∧ 10 * nv z i + ((bt z i : Int) - 48) < 10 ^ (i + 1)
    rw [Int.pow_succ]
    generalize nv z i = v at *
    generalize (10 : Int) ^ i = q at *
    omega
theorem nv_bd' (z : ByteArray) (i : Nat) (h : ∀ j, j < i → 48 ≤ bt z j ∧ bt z j ≤ 57) (hi : i ≤ 4) : 0 ≤ nv z i ∧ nv z i ≤ 9999 := by
  have := nv_bd z i h hi
  have k : i = 0 ∨ i = 1 ∨ i = 2 ∨ i = 3 ∨ i = 4 := by omega
  rcases k with rfl | rfl | rfl | rfl | rfl <;> omega
def Told (z : ByteArray) (w : World) (e : Ending) (w' : World) : Prop := (Digs z ∧ e = .returned (.int .i64 (nv z z.size)) ∨ ¬ Digs z ∧ e = .returned (.int .i64 (-1))) ∧ w = w'
end Go.Proofs.YtiboijhfieaepaaGreatDoor.ref04

/-
  What the document's own Clock, Second, Day and Text of layer 4 are: the same clocks and texts. No condition on the memory; the arguments as said.
-/
namespace Go.Proofs.YtiboijhfieaepaaGreatDoor.ref04
open Go.ChangeShapes Go.WideShapes Go.ChangeAt Go.RowKit
open cal stx
set_option linter.unusedVariables false
set_option maxRecDepth 100000

/-! Clock, Second -/
theorem clock_no (n : Int) (w : World) (h : n < 0 ∨ 86400 < n) :
    Calls Tryz.prog 65 #[.int .i64 n] w fun e w' => e = .returned (.tuple #[.int .i64 0, .int .i64 0, .int .i64 0, .bool false]) ∧ w = w' := by
  by_cases h1 : n < 0
  · clear h
    go_enter Tryz.func65, Tryz.ntmps65
    go_wp2
    exact bodyPost_ret (v := .tuple #[.int .i64 0, .int .i64 0, .int .i64 0, .bool false]) (by simp [results, Tryz.results65, go_sem]) rfl ⟨rfl, rfl⟩
  · have h2 : 86400 < n := by omega
    clear h
    go_enter Tryz.func65, Tryz.ntmps65
    go_wp2
    exact bodyPost_ret (v := .tuple #[.int .i64 0, .int .i64 0, .int .i64 0, .bool false]) (by simp [results, Tryz.results65, go_sem]) rfl ⟨rfl, rfl⟩
theorem ret_t3 {a b c a' b' c' : Int} (h1 : a = a') (h2 : b = b') (h3 : c = c') : Ending.returned (.tuple #[.int .i64 a, .int .i64 b, .int .i64 c, .bool true]) = .returned (.tuple #[.int .i64 a', .int .i64 b', .int .i64 c', .bool true]) := by rw [h1, h2, h3]
theorem clock_yes (h i x n : Int) (w : World) (c : Clk h i x) (e : secN h i x = n) :
    Calls Tryz.prog 65 #[.int .i64 n] w fun e w' => e = .returned (.tuple #[.int .i64 h, .int .i64 i, .int .i64 x, .bool true]) ∧ w = w' := by
  have bd := secN_bd c
  have tp := secN_top c
  by_cases hx : x = 60
  · obtain ⟨rfl, rfl⟩ : h = 23 ∧ i = 59 := by unfold Clk at c; omega
    subst hx
    obtain rfl : n = 86400 := by rw [← e]; decide
    clear bd tp c e
    go_enter Tryz.func65, Tryz.ntmps65
    go_wp2
    exact bodyPost_ret (v := .tuple #[.int .i64 23, .int .i64 59, .int .i64 60, .bool true]) (by simp [results, Tryz.results65, go_sem]) rfl ⟨rfl, rfl⟩
  · obtain ⟨e1, e2, e3⟩ := secN_parts c hx
    have e1 := Lib.hid e1
    have e2 := Lib.hid e2
    have e3 := Lib.hid e3
    have ht : ¬ n = 86400 := fun k => hx (tp.1 (by omega))
    have tb : (n == 86400) = false := by simpa using ht
    have b0 : 0 ≤ n := by omega
    have b1 : n < 86400 := by omega
    clear bd tp c hx ht
    obtain ⟨n, rfl⟩ : ∃ k, n = k := ⟨n, rfl⟩
    rw [e] at e1 e2 e3
    clear e
    go_enter Tryz.func65, Tryz.ntmps65
    go_wp2
    exact bodyPost_ret (v := .tuple #[.int .i64 (n / 3600), .int .i64 (n / 60 % 60), .int .i64 (n % 60), .bool true]) (by simp [results, Tryz.results65, go_sem]) rfl ⟨ret_t3 e1.out e2.out e3.out, rfl⟩
theorem ret_ib {a b : Int} {c : Bool} (h : a = b) : Ending.returned (.tuple #[.int .i64 a, .bool c]) = .returned (.tuple #[.int .i64 b, .bool c]) := by rw [h]
theorem second_yes (h i x n : Int) (w : World) (c : Clk h i x) (e : secN h i x = n) :
    Calls Tryz.prog 41 #[.int .i64 h, .int .i64 i, .int .i64 x] w fun e w' => e = .returned (.tuple #[.int .i64 n, .bool true]) ∧ w = w' := by
  subst e
  by_cases hx : x = 60
  · obtain ⟨rfl, rfl⟩ : h = 23 ∧ i = 59 := by unfold Clk at c; omega
    subst hx
    rw [show secN 23 59 60 = 86400 by decide]
    clear c
    go_enter Tryz.func41, Tryz.ntmps41
    go_wp2
    go_ret2
    exact ⟨rfl, rfl⟩
  · have E : Hid (secN h i x = h * 3600 + i * 60 + x) := by show secN h i x = _; unfold secN; omega
    obtain ⟨c1, c2, c3, c4, c5, c6⟩ := clk_bd c
    have tb : (x == 60) = false := by simpa using hx
    have c7 : x ≤ 59 := by omega
    clear c hx
    generalize secN h i x = N at *
    go_enter Tryz.func41, Tryz.ntmps41
    go_wp2
    all_goals
      go_ret2
      exact ⟨ret_ib (by have := E.out; omega), rfl⟩
theorem second_no (h i x : Int) (w : World) (c : ¬ Clk h i x) :
    Calls Tryz.prog 41 #[.int .i64 h, .int .i64 i, .int .i64 x] w fun e w' => e = .returned (.tuple #[.int .i64 0, .bool false]) ∧ w = w' := by
  have k : ¬ (h = 23 ∧ i = 59 ∧ x = 60) := fun k => c (Or.inr k)
  have k2 : h < 0 ∨ 23 < h ∨ i < 0 ∨ 59 < i ∨ x < 0 ∨ 60 ≤ x := by unfold Clk at c; omega
  clear c
  go_enter Tryz.func41, Tryz.ntmps41
  go_wp2
  all_goals first
    | (exfalso; simp_all; done)
    | (exfalso; simp_all; omega)
    | (exfalso; omega)
    | (go_ret2; exact ⟨rfl, rfl⟩)

/-! Day, Text -/
theorem ret_sb {a b : ByteArray} {c : Bool} (h : a = b) : Ending.returned (.tuple #[.string a, .bool c]) = .returned (.tuple #[.string b, .bool c]) := by rw [h]
theorem day_off {w : World} (W : World) (hb : Below w.heap.size w W) (n : Int) (h : n < -719162 ∨ 2932896 < n) :
    Calls Tryz.prog 64 #[.int .i64 n] W fun e w' => e = .returned (.tuple #[.string ⟨#[]⟩, .bool false]) ∧ Below w.heap.size w w' := by
  have C := Lib.hid (fun W hb => ref03.date_off (w := w) W hb n h)
  clear h
  go_enter Tryz.func64, Tryz.ntmps64
  go_wp2_with (first
    | (go_at_call 62; (with_reducible refine (C.out _ (by assumption)).mono ?_; rintro e w1 ⟨rfl, hb1⟩)))
  go_ret2
  exact ⟨rfl, by assumption⟩
theorem day_on {w : World} (W : World) (hb : Below w.heap.size w W) (y m d n : Int) (v : Vld y m d) (hn : num y m d = n) :
    Calls Tryz.prog 64 #[.int .i64 n] W fun e w' => e = .returned (.tuple #[.string (dtx y m d), .bool true]) ∧ Below w.heap.size w w' := by
  have C := Lib.hid (fun W hb => ref03.date_on (w := w) W hb y m d n v hn)
  have bd := dim_bd y m
  obtain ⟨h1, h2, h3, h4, h5, h6⟩ := v
  have Y := Lib.hid (fun W hb => digits4_on (w := w) W hb y (by omega) (by omega))
  have M := Lib.hid (fun W hb => digits2_on (w := w) W hb m (by omega) (by omega))
  have D := Lib.hid (fun W hb => digits2_on (w := w) W hb d (by omega) (by omega))
  have E := Lib.hid (dtx_cat y m d)
  have s1 := d4_size y
  have s2 := d2_size m
  have s3 := d2_size d
  generalize d4 y = Y4 at *
  generalize d2 m = M2 at *
  generalize d2 d = D2 at *
  clear hn bd
  go_enter Tryz.func64, Tryz.ntmps64
  go_wp2_with (first
    | (go_at_call 62; (with_reducible refine (C.out _ (by assumption)).mono ?_; rintro e w1 ⟨rfl, hb1⟩))
    | (go_at_call 66; (first | (with_reducible refine (Y.out _ (by assumption)).mono ?_; rintro e w2 ⟨rfl, hb2⟩) | (with_reducible refine (M.out _ (by assumption)).mono ?_; rintro e w3 ⟨rfl, hb3⟩) | (with_reducible refine (D.out _ (by assumption)).mono ?_; rintro e w4 ⟨rfl, hb4⟩))))
  go_ret2
  exact ⟨ret_sb E.out, by assumption⟩
theorem text_off {w : World} (W : World) (hb : Below w.heap.size w W) (n k : Int) (h : n < -719162 ∨ 2932896 < n ∨ k < 0 ∨ 86400 < k) :
    Calls Tryz.prog 31 #[.int .i64 n, .int .i64 k] W fun e w' => e = .returned (.tuple #[.string ⟨#[]⟩, .bool false]) ∧ Below w.heap.size w w' := by
  by_cases hk : k < 0 ∨ 86400 < k
  · have K := Lib.hid (fun W => clock_no k W hk)
    by_cases hd : n < -719162 ∨ 2932896 < n
    · have C := Lib.hid (fun W hb => day_off (w := w) W hb n hd)
      clear h hd hk
      go_enter Tryz.func31, Tryz.ntmps31
      go_wp2_with (first
        | (go_at_call 64; (with_reducible refine (C.out _ (by assumption)).mono ?_; rintro e w1 ⟨rfl, hb1⟩))
        | (go_at_call 65; (with_reducible refine (K.out _).mono ?_; rintro e w' ⟨rfl, rfl⟩)))
      go_ret2
      exact ⟨rfl, by assumption⟩
    · obtain ⟨y, m, d, v, e⟩ := day.exists_date n (by omega) (by omega)
      have C := Lib.hid (fun W hb => day_on (w := w) W hb y m d n v e)
      generalize dtx y m d = X at *
      clear h hd hk v e
      go_enter Tryz.func31, Tryz.ntmps31
      go_wp2_with (first
        | (go_at_call 64; (with_reducible refine (C.out _ (by assumption)).mono ?_; rintro e w1 ⟨rfl, hb1⟩))
        | (go_at_call 65; (with_reducible refine (K.out _).mono ?_; rintro e w' ⟨rfl, rfl⟩)))
      go_ret2
      exact ⟨rfl, by assumption⟩
  · have hd : n < -719162 ∨ 2932896 < n := by omega
    have C := Lib.hid (fun W hb => day_off (w := w) W hb n hd)
    obtain ⟨a, b, c, ca, ea⟩ := exists_clk k (by omega) (by omega)
    have K := Lib.hid (fun W => clock_yes a b c k W ca ea)
    clear h hd hk ca ea
    go_enter Tryz.func31, Tryz.ntmps31
    go_wp2_with (first
      | (go_at_call 64; (with_reducible refine (C.out _ (by assumption)).mono ?_; rintro e w1 ⟨rfl, hb1⟩))
      | (go_at_call 65; (with_reducible refine (K.out _).mono ?_; rintro e w' ⟨rfl, rfl⟩)))
    go_ret2
    exact ⟨rfl, by assumption⟩
theorem text_on {w : World} (W : World) (hb : Below w.heap.size w W) (y m d h i x n k : Int) (v : Vld y m d) (hn : num y m d = n) (c : Clk h i x) (hk : secN h i x = k) :
    Calls Tryz.prog 31 #[.int .i64 n, .int .i64 k] W fun e w' => e = .returned (.tuple #[.string (txt y m d h i x), .bool true]) ∧ Below w.heap.size w w' := by
  have C := Lib.hid (fun W hb => day_on (w := w) W hb y m d n v hn)
  have K := Lib.hid (fun W => clock_yes h i x k W c hk)
  obtain ⟨h1, h2, h3, h4, h5, h6⟩ := clk_bd c
  have H := Lib.hid (fun W hb => digits2_on (w := w) W hb h (by omega) (by omega))
  have I := Lib.hid (fun W hb => digits2_on (w := w) W hb i (by omega) (by omega))
  have X := Lib.hid (fun W hb => digits2_on (w := w) W hb x (by omega) (by omega))
  have E := Lib.hid (txt_cat y m d h i x)
  have s0 := dtx_size y m d
  have s1 := d2_size h
  have s2 := d2_size i
  have s3 := d2_size x
  generalize dtx y m d = D0 at *
  generalize d2 h = H2 at *
  generalize d2 i = I2 at *
  generalize d2 x = X2 at *
  clear hn hk v c
  go_enter Tryz.func31, Tryz.ntmps31
  go_wp2_with (first
    | (go_at_call 64; (with_reducible refine (C.out _ (by assumption)).mono ?_; rintro e w1 ⟨rfl, hb1⟩))
    | (go_at_call 65; (with_reducible refine (K.out _).mono ?_; rintro e w' ⟨rfl, rfl⟩))
    | (go_at_call 66; (first | (with_reducible refine (H.out _ (by assumption)).mono ?_; rintro e w3 ⟨rfl, hb3⟩) | (with_reducible refine (I.out _ (by assumption)).mono ?_; rintro e w4 ⟨rfl, hb4⟩) | (with_reducible refine (X.out _ (by assumption)).mono ?_; rintro e w5 ⟨rfl, hb5⟩))))
  go_ret2
  exact ⟨ret_sb E.out, by assumption⟩
theorem second_on {w : World} (W : World) (hb : Below w.heap.size w W) (h i x n : Int) (c : Clk h i x) (e : secN h i x = n) :
    Calls Tryz.prog 41 #[.int .i64 h, .int .i64 i, .int .i64 x] W fun e w' => e = .returned (.tuple #[.int .i64 n, .bool true]) ∧ Below w.heap.size w w' :=
  (second_yes h i x n W c e).mono fun e w' ⟨he, hw⟩ => ⟨he, hw ▸ hb⟩
theorem second_off {w : World} (W : World) (hb : Below w.heap.size w W) (h i x : Int) (c : ¬ Clk h i x) :
    Calls Tryz.prog 41 #[.int .i64 h, .int .i64 i, .int .i64 x] W fun e w' => e = .returned (.tuple #[.int .i64 0, .bool false]) ∧ Below w.heap.size w w' :=
  (second_no h i x W c).mono fun e w' ⟨he, hw⟩ => ⟨he, hw ▸ hb⟩
theorem clock_on {w : World} (W : World) (hb : Below w.heap.size w W) (h i x n : Int) (c : Clk h i x) (e : secN h i x = n) :
    Calls Tryz.prog 65 #[.int .i64 n] W fun e w' => e = .returned (.tuple #[.int .i64 h, .int .i64 i, .int .i64 x, .bool true]) ∧ Below w.heap.size w w' :=
  (clock_yes h i x n W c e).mono fun e w' ⟨he, hw⟩ => ⟨he, hw ▸ hb⟩
theorem clock_off {w : World} (W : World) (hb : Below w.heap.size w W) (n : Int) (h : n < 0 ∨ 86400 < n) :
    Calls Tryz.prog 65 #[.int .i64 n] W fun e w' => e = .returned (.tuple #[.int .i64 0, .int .i64 0, .int .i64 0, .bool false]) ∧ Below w.heap.size w w' :=
  (clock_no n W h).mono fun e w' ⟨he, hw⟩ => ⟨he, hw ▸ hb⟩
end Go.Proofs.YtiboijhfieaepaaGreatDoor.ref04
