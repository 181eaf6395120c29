/-
  Plain mathematics of days and seconds as texts: digits, the twenty bytes of a text, its order, and what a row of twenty bytes says. Nothing of any program. Conditions: as said.
-/
import Derived.Test.YtiboijhfieaepaaGreatDoorDayMath
import Derived.Laws.Concat
import Derived.Lib.ItoaNum
import Derived.Lib.Repeat
namespace Go.Proofs.YtiboijhfieaepaaGreatDoor.stx
set_option linter.unusedVariables false
set_option maxRecDepth 100000

def dgt (n : Nat) : UInt8 := UInt8.ofNat (48 + n % 10)
def d2 (n : Int) : ByteArray := ⟨#[dgt (n.toNat / 10), dgt n.toNat]⟩
def d4 (n : Int) : ByteArray := ⟨#[dgt (n.toNat / 1000), dgt (n.toNat / 100), dgt (n.toNat / 10), dgt n.toNat]⟩
def dtx (y m d : Int) : ByteArray := ⟨#[dgt (y.toNat / 1000), dgt (y.toNat / 100), dgt (y.toNat / 10), dgt y.toNat, 45, dgt (m.toNat / 10), dgt m.toNat, 45, dgt (d.toNat / 10), dgt d.toNat]⟩
def txt (y m d h i x : Int) : ByteArray := ⟨#[dgt (y.toNat / 1000), dgt (y.toNat / 100), dgt (y.toNat / 10), dgt y.toNat, 45, dgt (m.toNat / 10), dgt m.toNat, 45, dgt (d.toNat / 10), dgt d.toNat, 84, dgt (h.toNat / 10), dgt h.toNat, 58, dgt (i.toNat / 10), dgt i.toNat, 58, dgt (x.toNat / 10), dgt x.toNat, 90]⟩

theorem d2_size (n : Int) : (d2 n).size = 2 := rfl
theorem d4_size (n : Int) : (d4 n).size = 4 := rfl
theorem dtx_size (y m d : Int) : (dtx y m d).size = 10 := rfl
theorem txt_size (y m d h i x : Int) : (txt y m d h i x).size = 20 := rfl

theorem dtx_cat (y m d : Int) : d4 y ++ ⟨#[45]⟩ ++ d2 m ++ ⟨#[45]⟩ ++ d2 d = dtx y m d := by
  apply ByteArray.ext
  simp [d4, d2, dtx]
theorem txt_cat (y m d h i x : Int) : dtx y m d ++ ⟨#[84]⟩ ++ d2 h ++ ⟨#[58]⟩ ++ d2 i ++ ⟨#[58]⟩ ++ d2 x ++ ⟨#[90]⟩ = txt y m d h i x := by
  apply ByteArray.ext
  simp [dtx, d2, txt]

/-! decimals -/
theorem dgt_nat (n : Nat) : (dgt n).toNat = 48 + n % 10 := by
  unfold dgt
  rw [UInt8.toNat_ofNat']
  omega
theorem dgt_mod (n : Nat) : dgt (n % 10) = dgt n := by unfold dgt; rw [Nat.mod_mod]
theorem dec1 (u : Nat) (h : u < 10) : Lib.decDigits u = [dgt u] := by
  rw [Lib.decDigits, dif_pos h]
  unfold dgt
  rw [Nat.mod_eq_of_lt h]
theorem dec_step (u : Nat) (h : ¬ u < 10) : Lib.decDigits u = Lib.decDigits (u / 10) ++ [dgt u] := by
  rw [Lib.decDigits, dif_neg h]
  rfl
theorem dec2 (u : Nat) (h0 : 10 ≤ u) (h : u < 100) : Lib.decDigits u = [dgt (u / 10), dgt u] := by
  rw [dec_step u (by omega), dec1 _ (by omega)]
  rfl
theorem dec3 (u : Nat) (h0 : 100 ≤ u) (h : u < 1000) : Lib.decDigits u = [dgt (u / 100), dgt (u / 10), dgt u] := by
  rw [dec_step u (by omega), dec2 _ (by omega) (by omega), Nat.div_div_eq_div_mul]
  rfl
theorem dec4 (u : Nat) (h0 : 1000 ≤ u) (h : u < 10000) : Lib.decDigits u = [dgt (u / 1000), dgt (u / 100), dgt (u / 10), dgt u] := by
  rw [dec_step u (by omega), dec3 _ (by omega) (by omega), Nat.div_div_eq_div_mul, Nat.div_div_eq_div_mul]
  rfl
theorem dgt_zero {n : Nat} (h : n = 0) : dgt n = 48 := by subst h; rfl

/-! clocks -/
def secN (h i x : Int) : Int := 3600 * h + 60 * i + x
def Clk (h i x : Int) : Prop := (0 ≤ h ∧ h ≤ 23 ∧ 0 ≤ i ∧ i ≤ 59 ∧ 0 ≤ x ∧ x ≤ 59) ∨ (h = 23 ∧ i = 59 ∧ x = 60)
instance (h i x : Int) : Decidable (Clk h i x) := by unfold Clk; infer_instance
theorem clk_bd {h i x : Int} (c : Clk h i x) : 0 ≤ h ∧ h ≤ 23 ∧ 0 ≤ i ∧ i ≤ 59 ∧ 0 ≤ x ∧ x ≤ 60 := by unfold Clk at c; omega
theorem secN_bd {h i x : Int} (c : Clk h i x) : 0 ≤ secN h i x ∧ secN h i x ≤ 86400 := by unfold Clk at c; unfold secN; omega
theorem exists_clk (n : Int) (h0 : 0 ≤ n) (h1 : n ≤ 86400) : ∃ h i x : Int, Clk h i x ∧ secN h i x = n := by
  by_cases e : n = 86400
  · exact ⟨23, 59, 60, by decide, by subst e; decide⟩
  · exact ⟨n / 3600, n / 60 % 60, n % 60, by unfold Clk; omega, by unfold secN; omega⟩
theorem secN_lt_iff {h i x h' i' x' : Int} (c : Clk h i x) (c' : Clk h' i' x') : secN h i x < secN h' i' x' ↔ (h < h' ∨ h = h' ∧ (i < i' ∨ i = i' ∧ x < x')) := by
  unfold Clk at c c'; unfold secN; omega
theorem secN_inj {h i x h' i' x' : Int} (c : Clk h i x) (c' : Clk h' i' x') (e : secN h i x = secN h' i' x') : h = h' ∧ i = i' ∧ x = x' := by
  unfold Clk at c c'; unfold secN at e; omega
theorem secN_top {h i x : Int} (c : Clk h i x) : secN h i x = 86400 ↔ x = 60 := by
  unfold Clk at c; unfold secN; omega
theorem secN_parts {h i x : Int} (c : Clk h i x) (hx : x ≠ 60) : secN h i x / 3600 = h ∧ secN h i x / 60 % 60 = i ∧ secN h i x % 60 = x := by
  unfold Clk at c; unfold secN; omega
end Go.Proofs.YtiboijhfieaepaaGreatDoor.stx
