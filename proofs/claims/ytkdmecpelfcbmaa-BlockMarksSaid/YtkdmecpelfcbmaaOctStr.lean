/-
  Bytes as texts: when they are the same, one behind the other, and their order. Nothing of any program's functions. Conditions: as said.
-/
import Derived.Test.YtkdmecpelfcbmaaOctMem
namespace Go.Proofs.Ytkdmecpelfcbmaa.oct
open Go.ChangeShapes Go.WideShapes Go.ChangeAt Go.RowKit
open om mem
set_option linter.unusedVariables false
set_option maxRecDepth 100000

def u8s (l : List Nat) : List UInt8 := l.map UInt8.ofNat
theorem strN_list (l : List Nat) : (strN l).toList = u8s l := by
  rw [ByteArray.toList_eq]
  unfold strN u8s
  rw [strOfNums_data, List.map_map]
  rfl
theorem strN_data (l : List Nat) : (strN l).data.toList = u8s l := by rw [← ByteArray.toList_eq, strN_list]
theorem u8_inj {x y : Nat} (hx : x < 256) (hy : y < 256) (h : UInt8.ofNat x = UInt8.ofNat y) : x = y := by
  have := congrArg UInt8.toNat h
  simp only [UInt8.toNat_ofNat'] at this
  omega
theorem u8s_inj : ∀ {l m : List Nat}, Bys l → Bys m → u8s l = u8s m → l = m
  | [], [], _, _, _ => rfl
  | [], y :: m, _, _, h => by simp [u8s] at h
  | x :: l, [], _, _, h => by simp [u8s] at h
  | x :: l, y :: m, hl, hm, h => by
    simp only [u8s, List.map_cons, List.cons.injEq] at h
    rw [u8_inj (hl x (List.mem_cons_self ..)) (hm y (List.mem_cons_self ..)) h.1, u8s_inj (l := l) (m := m) (fun z hz => hl z (List.mem_cons_of_mem _ hz)) (fun z hz => hm z (List.mem_cons_of_mem _ hz)) h.2]
theorem strN_inj {l m : List Nat} (hl : Bys l) (hm : Bys m) (h : strN l = strN m) : l = m := u8s_inj hl hm (by rw [← strN_list, ← strN_list, h])
theorem strN_app (l m : List Nat) : strN l ++ strN m = strN (l ++ m) := by
  apply ByteArray.ext
  apply Array.toList_inj.1
  rw [ByteArray.data_append, Array.toList_append, strN_data, strN_data, strN_data]
  simp [u8s]
theorem strN_size (l : List Nat) : (strN l).size = l.length := by
  have := congrArg List.length (strN_data l)
  simpa [u8s] using this
theorem less_val : ∀ (l m : List Nat), l.length = m.length → Bys l → Bys m → Op.bytesLess (u8s l) (u8s m) = decide (val l 0 < val m 0)
  | [], [], _, _, _ => rfl
  | [], y :: m, h, _, _ => by simp at h
  | x :: l, [], h, _, _ => by simp at h
  | x :: l, y :: m, h, hl, hm => by
    have hl' : Bys l := fun z hz => hl z (List.mem_cons_of_mem _ hz)
    have hm' : Bys m := fun z hz => hm z (List.mem_cons_of_mem _ hz)
    have e : l.length = m.length := by simpa using h
    have ih := less_val l m e hl' hm'
    have hx := hl x (List.mem_cons_self ..)
    have hy := hm y (List.mem_cons_self ..)
    have a := val_lt l hl'
    have b := val_lt m hm'
    have s1 : val (x :: l) 0 = x * 256 ^ l.length + val l 0 := by rw [val, val_split]; simp
    have s2 : val (y :: m) 0 = y * 256 ^ l.length + val m 0 := by rw [val, val_split, ← e]; simp
    rw [← e] at b
    rw [s1, s2]
    simp only [u8s, List.map_cons, Op.bytesLess]
    rw [show Op.bytesLess (l.map UInt8.ofNat) (m.map UInt8.ofNat) = decide (val l 0 < val m 0) from ih]
    rw [Bool.eq_iff_iff]
    simp only [Bool.or_eq_true, Bool.and_eq_true, decide_eq_true_eq, beq_iff_eq, UInt8.lt_iff_toNat_lt, UInt8.toNat_ofNat']
    rw [Nat.mod_eq_of_lt (by omega : x < 2 ^ 8), Nat.mod_eq_of_lt (by omega : y < 2 ^ 8)]
    rcases Nat.lt_trichotomy x y with h1 | rfl | h1
    · have := Nat.mul_le_mul_right (256 ^ l.length) (show x + 1 ≤ y from h1)
      rw [Nat.add_mul] at this
      constructor
      · intro _; omega
      · intro _; exact Or.inl h1
    · constructor
      · rintro (h2 | ⟨_, h2⟩) <;> omega
      · intro h2; exact Or.inr ⟨rfl, by omega⟩
    · have := Nat.mul_le_mul_right (256 ^ l.length) (show y + 1 ≤ x from h1)
      rw [Nat.add_mul] at this
      constructor
      · rintro (h2 | ⟨h2, _⟩)
        · omega
        · have := u8_inj hx hy h2; omega
      · intro h2; omega
/-- of two numbers, not below 0, the greater one has the greater bytes. -/
theorem less_lay (a b : Int) (k : Nat) (ha : 0 ≤ a) (hb : 0 ≤ b) (ha' : a < 256 ^ k) (hb' : b < 256 ^ k) : Op.bytesLess (strN (lay a k)).toList (strN (lay b k)).toList = decide (a < b) := by
  rw [strN_list, strN_list, less_val _ _ (by rw [lay_len, lay_len]) (lay_bys a k) (lay_bys b k)]
  have e1 := val_lay a k
  have e2 := val_lay b k
  rw [Int.emod_eq_of_lt ha ha'] at e1
  rw [Int.emod_eq_of_lt hb hb'] at e2
  rw [Bool.eq_iff_iff]
  simp only [decide_eq_true_eq]
  omega
theorem beq_str (a b : ByteArray) : (a.toList == b.toList) = decide (a = b) := by
  rw [ByteArray.toList_eq, ByteArray.toList_eq, Bool.eq_iff_iff]
  simp only [beq_iff_eq, decide_eq_true_eq]
  constructor
  · intro e
    exact ByteArray.ext (Array.ext' e)
  · rintro rfl; rfl
end Go.Proofs.Ytkdmecpelfcbmaa.oct
