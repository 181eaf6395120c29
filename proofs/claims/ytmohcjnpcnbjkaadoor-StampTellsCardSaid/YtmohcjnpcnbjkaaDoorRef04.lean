/-
  What the document's own answers of layer 4 (digits, Clock, Second, Day, Text) are: the same texts and clocks. No condition on the memory; the arguments as said.
-/
import Derived.Test.YtmohcjnpcnbjkaaDoorRef03
import Derived.Test.YtmohcjnpcnbjkaaDoorStampShape
import Derived.Laws.IdiomStrings
namespace Go.Proofs.YtmohcjnpcnbjkaaDoor.ref04
open Go.ChangeShapes Go.WideShapes Go.ChangeAt Go.RowKit
open cal stx
set_option linter.unusedVariables false

/-! digits -/
def dgs (N : Nat) : Nat → List UInt8
  | 0 => []
  | i + 1 => dgt (N / 10 ^ i) :: dgs N i
theorem dgs_len (N i : Nat) : (dgs N i).length = i := by
  induction i with
  | zero => rfl
  | succ i ih => simp [dgs, ih]
theorem dgs_two (n : Int) : (⟨(dgs n.toNat 2).toArray⟩ : ByteArray) = d2 n := by simp [dgs, d2]
theorem dgs_four (n : Int) : (⟨(dgs n.toNat 4).toArray⟩ : ByteArray) = d4 n := by simp [dgs, d4]
theorem dgs_cat (N i : Nat) : (⟨#[dgt (N / 10 ^ i)]⟩ : ByteArray) ++ ⟨(dgs N i).toArray⟩ = ⟨(dgs N (i + 1)).toArray⟩ := by
  apply ByteArray.ext
  simp [dgs]
theorem one_sign (W : World) (q : Nat) : (convert 35 9 (.slice (some ⟨W.heap.size, 0, none⟩) 1 1)).run Tryd.prog (W.alloc (.cells #[.int .u8 (48 + (q : Int) % 10)] 5)) = .ok (.string ⟨#[dgt q]⟩) (W.alloc (.cells #[.int .u8 (48 + (q : Int) % 10)] 5)) := by
  refine run_convert_bytes_back (P := Tryd.prog) _ 35 9 5 ⟨W.heap.size, 0, none⟩ 1 [dgt q] Tryd.underlying35 Tryd.underlying5 Tryd.underlying9 ?_
  intro j hj
  obtain rfl : j = 0 := by simpa using hj
  have e : (Addr.mk W.heap.size 0 none).add 0 = ⟨W.heap.size, 0, none⟩ := rfl
  rw [e, World.cell?_alloc_at _ _ _ _ rfl]
  have := dgt_nat q
  simp
  omega
set_option maxHeartbeats 1000000 in
theorem digits_on {w : World} (W : World) (hb : Below w.heap.size w W) (N K : Nat) (hN : N ≤ 9999) (hK : K ≤ 4) :
    Calls Tryd.prog 20 #[.int .i64 N, .int .i64 K] W fun e w' => e = .returned (.string ⟨(dgs N K).toArray⟩) ∧ Below w.heap.size w w' := by
  go_enter Tryd.func20, Tryd.ntmps20
  go_wp2
  go_loopw [0, 5, 6] (fun a s k V => ∃ i : Nat, i ≤ K ∧ a = .int .i64 ((N / 10 ^ i : Nat) : Int) ∧ s = .string ⟨(dgs N i).toArray⟩ ∧ k = .int .i64 i ∧ Below w.heap.size w V) (fun _ _ k _ => (K - (intOf k)).toNat)
  case atStart => exact ⟨0, by omega, by simp, rfl, rfl, hb⟩
  case round =>
    obtain ⟨i, hi, rfl, rfl, rfl, hbr⟩ := hrel
    have hq : N / 10 ^ i ≤ 9999 := Nat.le_trans (Nat.div_le_self _ _) hN
    have HQ : Hid (N / 10 ^ (i + 1) = N / 10 ^ i / 10) := by show N / 10 ^ (i + 1) = _; rw [Nat.pow_succ, Nat.div_div_eq_div_mul]
    have HC := Lib.hid (dgs_cat N i)
    have hz : (⟨(dgs N i).toArray⟩ : ByteArray).size = i := by show (dgs N i).toArray.size = i; simp [dgs_len]
    have hcv := fun W => one_sign W (N / 10 ^ i)
    by_cases hc : i < K
    · generalize N / 10 ^ i = q at *
      generalize (⟨(dgs N i).toArray⟩ : ByteArray) = Z at *
      go_wp2
      exact ⟨⟨i + 1, by omega, by rw [HQ.out]; simp, by rw [HC.out], by simp, ref03.bal hbr _⟩, by simp [intOf]; omega⟩
    · obtain rfl : i = K := by omega
      clear hc
      go_wp2
      go_ret
      exact ⟨rfl, hbr⟩
theorem digits2_on {w : World} (W : World) (hb : Below w.heap.size w W) (n : Int) (h0 : 0 ≤ n) (h1 : n ≤ 99) :
    Calls Tryd.prog 20 #[.int .i64 n, .int .i64 2] W fun e w' => e = .returned (.string (d2 n)) ∧ Below w.heap.size w w' := by
  have := digits_on (w := w) W hb n.toNat 2 (by omega) (by omega)
  rw [dgs_two, show ((n.toNat : Nat) : Int) = n by omega] at this
  exact this
theorem digits4_on {w : World} (W : World) (hb : Below w.heap.size w W) (n : Int) (h0 : 0 ≤ n) (h1 : n ≤ 9999) :
    Calls Tryd.prog 20 #[.int .i64 n, .int .i64 4] W fun e w' => e = .returned (.string (d4 n)) ∧ Below w.heap.size w w' := by
  have := digits_on (w := w) W hb n.toNat 4 (by omega) (by omega)
  rw [dgs_four, show ((n.toNat : Nat) : Int) = n by omega] at this
  exact this

/-! number -/
def nv (z : ByteArray) : Nat → Int
  | 0 => 0
  | i + 1 => 10 * nv z i + ((bt z i : Int) - 48)
def Digs (z : ByteArray) : Prop := ∀ j, j < z.size → 48 ≤ bt z j ∧ bt z j ≤ 57
theorem nv_bd (z : ByteArray) (i : Nat) (h : ∀ j, j < i → 48 ≤ bt z j ∧ bt z j ≤ 57) (hi : i ≤ 4) : 0 ≤ nv z i ∧ nv z i < 10 ^ i := by
  induction i with
  | zero => show (0 : Int) ≤ 0 ∧ (0 : Int) < 10 ^ 0; decide
  | succ i ih =>
    have a := ih (fun j hj => h j (by omega)) (by omega)
    have b := h i (by omega)
    show 0 ≤ 10 * nv z i + ((bt z i : Int) - 48) ∧ 10 * nv z i + ((bt z i : Int) - 48) < 10 ^ (i + 1)
    rw [Int.pow_succ]
    generalize nv z i = v at *
    generalize (10 : Int) ^ i = q at *
    omega
theorem nv_bd' (z : ByteArray) (i : Nat) (h : ∀ j, j < i → 48 ≤ bt z j ∧ bt z j ≤ 57) (hi : i ≤ 4) : 0 ≤ nv z i ∧ nv z i ≤ 9999 := by
  have := nv_bd z i h hi
  have k : i = 0 ∨ i = 1 ∨ i = 2 ∨ i = 3 ∨ i = 4 := by omega
  rcases k with rfl | rfl | rfl | rfl | rfl <;> omega
def Told (z : ByteArray) (w : World) (e : Ending) (w' : World) : Prop := (Digs z ∧ e = .returned (.int .i64 (nv z z.size)) ∨ ¬ Digs z ∧ e = .returned (.int .i64 (-1))) ∧ w = w'
theorem number_told (z : ByteArray) (w : World) (hz : z.size ≤ 4) :
    Calls Tryd.prog 24 #[.string z] w (Told z w) := by
  go_enter Tryd.func24, Tryd.ntmps24
  go_wp2
  go_loop [3, 4] (fun a k => ∃ i : Nat, i ≤ z.size ∧ a = .int .i64 (nv z i) ∧ k = .int .i64 i ∧ ∀ j, j < i → 48 ≤ bt z j ∧ bt z j ≤ 57) (fun _ k => z.size - (intOf k).toNat)
  case atStart => exact ⟨0, by omega, rfl, rfl, fun j hj => by omega⟩
  case round =>
    obtain ⟨i, hi, rfl, rfl, hd⟩ := hrel
    have bd := nv_bd' z i hd (by omega)
    have HD := Lib.hid hd
    clear hd
    by_cases hc : i < z.size
    · have hb : ∀ h, (z[i]'h).toNat = bt z i := fun h => bt_at z i h
      have b2 := bt_lt z i
      have HV : Hid (nv z (i + 1) = 10 * nv z i + ((bt z i : Int) - 48)) := rfl
      have HB : Hid (bt z i = bt z i) := rfl
      by_cases h1 : bt z i < 48
      · have ND : Hid (¬ Digs z) := fun k => by have := k i hc; omega
        generalize bt z i = B at *
        go_wp2
        all_goals first
          | (exfalso; omega)
          | (go_ret; exact ⟨Or.inr ⟨ND.out, rfl⟩, rfl⟩)
      by_cases h2 : 57 < bt z i
      · have ND : Hid (¬ Digs z) := fun k => by have := k i hc; omega
        generalize bt z i = B at *
        go_wp2
        all_goals first
          | (exfalso; omega)
          | (go_ret; exact ⟨Or.inr ⟨ND.out, rfl⟩, rfl⟩)
      have HD2 : Hid (∀ j, j < i + 1 → 48 ≤ bt z j ∧ bt z j ≤ 57) := fun j hj => by
        rcases Nat.lt_or_ge j i with k | k
        · exact HD.out j k
        · obtain rfl : j = i := by omega
          omega
      have h3 : 48 ≤ bt z i := by omega
      have h4 : bt z i ≤ 57 := by omega
      clear h1 h2
      generalize bt z i = B at *
      go_wp2
      all_goals first
        | (exfalso; omega)
        | skip
      go_round
      case rel => exact ⟨i + 1, by omega, by rw [HV.out], by go_num, HD2.out⟩
      case measure => simp [intOf]; omega
    · obtain rfl : i = z.size := by omega
      have DD : Hid (Digs z) := HD.out
      clear hc HD
      go_wp2
      go_ret
      exact ⟨Or.inl ⟨DD.out, rfl⟩, rfl⟩
end Go.Proofs.YtmohcjnpcnbjkaaDoor.ref04
