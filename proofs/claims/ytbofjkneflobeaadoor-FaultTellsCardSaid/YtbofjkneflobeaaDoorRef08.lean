/-
  What the document's own decimals and Text of layer 8 answer. No condition on the memory; numbers of 64 bits.
-/
import Derived.Test.YtbofjkneflobeaaDoorFaultMath
import Derived.Test.YtbofjkneflobeaaDoorMem
import Derived.Laws.IdiomStrings
import Derived.WalkSmall
namespace Go.Proofs.YtbofjkneflobeaaDoor.ref08
open Go.ChangeShapes Go.WideShapes Go.ChangeAt Go.RowKit
open fx mem
set_option linter.unusedVariables false

theorem one_byte (b : Int) (h0 : 0 ≤ b) (h1 : b < 256) (W : World) : (convert 46 9 (.slice (some ⟨W.heap.size, 0, none⟩) 1 1)).run Tryd.prog (W.alloc (.cells #[.int .u8 b] 5)) = .ok (.string ⟨#[UInt8.ofNat b.toNat]⟩) (W.alloc (.cells #[.int .u8 b] 5)) := by
  refine run_convert_bytes_back (P := Tryd.prog) _ 46 9 5 ⟨W.heap.size, 0, none⟩ 1 [UInt8.ofNat b.toNat] Tryd.underlying46 Tryd.underlying5 Tryd.underlying9 ?_
  intro j hj
  obtain rfl : j = 0 := by simpa using hj
  have h : (W.alloc (.cells #[.int .u8 b] 5)).cell? ⟨W.heap.size, 0, none⟩ = some (.int .u8 b) := row_cell (hp_new _ _) 0
  have e : ((UInt8.ofNat b.toNat).toNat : Int) = b := by rw [UInt8.toNat_ofNat']; omega
  show _ = some (Value.int .u8 ((UInt8.ofNat b.toNat).toNat : Int))
  rw [e]
  exact h
theorem dec_lo (n : Int) (h0 : 0 ≤ n) (h : n < 10) : dec n = ⟨#[UInt8.ofNat (48 + n % 10).toNat]⟩ := by
  obtain ⟨m, rfl⟩ : ∃ m : Nat, n = m := ⟨n.toNat, by omega⟩
  rw [dec_small m (by omega), show (48 + (m : Int) % 10).toNat = 48 + m by omega]
theorem dec_hi (n : Int) (h0 : 10 ≤ n) : dec (n / 10) ++ ⟨#[UInt8.ofNat (48 + n % 10).toNat]⟩ = dec n := by
  obtain ⟨m, rfl⟩ : ∃ m : Nat, n = m := ⟨n.toNat, by omega⟩
  rw [dec_big m (by omega), show (48 + (m : Int) % 10).toNat = 48 + m % 10 by omega]
  rfl
theorem dec_m1 (n : Int) (h0 : n < 0) (h : -10 < n) : ⟨#[45]⟩ ++ dec (-n) = dec n := by
  obtain ⟨m, rfl⟩ : ∃ m : Nat, n = -(m : Int) := ⟨(-n).toNat, by omega⟩
  rw [dec_neg1 m (by omega) (by omega), show - -(m : Int) = m by omega]
theorem tdiv_neg (n : Int) (h : n ≤ 0) : n.tdiv 10 = -((-n) / 10) := by
  rw [← Int.tdiv_eq_ediv_of_nonneg (show 0 ≤ -n by omega), Int.neg_tdiv, Int.neg_neg]
theorem tmod_neg (n : Int) (h : n ≤ 0) : n.tmod 10 = -((-n) % 10) := by
  rw [← Int.tmod_eq_emod_of_nonneg (show 0 ≤ -n by omega), Int.neg_tmod, Int.neg_neg]
theorem dec_mm (n : Int) (h : n ≤ -10) : dec (n.tdiv 10) ++ dec (-(n.tmod 10)) = dec n := by
  obtain ⟨m, rfl⟩ : ∃ m : Nat, n = -(m : Int) := ⟨(-n).toNat, by omega⟩
  rw [dec_neg m (by omega), tdiv_neg _ (by omega), tmod_neg _ (by omega), show - -(m : Int) / 10 = ((m / 10 : Nat) : Int) by omega, show -(-(- -(m : Int) % 10)) = ((m % 10 : Nat) : Int) by omega]
theorem dec_on (n : Int) (h0 : 0 ≤ n) (h1 : n ≤ 9223372036854775807) (w W : World) (hb : Below w.heap.size w W) : Calls Tryd.prog 15 #[.int .i64 n] W fun e w' => e = .returned (.string (dec n)) ∧ Below w.heap.size w w' := by
  have hk : ∃ k : Nat, n.toNat = k := ⟨_, rfl⟩
  obtain ⟨k, hk⟩ := hk
  induction k using Nat.strongRecOn generalizing n W with
  | _ k ih =>
    have cv := one_byte (48 + n % 10) (by omega) (by omega)
    by_cases h : n < 10
    · rw [dec_lo n h0 h]
      clear ih hk
      generalize UInt8.ofNat (48 + n % 10).toNat = B at *
      go_enter Tryd.func15, Tryd.ntmps15
      go_wp2
      go_ret
      exact ⟨rfl, bal hb _⟩
    · have R := Lib.hid (fun W hb => ih (n / 10).toNat (by omega) (n / 10) (by omega) (by omega) W hb rfl)
      have s := dec_size (n / 10) (by omega) (by omega)
      have E := Lib.hid (dec_hi n (by omega))
      clear ih hk
      have h10 : 10 ≤ n := by omega
      clear h
      generalize dec (n / 10) = D at *
      generalize UInt8.ofNat (48 + n % 10).toNat = B at *
      have z1 : (9223372036854775807 < D.size + 1) = False := by simp; omega
      go_enter Tryd.func15, Tryd.ntmps15
      go_wp2_with (go_at_call 15; with_reducible refine (R.out _ (bal hb _)).mono ?_; rintro e w1 ⟨rfl, hb1⟩)
      go_ret
      exact ⟨ret_s E.out, hb1⟩
theorem dec_off (n : Int) (h0 : -9223372036854775808 ≤ n) (h1 : n < 0) (w W : World) (hb : Below w.heap.size w W) : Calls Tryd.prog 15 #[.int .i64 n] W fun e w' => e = .returned (.string (dec n)) ∧ Below w.heap.size w w' := by
  have hk : ∃ k : Nat, (-n).toNat = k := ⟨_, rfl⟩
  obtain ⟨k, hk⟩ := hk
  induction k using Nat.strongRecOn generalizing n W with
  | _ k ih =>
    by_cases h : -10 < n
    · have R := Lib.hid (fun W hb => dec_on (-n) (by omega) (by omega) w W hb)
      have s := dec_size (-n) (by omega) (by omega)
      have E := Lib.hid (dec_m1 n h1 h)
      clear ih hk
      generalize dec (-n) = D at *
      have z1 : (9223372036854775807 < 1 + D.size) = False := by simp; omega
      go_enter Tryd.func15, Tryd.ntmps15
      go_wp2_with (go_at_call 15; with_reducible refine (R.out _ hb).mono ?_; rintro e w1 ⟨rfl, hb1⟩)
      go_ret
      exact ⟨ret_s E.out, hb1⟩
    · have td := tdiv_neg n (by omega)
      have tm := tmod_neg n (by omega)
      have R1 := Lib.hid (fun W hb => ih (-(n.tdiv 10)).toNat (by omega) (n.tdiv 10) (by omega) (by omega) W hb rfl)
      have R2 := Lib.hid (fun W hb => dec_on (-(n.tmod 10)) (by omega) (by omega) w W hb)
      have s1 := dec_size (n.tdiv 10) (by omega) (by omega)
      have s2 := dec_size (-(n.tmod 10)) (by omega) (by omega)
      have E := Lib.hid (dec_mm n (by omega))
      have h10 : n ≤ -10 := by omega
      have q1 : -10 < n.tmod 10 := by omega
      have q2 : n.tmod 10 ≤ 0 := by omega
      clear ih hk h td tm
      generalize dec (n.tdiv 10) = D1 at *
      generalize dec (-(n.tmod 10)) = D2 at *
      have z1 : (9223372036854775807 < D1.size + D2.size) = False := by simp; omega
      go_enter Tryd.func15, Tryd.ntmps15
      go_wp2_with (go_at_call 15; first | (with_reducible refine (R1.out _ hb).mono ?_; rintro e w1 ⟨rfl, hb1⟩) | (with_reducible refine (R2.out _ hb1).mono ?_; rintro e w2 ⟨rfl, hb2⟩))
      go_ret
      exact ⟨ret_s E.out, hb2⟩
theorem dec_at (n : Int) (h0 : -9223372036854775808 ≤ n) (h1 : n ≤ 9223372036854775807) (w W : World) (hb : Below w.heap.size w W) : Calls Tryd.prog 15 #[.int .i64 n] W fun e w' => e = .returned (.string (dec n)) ∧ Below w.heap.size w w' := by
  by_cases h : 0 ≤ n
  · exact dec_on n h h1 w W hb
  · exact dec_off n h0 (by omega) w W hb
end Go.Proofs.YtbofjkneflobeaaDoor.ref08
