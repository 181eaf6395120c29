/-
  What num's Sum answers for every slice of numbers: the sums one by one from the first on, or nought and false where one is too much. And that the small case of layer 1 comes out true.
-/
import Derived.Test.YtjhbbaadmdmhaaaNum
import Derived.Below
import Derived.Lib.Hide
import Derived.WalkSmall
namespace Go.Proofs.Ytjhbbaadmdmhaaa.num
open Go.ChangeShapes Go.WideShapes Go.ChangeAt Go.RowKit
set_option linter.unusedVariables false

instance (n : Int) : Decidable (fit n) := by unfold fit; infer_instance

/-- the sums one by one. -/
def sums : Int → List Int → Int × Bool
  | t, [] => (t, true)
  | t, x :: r => if fit (t + x) then sums (t + x) r else (0, false)

/-- the slice with this address and length reads as these numbers. -/
structure IntsAt (w : World) (A : Option Addr) (n : Nat) (zs : List Int) : Prop where
  len : zs.length = n
  max : n ≤ 9223372036854775807
  cells : 0 < n → ∃ b off, A = some ⟨b, off, none⟩ ∧ ∀ j, j < n → w.cell? ⟨b, off + j, none⟩ = some (.int .i64 (zs.getD j 0))
  fits : ∀ z ∈ zs, fit z

theorem drop_step (zs : List Int) (k : Nat) (h : k < zs.length) : zs.drop k = zs.getD k 0 :: zs.drop (k + 1) := by
  rw [List.drop_eq_getElem_cons h]
  congr 1
  simp [List.getD, h]

theorem sum_any (A : Option Addr) (n c : Nat) (zs : List Int) (w : World) (h : IntsAt w A n zs) :
    Calls Try.prog 19 #[.slice A n c] w fun e w' => e = .returned (.tuple #[.int .i64 (sums 0 zs).1, .bool (sums 0 zs).2]) ∧ w = w' := by
  obtain ⟨hl, hm, hc, hf⟩ := h
  have HF := Lib.hid hf
  have HC := Lib.hid hc
  have HL := Lib.hid hl
  clear hf hc hl
  go_enter Try.func19, Try.ntmps19
  go_wp2
  go_loop [4, 11] (fun t i => ∃ (k : Nat) (T : Int), k ≤ n ∧ i = .int .i64 k ∧ t = .int .i64 T ∧ fit T ∧ Hid (sums 0 zs = sums T (zs.drop k))) (fun _ i => n - (intOf i).toNat)
  case atStart => exact ⟨0, 0, by omega, rfl, rfl, ⟨by omega, by omega⟩, rfl⟩
  case round =>
    obtain ⟨k, T, hk, rfl, rfl, hT, HS⟩ := hrel
    by_cases hlt : k < n
    · obtain ⟨b, off, rfl, hcell⟩ := HC.out (by omega)
      have hck := hcell k hlt
      have hz : fit (zs.getD k 0) := by
        have hkl : k < zs.length := by have := HL.out; omega
        have := HF.out (zs[k]) (List.getElem_mem hkl)
        simpa [List.getD, hkl] using this
      have hd := drop_step zs k (by have := HL.out; omega)
      have HD := Lib.hid hd
      clear hd hcell HC HF
      generalize zs.getD k 0 = z at *
      by_cases hfit : fit (T + z)
      · go_wp2_with (go_at_call 11; refine (add_yes _ _ _ hT hz hfit).mono ?_; rintro e w' ⟨rfl, rfl⟩)
        go_round
        case rel => exact ⟨k + 1, T + z, by omega, by go_num, rfl, hfit, by show sums 0 zs = _; rw [HS.out, HD.out, sums, if_pos hfit]⟩
        case measure => simp [intOf]; omega
      · have hv : sums 0 zs = (0, false) := by rw [HS.out, HD.out, sums, if_neg hfit]
        have HV := Lib.hid hv
        clear hv
        go_wp2_with (go_at_call 11; refine (add_no _ _ _ hT hz hfit).mono ?_; rintro e w' ⟨rfl, rfl⟩)
        go_ret2
        exact ⟨by rw [HV.out]; rfl, rfl⟩
    · have hv : sums 0 zs = (T, true) := by rw [HS.out, List.drop_eq_nil_of_le (by have := HL.out; omega), sums]
      have HV := Lib.hid hv
      clear hv
      go_wp2
      go_ret2
      exact ⟨by rw [HV.out]; rfl, rfl⟩

/-! the small case -/
theorem three_at (w : World) (k : Nat) : IntsAt ((w.drewN k).alloc (.cells #[.int .i64 1, .int .i64 2, .int .i64 (-4)] 3)) (some ⟨w.heap.size, 0, none⟩) 3 [1, 2, -4] := by
  refine ⟨rfl, by decide, fun _ => ⟨_, _, rfl, fun j hj => ?_⟩, by decide⟩
  have e : ((w.drewN k).alloc (.cells #[.int .i64 1, .int .i64 2, .int .i64 (-4)] 3)).heap[w.heap.size]? = some (.cells #[.int .i64 1, .int .i64 2, .int .i64 (-4)] 3) := by
    show (w.heap.push _)[w.heap.size]? = _
    simp
  match j, hj with
  | 0, _ => show (match ((w.drewN k).alloc _).heap[w.heap.size]? with | some (.cells c _ _) => c[0 + 0]? | _ => none) = _; rw [e]; rfl
  | 1, _ => show (match ((w.drewN k).alloc _).heap[w.heap.size]? with | some (.cells c _ _) => c[0 + 1]? | _ => none) = _; rw [e]; rfl
  | 2, _ => show (match ((w.drewN k).alloc _).heap[w.heap.size]? with | some (.cells c _ _) => c[0 + 2]? | _ => none) = _; rw [e]; rfl
theorem sum_three (w : World) (k : Nat) (c : Nat) :
    Calls Try.prog 19 #[.slice (some ⟨w.heap.size, 0, none⟩) 3 c] ((w.drewN k).alloc (.cells #[.int .i64 1, .int .i64 2, .int .i64 (-4)] 3)) fun e w' => e = .returned (.tuple #[.int .i64 (-1), .bool true]) ∧ (w.drewN k).alloc (.cells #[.int .i64 1, .int .i64 2, .int .i64 (-4)] 3) = w' := by
  have h := sum_any _ _ c _ _ (three_at w k)
  have e : sums 0 [1, 2, -4] = (-1, true) := by decide
  rw [e] at h
  exact h
theorem small_true (w : World) :
    Calls Try.prog 10 #[] w fun e w' => e = .returned (.bool true) ∧ Below w.heap.size w w' := by
  have d1 := fun W => div_yes (-1) 86400 W (by decide) (by decide) (by decide)
  have d2 := fun W => div_no 5 0 W (by decide)
  have a1 := fun W => add_yes 3 (-5) W (by decide) (by decide) (by decide)
  have a2 := fun W => add_no 9223372036854775807 1 W (by decide) (by decide) (by decide)
  have s1 := fun W => sub_yes (-9223372036854775808) (-1) W (by decide) (by decide) (by decide)
  have s2 := fun W => sub_no (-9223372036854775808) 1 W (by decide) (by decide) (by decide)
  have m1 := fun W => mul_yes (-6) 7 W (by decide) (by decide) (by decide)
  have m2 := fun W => mul_no 4294967296 2147483648 W (by decide) (by decide) (by decide)
  have A1 := Lib.hid a1; have A2 := Lib.hid a2; have S1 := Lib.hid s1; have S2 := Lib.hid s2; have M1 := Lib.hid m1; have M2 := Lib.hid m2; have D1 := Lib.hid d1; have D2 := Lib.hid d2
  clear a1 a2 s1 s2 m1 m2 d1 d2
  go_enter Try.func10, Try.ntmps10
  go_wp2_with (first
    | (go_at_call 11; first | (with_reducible refine (A1.out _).mono ?_; rintro e w' ⟨rfl, rfl⟩) | (with_reducible refine (A2.out _).mono ?_; rintro e w' ⟨rfl, rfl⟩))
    | (go_at_call 13; first | (with_reducible refine (S1.out _).mono ?_; rintro e w' ⟨rfl, rfl⟩) | (with_reducible refine (S2.out _).mono ?_; rintro e w' ⟨rfl, rfl⟩))
    | (go_at_call 15; first | (with_reducible refine (M1.out _).mono ?_; rintro e w' ⟨rfl, rfl⟩) | (with_reducible refine (M2.out _).mono ?_; rintro e w' ⟨rfl, rfl⟩))
    | (go_at_call 17; first | (with_reducible refine (D1.out _).mono ?_; rintro e w' ⟨rfl, n1, rfl⟩) | (with_reducible refine (D2.out _).mono ?_; rintro e w' ⟨rfl, n2, rfl⟩))
    | (go_at_call 19; refine (sum_three _ _ _).mono ?_; rintro e w' ⟨rfl, rfl⟩))
  go_ret
  exact ⟨rfl, (Below.refl _ _).trans ((below_drewN (Below.refl _ _) _).alloc (Nat.le_refl _) _)⟩
end Go.Proofs.Ytjhbbaadmdmhaaa.num
