/-
  Proves that WideOrder is true for every two numbers of 64 bits: the order of what is multiplied does not matter, and products of small numbers are plain. No condition.
-/
import Derived.Test.YtfebdpiefhaddaaWide
import Derived.Test.YtfebdpiefhaddaaLaw
namespace Go.Proofs.Ytfebdpiefhaddaa.wideOrder
open Go.ChangeShapes Go.WideShapes Go.ChangeAt Go.RowKit
open wide (fit)
set_option linter.unusedVariables false

theorem walk (a : Int) (ha : fit a) (b : Int) (hb : fit b) (w : World) :
    Calls Try.prog 6 #[.int .i64 a, .int .i64 b] w fun e w' => e = .returned (.bool true) ∧ Below w.heap.size w w' := by
  by_cases h1 : a < 0
  · have C1 := Lib.hid (fun W => wide.mul_no a b W (Or.inl h1))
    have C2 := Lib.hid (fun W => wide.mul_no b a W (Or.inr h1))
    have t1 : decide (0 ≤ a) = false := by simp; omega
    clear ha hb
    go_enter Try.func6, Try.ntmps6
    go_wp2_with (first
      | (go_at_call 9; (with_reducible refine (wide.small_true _).mono ?_; rintro e w' ⟨rfl, n1, rfl⟩))
      | (go_at_call 10; (first | (with_reducible refine (C1.out _).mono ?_; rintro e w' ⟨rfl, rfl⟩) | (with_reducible refine (C2.out _).mono ?_; rintro e w' ⟨rfl, rfl⟩))))
    go_ret
    exact ⟨rfl, below_drewN (Below.refl _ _) _⟩
  have t1 : decide (0 ≤ a) = true := by simp; omega
  by_cases h2 : b < 0
  · have C1 := Lib.hid (fun W => wide.mul_no a b W (Or.inr h2))
    have C2 := Lib.hid (fun W => wide.mul_no b a W (Or.inl h2))
    have t2 : decide (0 ≤ b) = false := by simp; omega
    clear ha hb
    go_enter Try.func6, Try.ntmps6
    go_wp2_with (first
      | (go_at_call 9; (with_reducible refine (wide.small_true _).mono ?_; rintro e w' ⟨rfl, n1, rfl⟩))
      | (go_at_call 10; (first | (with_reducible refine (C1.out _).mono ?_; rintro e w' ⟨rfl, rfl⟩) | (with_reducible refine (C2.out _).mono ?_; rintro e w' ⟨rfl, rfl⟩))))
    go_ret
    exact ⟨rfl, below_drewN (Below.refl _ _) _⟩
  have t2 : decide (0 ≤ b) = true := by simp; omega
  have p0 : 0 ≤ a * b := Int.mul_nonneg (by omega) (by omega)
  by_cases h3 : a < 2147483648 ∧ b < 2147483648
  · obtain ⟨h4, h5⟩ := h3
    have p1 : a * b ≤ 4611686014132420609 := by
      have := Int.mul_le_mul (show a ≤ 2147483647 by omega) (show b ≤ 2147483647 by omega) (by omega) (by omega : (0 : Int) ≤ 2147483647)
      simpa using this
    have C1 := Lib.hid (fun W => wide.mul_is a b 0 (a * b) W ha hb (by omega) (by omega) (by omega) (by omega))
    have C2 := Lib.hid (fun W => wide.mul_is b a 0 (a * b) W hb ha (by omega) (by omega) (by rw [Int.mul_comm]; omega) (by rw [Int.mul_comm]; omega))
    clear ha hb
    go_enter Try.func6, Try.ntmps6
    go_wp2_with (first
      | (go_at_call 9; (with_reducible refine (wide.small_true _).mono ?_; rintro e w' ⟨rfl, n1, rfl⟩))
      | (go_at_call 10; (first | (with_reducible refine (C1.out _).mono ?_; rintro e w' ⟨rfl, rfl⟩) | (with_reducible refine (C2.out _).mono ?_; rintro e w' ⟨rfl, rfl⟩))))
    go_ret
    exact ⟨wide.ret_bool (by first | rfl | (simp; done)), below_drewN (Below.refl _ _) _⟩
  · have C1 := Lib.hid (fun W => wide.mul_is a b _ _ W ha hb (by omega) (by omega) rfl rfl)
    have C2 := Lib.hid (fun W => wide.mul_is b a (a * b / 9223372036854775808) (a * b % 9223372036854775808) W hb ha (by omega) (by omega) (by rw [Int.mul_comm]) (by rw [Int.mul_comm]))
    have g1 : 0 ≤ a * b / 9223372036854775808 := by omega
    have g2 : 0 ≤ a * b % 9223372036854775808 := by omega
    clear ha hb p0
    generalize a * b / 9223372036854775808 = x at *
    generalize a * b % 9223372036854775808 = y at *
    by_cases h4 : a < 2147483648
    · have t3 : decide (a < 2147483648) = true := by simp; omega
      have t4 : decide (b < 2147483648) = false := by simp; omega
      clear h3
      go_enter Try.func6, Try.ntmps6
      go_wp2_with (first
        | (go_at_call 9; (with_reducible refine (wide.small_true _).mono ?_; rintro e w' ⟨rfl, n1, rfl⟩))
        | (go_at_call 10; (first | (with_reducible refine (C1.out _).mono ?_; rintro e w' ⟨rfl, rfl⟩) | (with_reducible refine (C2.out _).mono ?_; rintro e w' ⟨rfl, rfl⟩))))
      go_ret
      exact ⟨wide.ret_bool (by first | rfl | (simp; omega)), below_drewN (Below.refl _ _) _⟩
    · have t3 : decide (a < 2147483648) = false := by simp; omega
      clear h3
      go_enter Try.func6, Try.ntmps6
      go_wp2_with (first
        | (go_at_call 9; (with_reducible refine (wide.small_true _).mono ?_; rintro e w' ⟨rfl, n1, rfl⟩))
        | (go_at_call 10; (first | (with_reducible refine (C1.out _).mono ?_; rintro e w' ⟨rfl, rfl⟩) | (with_reducible refine (C2.out _).mono ?_; rintro e w' ⟨rfl, rfl⟩))))
      go_ret
      exact ⟨wide.ret_bool (by first | rfl | (simp; omega)), below_drewN (Below.refl _ _) _⟩

set_option maxRecDepth 100000 in
theorem lifted (os : Os) (started : os.Started) (H : Type) (enc : TypeId × Value → H) :
    ReturnsInHanded {} Try.checked os 6 .any (Rows.wideOrderSpec.pre6 enc Try.prog Try.f6 Rows.wideOrderRow.domain false) (Rows.wideOrderSpec.post enc Try.prog Try.f6 false true false false) := by
  refine returnsInHanded_of_change (C := Try.checked) law.own started (by kernel_rfl) Try.func6
    (ChangeSpec.witness6 (enc := enc) (C := Try.checked) false ⟨#[], #[.int .i64 0, .int .i64 0], []⟩ 8 (by kernel_rfl) (by kernel_rfl) (by kernel_rfl) (by kernel_rfl)) ?_
  intro W base args ds gs before hval0 hW hcnd _
  have hval : ∀ (j : Nat) t v, Try.f6.params[j]? = some t → args[j]? = some v → Value.okWide Try.prog W .any base t v := hval0
  have hW' := hW
  obtain ⟨p, q, hA0, hV, rfl, hfz, hnd⟩ := hW
  have hA : DataW.TrodAll enc Try.prog W 0 (fun _ => true) true Try.f6.params.toList args.toList ds p := hA0
  rw [Try.params6] at hA hval
  obtain ⟨v0, vs0, d0, ds0, p0, q0, hargs, rfl, rfl, h0, r0⟩ := trodAll_cons hA
  obtain ⟨v1, vs1, d1, ds1, p1, q1, rfl, rfl, rfl, h1, r1⟩ := trodAll_cons r0
  obtain ⟨rfl, rfl, rfl⟩ := trodAll_nil r1
  obtain rfl : args = #[v0, v1] := by cases args; simp_all
  obtain ⟨rfl, rfl⟩ := trodVars_none hV
  clear hA0 hval0
  obtain ⟨a0, rfl, hd0, hp0, w0⟩ := open_int Try.underlying3 (hval 0 3 v0 rfl rfl) h0
  obtain ⟨a1, rfl, hd1, hp1, w1⟩ := open_int Try.underlying3 (hval 1 3 v1 rfl rfl) h1
  refine (Calls.mono (R := fun e w' => e = .returned (.bool true) ∧ Below W.heap.size W w') ?_ fun e W' ⟨he, hb⟩ => ?_)
  · exact walk a0 (bounds_i64 w0) a1 (bounds_i64 w1) W
  · subst he
    exact ⟨_, rfl, law.post law.laidOut (by kernel_rfl) rfl rfl Try.underlying4 rfl hW' hb⟩

theorem over : Rows.wideOrderRow.holds Try.pinned (OpenSpec.ofChange Rows.wideOrderSpec) :=
  OpenClaim.holds_of_wide 6 Try.f6 rfl rfl rfl rfl rfl rfl rfl ⟨rfl, rfl, rfl, rfl, rfl⟩ rfl rfl rfl rfl rfl (by kernel_rfl) Try.func6 (by kernel_rfl)
    (of_decide_eq_true (by kernel_rfl)) (by unfold Func.isWrapper; first | (rw [if_pos (by decide +kernel)]; kernel_rfl) | (rw [if_neg (by decide +kernel)]; exact ⟨rfl, rfl⟩))
    (fun os started H enc _ => lifted os started H enc)

theorem proved : Rows.WideOrderSaid := over
end Go.Proofs.Ytfebdpiefhaddaa.wideOrder
