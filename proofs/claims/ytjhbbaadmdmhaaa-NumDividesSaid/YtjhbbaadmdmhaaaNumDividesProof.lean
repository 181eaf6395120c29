/-
  Proves that NumDivides is true for every two numbers of 64 bits: a number is its quotient's fold and its remainder, which is less than what it is divided by. No condition.
-/
import Derived.Test.YtjhbbaadmdmhaaaSum
import Derived.Test.YtjhbbaadmdmhaaaLaw
namespace Go.Proofs.Ytjhbbaadmdmhaaa.numDivides
open Go.ChangeShapes Go.WideShapes Go.ChangeAt Go.RowKit
open num (fit)
set_option linter.unusedVariables false

theorem quo_fits (a b : Int) (ha : fit a) (h : 1 ≤ b) : fit (a / b) := by
  unfold fit at *
  have h1 : -9223372036854775808 * b ≤ a := by omega
  have h2 : a < 9223372036854775808 * b := by omega
  exact ⟨Int.le_ediv_of_mul_le (by omega) h1, by have := Int.ediv_lt_of_lt_mul (by omega) h2; omega⟩
theorem walk (a : Int) (ha : fit a) (b : Int) (hb : fit b) (w : World) :
    Calls Try.prog 5 #[.int .i64 a, .int .i64 b] w fun e w' => e = .returned (.bool true) ∧ Below w.heap.size w w' := by
  by_cases h : b < 1
  · have C1 := Lib.hid (fun W => num.div_no a b W h)
    clear ha hb
    go_enter Try.func5, Try.ntmps5
    go_wp2_with (first
      | (go_at_call 10; (with_reducible refine (num.small_true _).mono ?_; rintro e w1 ⟨rfl, hb1⟩))
      | (go_at_call 17; (with_reducible refine (C1.out _).mono ?_; rintro e w' ⟨rfl, n2, rfl⟩)))
    go_ret
    exact ⟨rfl, below_drewN hb1 _⟩
  · have C1 := Lib.hid (fun W => num.div_yes a b W ha hb (by omega))
    have r1 := Int.emod_nonneg a (b := b) (by omega)
    have r2 := Int.emod_lt_of_pos a (b := b) (by omega)
    have hd := Int.mul_ediv_add_emod a b
    rw [Int.mul_comm] at hd
    have hqf := quo_fits a b ha (by omega)
    have hrf : fit (a % b) := by unfold fit at *; omega
    by_cases h2 : fit (a / b * b)
    · have C2 := Lib.hid (fun W => num.mul_yes (a / b) b W hqf hb h2)
      have C3 := Lib.hid (fun W => num.add_eq (a / b * b) (a % b) a W h2 hrf ha hd)
      have t1 : 1 ≤ b := by omega
      clear ha hb hqf hrf h2 hd h
      generalize a / b = Q at *
      generalize a % b = R at *
      generalize Q * b = M at *
      go_enter Try.func5, Try.ntmps5
      go_wp2_with (first
        | (go_at_call 10; (with_reducible refine (num.small_true _).mono ?_; rintro e w1 ⟨rfl, hb1⟩))
        | (go_at_call 17; (with_reducible refine (C1.out _).mono ?_; rintro e w' ⟨rfl, n2, rfl⟩))
        | (go_at_call 15; (with_reducible refine (C2.out _).mono ?_; rintro e w' ⟨rfl, rfl⟩))
        | (go_at_call 11; (with_reducible refine (C3.out _).mono ?_; rintro e w' ⟨rfl, rfl⟩)))
      go_ret
      exact ⟨rfl, below_drewN hb1 _⟩
    · have C2 := Lib.hid (fun W => num.mul_no (a / b) b W hqf hb h2)
      have t1 : 1 ≤ b := by omega
      have t2 : a / b < 0 ∧ 0 < a % b ∧ a < 0 := by
        unfold fit at ha hb h2
        have hneg : a / b * b < -9223372036854775808 := by omega
        have hq : a / b < 0 := by
          rcases Int.lt_or_le (a / b) 0 with hq | hq
          · exact hq
          · have := Int.mul_nonneg hq (show 0 ≤ b by omega); omega
        refine ⟨hq, by omega, ?_⟩
        have h3 : (a / b + 1) * b ≤ 0 := Int.mul_nonpos_of_nonpos_of_nonneg (by omega) (by omega)
        rw [Int.add_mul] at h3
        omega
      obtain ⟨t3, t4, t5⟩ := t2
      clear ha hb hqf hrf h2 hd h
      generalize a / b = Q at *
      generalize a % b = R at *
      go_enter Try.func5, Try.ntmps5
      go_wp2_with (first
        | (go_at_call 10; (with_reducible refine (num.small_true _).mono ?_; rintro e w1 ⟨rfl, hb1⟩))
        | (go_at_call 17; (with_reducible refine (C1.out _).mono ?_; rintro e w' ⟨rfl, n2, rfl⟩))
        | (go_at_call 15; (with_reducible refine (C2.out _).mono ?_; rintro e w' ⟨rfl, rfl⟩)))
      go_ret
      exact ⟨rfl, below_drewN hb1 _⟩

set_option maxRecDepth 100000 in
theorem lifted (os : Os) (started : os.Started) (H : Type) (enc : TypeId × Value → H) :
    ReturnsInHanded {} Try.checked os 5 .any (Rows.numDividesSpec.pre6 enc Try.prog Try.f5 Rows.numDividesRow.domain false) (Rows.numDividesSpec.post enc Try.prog Try.f5 false true false false) := by
  refine returnsInHanded_of_change (C := Try.checked) law.own started (by kernel_rfl) Try.func5
    (ChangeSpec.witness6 (enc := enc) (C := Try.checked) false ⟨#[], #[.int .i64 0, .int .i64 0], []⟩ 8 (by kernel_rfl) (by kernel_rfl) (by kernel_rfl) (by kernel_rfl)) ?_
  intro W base args ds gs before hval0 hW hcnd _
  have hval : ∀ (j : Nat) t v, Try.f5.params[j]? = some t → args[j]? = some v → Value.okWide Try.prog W .any base t v := hval0
  have hW' := hW
  obtain ⟨p, q, hA0, hV, rfl, hfz, hnd⟩ := hW
  have hA : DataW.TrodAll enc Try.prog W 0 (fun _ => true) true Try.f5.params.toList args.toList ds p := hA0
  rw [Try.params5] at hA hval
  obtain ⟨v0, vs0, d0, ds0, p0, q0, hargs, rfl, rfl, h0, r0⟩ := trodAll_cons hA
  obtain ⟨v1, vs1, d1, ds1, p1, q1, rfl, rfl, rfl, h1, r1⟩ := trodAll_cons r0
  obtain ⟨rfl, rfl, rfl⟩ := trodAll_nil r1
  obtain rfl : args = #[v0, v1] := by cases args; simp_all
  obtain ⟨rfl, rfl⟩ := trodVars_none hV
  clear hA0 hval0
  obtain ⟨a0, rfl, hd0, hp0, w0⟩ := open_int Try.underlying3 (hval 0 3 v0 rfl rfl) h0
  obtain ⟨a1, rfl, hd1, hp1, w1⟩ := open_int Try.underlying3 (hval 1 3 v1 rfl rfl) h1
  refine (Calls.mono (R := fun e w' => e = .returned (.bool true) ∧ Below W.heap.size W w') ?_ fun e W' ⟨he, hb⟩ => ?_)
  · exact walk a0 (bounds_i64 w0) a1 (bounds_i64 w1) W
  · subst he
    exact ⟨_, rfl, law.post law.laidOut (by kernel_rfl) rfl rfl Try.underlying4 rfl hW' hb⟩

theorem over : Rows.numDividesRow.holds Try.pinned (OpenSpec.ofChange Rows.numDividesSpec) :=
  OpenClaim.holds_of_wide 5 Try.f5 rfl rfl rfl rfl rfl rfl rfl ⟨rfl, rfl, rfl, rfl, rfl⟩ rfl rfl rfl rfl rfl (by kernel_rfl) Try.func5 (by kernel_rfl)
    (of_decide_eq_true (by kernel_rfl)) (by unfold Func.isWrapper; first | (rw [if_pos (by decide +kernel)]; kernel_rfl) | (rw [if_neg (by decide +kernel)]; exact ⟨rfl, rfl⟩))
    (fun os started H enc _ => lifted os started H enc)

theorem proved : Rows.NumDividesSaid := over
end Go.Proofs.Ytjhbbaadmdmhaaa.numDivides
