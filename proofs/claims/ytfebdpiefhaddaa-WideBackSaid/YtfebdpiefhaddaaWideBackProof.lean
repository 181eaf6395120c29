/-
  Proves that WideBack is true for every three numbers of 64 bits: a product divided by one of its parts is the other one, and a quotient's fold and its rest are the product. No condition.
-/
import Derived.Test.YtfebdpiefhaddaaWide
import Derived.Test.YtfebdpiefhaddaaLaw
namespace Go.Proofs.Ytfebdpiefhaddaa.wideBack
open Go.ChangeShapes Go.WideShapes Go.ChangeAt Go.RowKit
open wide (fit)
set_option linter.unusedVariables false

set_option maxHeartbeats 8000000 in
theorem walk (a : Int) (ha : fit a) (b : Int) (hb : fit b) (c : Int) (hc : fit c) (w : World) :
    Calls Try.prog 4 #[.int .i64 a, .int .i64 b, .int .i64 c] w fun e w' => e = .returned (.bool true) ∧ Below w.heap.size w w' := by
  by_cases hn : a < 0 ∨ b < 0 ∨ c < 1
  · have C1 := Lib.hid (fun W => wide.md_no a b c W ha hb (by omega))
    clear ha hb hc
    by_cases h1 : a < 0
    · clear hn
      go_enter Try.func4, Try.ntmps4
      go_wp2_with (first
        | (go_at_call 9; (with_reducible refine (wide.small_true _).mono ?_; rintro e w' ⟨rfl, n1, rfl⟩))
        | (go_at_call 12; (with_reducible refine (C1.out _).mono ?_; rintro e w' ⟨rfl, n2, rfl⟩)))
      go_ret
      exact ⟨rfl, below_drewN (Below.refl _ _) _⟩
    by_cases h2 : b < 0
    · clear hn
      go_enter Try.func4, Try.ntmps4
      go_wp2_with (first
        | (go_at_call 9; (with_reducible refine (wide.small_true _).mono ?_; rintro e w' ⟨rfl, n1, rfl⟩))
        | (go_at_call 12; (with_reducible refine (C1.out _).mono ?_; rintro e w' ⟨rfl, n2, rfl⟩)))
      go_ret
      exact ⟨rfl, below_drewN (Below.refl _ _) _⟩
    have h3 : c < 1 := by omega
    clear hn
    go_enter Try.func4, Try.ntmps4
    go_wp2_with (first
      | (go_at_call 9; (with_reducible refine (wide.small_true _).mono ?_; rintro e w' ⟨rfl, n1, rfl⟩))
      | (go_at_call 12; (with_reducible refine (C1.out _).mono ?_; rintro e w' ⟨rfl, n2, rfl⟩)))
    go_ret
    exact ⟨rfl, below_drewN (Below.refl _ _) _⟩
  have a0 : 0 ≤ a := by omega
  have b0 : 0 ≤ b := by omega
  have c0 : 1 ≤ c := by omega
  clear hn
  have p0 := (wide.prod_bounds a b a0 ha.2 b0 hb.2).1
  have q0 : 0 ≤ a * b / c := Int.ediv_nonneg p0 (by omega)
  have r0 := Int.emod_nonneg (a * b) (b := c) (by omega)
  have r1 := Int.emod_lt_of_pos (a * b) (b := c) (by omega)
  have hd := Int.mul_ediv_add_emod (a * b) c
  rw [Int.mul_comm c] at hd
  have C1 := Lib.hid (fun W => wide.mul_yes a b W ha hb a0 b0)
  have tb : (0 < b ∧ Hid (∀ W, Calls Try.prog 12 #[.int .i64 a, .int .i64 b, .int .i64 b] W fun e w' => e = .returned (.tuple #[.int .i64 a, .int .i64 0, .bool true]) ∧ ∃ n, w' = W.drewN n)) ∨ b = 0 := by
    rcases Int.lt_or_le 0 b with h | h
    · exact Or.inl ⟨h, fun W => wide.md_is a b b a 0 W ha hb hb a0 b0 (by omega) ha.2 (Int.mul_ediv_cancel _ (by omega)) (Int.mul_emod_left _ _)⟩
    · exact Or.inr (by omega)
  by_cases hq : a * b / c ≤ 9223372036854775807
  · have C2 := Lib.hid (fun W => wide.md_yes a b c W ha hb hc a0 b0 c0 hq)
    have C3 := Lib.hid (fun W => wide.mul_yes (a * b / c) c W ⟨by omega, hq⟩ hc q0 (by omega))
    have m0 : 0 ≤ a * b / c * c := Int.mul_nonneg q0 (by omega)
    have c1 : c ≤ 9223372036854775807 := hc.2
    have hP : a * b / c * c = a * b - a * b % c := by omega
    rw [hP] at C3
    have m1 : a * b % c ≤ a * b := by omega
    clear hP m0 hd
    have r2 : a * b % c ≤ 9223372036854775806 := by omega
    generalize a * b / c = q at *
    generalize a * b % c = r at *
    by_cases hk : 9223372036854775807 - r < (a * b - r) % 9223372036854775808
    · have e1 : a * b / 9223372036854775808 = (a * b - r) / 9223372036854775808 + 1 := by omega
      have e2 : a * b % 9223372036854775808 = (a * b - r) % 9223372036854775808 - 9223372036854775807 - 1 + r := by omega
      have g0 : 0 ≤ (a * b - r) / 9223372036854775808 := by omega
      have g1 : (a * b - r) / 9223372036854775808 ≤ 9223372036854775806 := by
        have := (wide.prod_bounds a b a0 ha.2 b0 hb.2).2
        omega
      have k0 : 0 ≤ (a * b - r) % 9223372036854775808 := by omega
      have k1 : (a * b - r) % 9223372036854775808 ≤ 9223372036854775807 := by omega
      rw [e1, e2] at C1
      clear e1 e2 p0 m1 ha hb hc
      generalize (a * b - r) / 9223372036854775808 = g at *
      generalize (a * b - r) % 9223372036854775808 = k at *
      rcases tb with ⟨hb1, C4⟩ | rfl
      · go_enter Try.func4, Try.ntmps4
        go_wp2_with (first
          | (go_at_call 9; (with_reducible refine (wide.small_true _).mono ?_; rintro e w' ⟨rfl, n1, rfl⟩))
          | (go_at_call 10; (first | (with_reducible refine (C1.out _).mono ?_; rintro e w' ⟨rfl, rfl⟩) | (with_reducible refine (C3.out _).mono ?_; rintro e w' ⟨rfl, rfl⟩)))
          | (go_at_call 12; (first | (with_reducible refine (C2.out _).mono ?_; rintro e w' ⟨rfl, n4, rfl⟩) | (with_reducible refine (C4.out _).mono ?_; rintro e w' ⟨rfl, n5, rfl⟩))))
        go_ret
        exact ⟨wide.ret_bool (by first | rfl | (simp; omega)), below_drewN (Below.refl _ _) _⟩
      · go_enter Try.func4, Try.ntmps4
        go_wp2_with (first
          | (go_at_call 9; (with_reducible refine (wide.small_true _).mono ?_; rintro e w' ⟨rfl, n1, rfl⟩))
          | (go_at_call 10; (first | (with_reducible refine (C1.out _).mono ?_; rintro e w' ⟨rfl, rfl⟩) | (with_reducible refine (C3.out _).mono ?_; rintro e w' ⟨rfl, rfl⟩)))
          | (go_at_call 12; (with_reducible refine (C2.out _).mono ?_; rintro e w' ⟨rfl, n4, rfl⟩)))
        go_ret
        exact ⟨wide.ret_bool (by first | rfl | (simp; omega)), below_drewN (Below.refl _ _) _⟩
    · have e1 : a * b / 9223372036854775808 = (a * b - r) / 9223372036854775808 := by omega
      have e2 : a * b % 9223372036854775808 = (a * b - r) % 9223372036854775808 + r := by omega
      have k0 : 0 ≤ (a * b - r) % 9223372036854775808 := by omega
      have k1 : (a * b - r) % 9223372036854775808 ≤ 9223372036854775807 := by omega
      rw [e1, e2] at C1
      clear e1 e2 p0 m1 ha hb hc
      generalize (a * b - r) / 9223372036854775808 = g at *
      generalize (a * b - r) % 9223372036854775808 = k at *
      rcases tb with ⟨hb1, C4⟩ | rfl
      · go_enter Try.func4, Try.ntmps4
        go_wp2_with (first
          | (go_at_call 9; (with_reducible refine (wide.small_true _).mono ?_; rintro e w' ⟨rfl, n1, rfl⟩))
          | (go_at_call 10; (first | (with_reducible refine (C1.out _).mono ?_; rintro e w' ⟨rfl, rfl⟩) | (with_reducible refine (C3.out _).mono ?_; rintro e w' ⟨rfl, rfl⟩)))
          | (go_at_call 12; (first | (with_reducible refine (C2.out _).mono ?_; rintro e w' ⟨rfl, n4, rfl⟩) | (with_reducible refine (C4.out _).mono ?_; rintro e w' ⟨rfl, n5, rfl⟩))))
        go_ret
        exact ⟨wide.ret_bool (by first | rfl | (simp; omega)), below_drewN (Below.refl _ _) _⟩
      · go_enter Try.func4, Try.ntmps4
        go_wp2_with (first
          | (go_at_call 9; (with_reducible refine (wide.small_true _).mono ?_; rintro e w' ⟨rfl, n1, rfl⟩))
          | (go_at_call 10; (first | (with_reducible refine (C1.out _).mono ?_; rintro e w' ⟨rfl, rfl⟩) | (with_reducible refine (C3.out _).mono ?_; rintro e w' ⟨rfl, rfl⟩)))
          | (go_at_call 12; (with_reducible refine (C2.out _).mono ?_; rintro e w' ⟨rfl, n4, rfl⟩)))
        go_ret
        exact ⟨wide.ret_bool (by first | rfl | (simp; omega)), below_drewN (Below.refl _ _) _⟩
  · have C2 := Lib.hid (fun W => wide.md_no a b c W ha hb (by omega))
    have hm : 9223372036854775807 * c ≤ a * b := by
      have := Int.mul_le_mul_of_nonneg_right (show 9223372036854775807 ≤ a * b / c by omega) (show 0 ≤ c by omega)
      omega
    have C3 := Lib.hid (fun W => wide.less_is a b 9223372036854775807 c false W ha hb ⟨by omega, by omega⟩ hc a0 b0 (by omega) (by omega) (by simp; omega))
    clear hd hm hq q0 r0 r1 p0 ha hb hc
    rcases tb with ⟨hb1, C4⟩ | rfl
    · generalize a * b / 9223372036854775808 = g at *
      generalize a * b % 9223372036854775808 = k at *
      go_enter Try.func4, Try.ntmps4
      go_wp2_with (first
        | (go_at_call 9; (with_reducible refine (wide.small_true _).mono ?_; rintro e w' ⟨rfl, n1, rfl⟩))
        | (go_at_call 10; (with_reducible refine (C1.out _).mono ?_; rintro e w' ⟨rfl, rfl⟩))
        | (go_at_call 12; (first | (with_reducible refine (C2.out _).mono ?_; rintro e w' ⟨rfl, n3, rfl⟩) | (with_reducible refine (C4.out _).mono ?_; rintro e w' ⟨rfl, n4, rfl⟩)))
        | (go_at_call 16; (with_reducible refine (C3.out _).mono ?_; rintro e w' ⟨rfl, rfl⟩)))
      go_ret
      exact ⟨wide.ret_bool (by first | rfl | (simp; omega)), below_drewN (Below.refl _ _) _⟩
    · generalize a * 0 / 9223372036854775808 = g at *
      generalize a * 0 % 9223372036854775808 = k at *
      go_enter Try.func4, Try.ntmps4
      go_wp2_with (first
        | (go_at_call 9; (with_reducible refine (wide.small_true _).mono ?_; rintro e w' ⟨rfl, n1, rfl⟩))
        | (go_at_call 10; (with_reducible refine (C1.out _).mono ?_; rintro e w' ⟨rfl, rfl⟩))
        | (go_at_call 12; (with_reducible refine (C2.out _).mono ?_; rintro e w' ⟨rfl, n3, rfl⟩))
        | (go_at_call 16; (with_reducible refine (C3.out _).mono ?_; rintro e w' ⟨rfl, rfl⟩)))
      go_ret
      exact ⟨wide.ret_bool (by first | rfl | (simp; omega)), below_drewN (Below.refl _ _) _⟩

set_option maxRecDepth 100000 in
theorem lifted (os : Os) (started : os.Started) (H : Type) (enc : TypeId × Value → H) :
    ReturnsInHanded {} Try.checked os 4 .any (Rows.wideBackSpec.pre6 enc Try.prog Try.f4 Rows.wideBackRow.domain false) (Rows.wideBackSpec.post enc Try.prog Try.f4 false true false false) := by
  refine returnsInHanded_of_change (C := Try.checked) law.own started (by kernel_rfl) Try.func4
    (ChangeSpec.witness6 (enc := enc) (C := Try.checked) false ⟨#[], #[.int .i64 0, .int .i64 0, .int .i64 0], []⟩ 8 (by kernel_rfl) (by kernel_rfl) (by kernel_rfl) (by kernel_rfl)) ?_
  intro W base args ds gs before hval0 hW hcnd _
  have hval : ∀ (j : Nat) t v, Try.f4.params[j]? = some t → args[j]? = some v → Value.okWide Try.prog W .any base t v := hval0
  have hW' := hW
  obtain ⟨p, q, hA0, hV, rfl, hfz, hnd⟩ := hW
  have hA : DataW.TrodAll enc Try.prog W 0 (fun _ => true) true Try.f4.params.toList args.toList ds p := hA0
  rw [Try.params4] at hA hval
  obtain ⟨v0, vs0, d0, ds0, p0, q0, hargs, rfl, rfl, h0, r0⟩ := trodAll_cons hA
  obtain ⟨v1, vs1, d1, ds1, p1, q1, rfl, rfl, rfl, h1, r1⟩ := trodAll_cons r0
  obtain ⟨v2, vs2, d2, ds2, p2, q2, rfl, rfl, rfl, h2, r2⟩ := trodAll_cons r1
  obtain ⟨rfl, rfl, rfl⟩ := trodAll_nil r2
  obtain rfl : args = #[v0, v1, v2] := by cases args; simp_all
  obtain ⟨rfl, rfl⟩ := trodVars_none hV
  clear hA0 hval0
  obtain ⟨a0, rfl, hd0, hp0, w0⟩ := open_int Try.underlying3 (hval 0 3 v0 rfl rfl) h0
  obtain ⟨a1, rfl, hd1, hp1, w1⟩ := open_int Try.underlying3 (hval 1 3 v1 rfl rfl) h1
  obtain ⟨a2, rfl, hd2, hp2, w2⟩ := open_int Try.underlying3 (hval 2 3 v2 rfl rfl) h2
  refine (Calls.mono (R := fun e w' => e = .returned (.bool true) ∧ Below W.heap.size W w') ?_ fun e W' ⟨he, hb⟩ => ?_)
  · exact walk a0 (bounds_i64 w0) a1 (bounds_i64 w1) a2 (bounds_i64 w2) W
  · subst he
    exact ⟨_, rfl, law.post law.laidOut (by kernel_rfl) rfl rfl Try.underlying4 rfl hW' hb⟩

theorem over : Rows.wideBackRow.holds Try.pinned (OpenSpec.ofChange Rows.wideBackSpec) :=
  OpenClaim.holds_of_wide 4 Try.f4 rfl rfl rfl rfl rfl rfl rfl ⟨rfl, rfl, rfl, rfl, rfl⟩ rfl rfl rfl rfl rfl (by kernel_rfl) Try.func4 (by kernel_rfl)
    (of_decide_eq_true (by kernel_rfl)) (by unfold Func.isWrapper; first | (rw [if_pos (by decide +kernel)]; kernel_rfl) | (rw [if_neg (by decide +kernel)]; exact ⟨rfl, rfl⟩))
    (fun os started H enc _ => lifted os started H enc)

theorem proved : Rows.WideBackSaid := over
end Go.Proofs.Ytfebdpiefhaddaa.wideBack
