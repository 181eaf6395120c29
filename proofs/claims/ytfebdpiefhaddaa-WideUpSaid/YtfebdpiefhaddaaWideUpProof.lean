/-
  Proves that WideUp is true for every three numbers of 64 bits: upwards is downwards, or one more, and a quotient upwards is the least whose fold is no less. No condition.
-/
import Derived.Test.YtfebdpiefhaddaaWide
import Derived.Test.YtfebdpiefhaddaaLaw
namespace Go.Proofs.Ytfebdpiefhaddaa.wideUp
open Go.ChangeShapes Go.WideShapes Go.ChangeAt Go.RowKit
open wide (fit)
set_option linter.unusedVariables false

set_option maxHeartbeats 4000000 in
theorem walk (a : Int) (ha : fit a) (b : Int) (hb : fit b) (c : Int) (hc : fit c) (w : World) :
    Calls Try.prog 5 #[.int .i64 a, .int .i64 b, .int .i64 c] w fun e w' => e = .returned (.bool true) ∧ Below w.heap.size w w' := by
  by_cases hn : a < 0 ∨ b < 0 ∨ c < 1 ∨ 9223372036854775807 < a * b / c
  · have C1 := Lib.hid (fun W => wide.md_no a b c W ha hb hn)
    have C2 := Lib.hid (fun W => wide.up_no a b c W ha hb hn)
    clear ha hb hc hn
    go_enter Try.func5, Try.ntmps5
    go_wp2_with (first
      | (go_at_call 9; (with_reducible refine (wide.small_true _).mono ?_; rintro e w' ⟨rfl, n1, rfl⟩))
      | (go_at_call 12; (with_reducible refine (C1.out _).mono ?_; rintro e w' ⟨rfl, n2, rfl⟩))
      | (go_at_call 14; (with_reducible refine (C2.out _).mono ?_; rintro e w' ⟨rfl, n3, rfl⟩)))
    go_ret
    exact ⟨rfl, below_drewN (Below.refl _ _) _⟩
  have a0 : 0 ≤ a := by omega
  have b0 : 0 ≤ b := by omega
  have c0 : 1 ≤ c := by omega
  have hq : a * b / c ≤ 9223372036854775807 := by omega
  have q0 : 0 ≤ a * b / c := Int.ediv_nonneg (Int.mul_nonneg a0 b0) (by omega)
  have r0 := Int.emod_nonneg (a * b) (b := c) (by omega)
  have r1 := Int.emod_lt_of_pos (a * b) (b := c) (by omega)
  have hd := Int.mul_ediv_add_emod (a * b) c
  rw [Int.mul_comm] at hd
  have hqf : fit (a * b / c) := ⟨by omega, by omega⟩
  clear hn
  have C1 := Lib.hid (fun W => wide.md_yes a b c W ha hb hc a0 b0 c0 hq)
  by_cases hr : a * b % c = 0
  · have C2 := Lib.hid (fun W => wide.up_even a b c _ W ha hb hc a0 b0 c0 hq rfl hr)
    have C3 := Lib.hid (fun W => wide.less_is (a * b / c) c a b false W hqf hc ha hb q0 (by omega) a0 b0 (by simp; omega))
    have C4 := Lib.hid (fun W => wide.less_is a b (a * b / c) c false W ha hb hqf hc a0 b0 q0 (by omega) (by simp; omega))
    rw [hr] at C1
    clear ha hb hc hd r0 r1 hr hqf
    generalize a * b / c = q at *
    go_enter Try.func5, Try.ntmps5
    go_wp2_with (first
      | (go_at_call 9; (with_reducible refine (wide.small_true _).mono ?_; rintro e w' ⟨rfl, n1, rfl⟩))
      | (go_at_call 12; (with_reducible refine (C1.out _).mono ?_; rintro e w' ⟨rfl, n2, rfl⟩))
      | (go_at_call 14; (with_reducible refine (C2.out _).mono ?_; rintro e w' ⟨rfl, n3, rfl⟩))
      | (go_at_call 16; (first | (with_reducible refine (C3.out _).mono ?_; rintro e w' ⟨rfl, rfl⟩) | (with_reducible refine (C4.out _).mono ?_; rintro e w' ⟨rfl, rfl⟩))))
    go_ret
    exact ⟨wide.ret_bool (by first | rfl | (simp; done)), below_drewN (Below.refl _ _) _⟩
  · by_cases hm : a * b / c = 9223372036854775807
    · have C2 := Lib.hid (fun W => wide.up_over a b c W ha hb hc a0 b0 c0 hm hr)
      rw [hm] at C1
      clear ha hb hc hd r0 r1 hqf hm q0 hq
      have t1 : (a * b % c == 0) = false := by simpa using hr
      clear hr
      generalize a * b % c = r at *
      go_enter Try.func5, Try.ntmps5
      go_wp2_with (first
        | (go_at_call 9; (with_reducible refine (wide.small_true _).mono ?_; rintro e w' ⟨rfl, n1, rfl⟩))
        | (go_at_call 12; (with_reducible refine (C1.out _).mono ?_; rintro e w' ⟨rfl, n2, rfl⟩))
        | (go_at_call 14; (with_reducible refine (C2.out _).mono ?_; rintro e w' ⟨rfl, n3, rfl⟩)))
      go_ret
      exact ⟨wide.ret_bool (by first | rfl | (simp; done)), below_drewN (Below.refl _ _) _⟩
    · have C2 := Lib.hid (fun W => wide.up_more a b c _ W ha hb hc a0 b0 c0 (by omega) rfl hr)
      have C3 := Lib.hid (fun W => wide.less_is (a * b / c) c a b true W hqf hc ha hb q0 (by omega) a0 b0 (by simp; omega))
      have C4 := Lib.hid (fun W => wide.less_is a b (a * b / c + 1) c true W ha hb ⟨by omega, by omega⟩ hc a0 b0 (by omega) (by omega) (by rw [Int.add_mul]; simp; omega))
      have t1 : (a * b % c == 0) = false := by simpa using hr
      have t2 : (a * b / c == 9223372036854775807) = false := by simpa using hm
      have t3 : a * b / c < 9223372036854775807 := by omega
      clear ha hb hc hd hqf hr hm r0 r1
      generalize a * b / c = q at *
      generalize a * b % c = r at *
      go_enter Try.func5, Try.ntmps5
      go_wp2_with (first
        | (go_at_call 9; (with_reducible refine (wide.small_true _).mono ?_; rintro e w' ⟨rfl, n1, rfl⟩))
        | (go_at_call 12; (with_reducible refine (C1.out _).mono ?_; rintro e w' ⟨rfl, n2, rfl⟩))
        | (go_at_call 14; (with_reducible refine (C2.out _).mono ?_; rintro e w' ⟨rfl, n3, rfl⟩))
        | (go_at_call 16; (first | (with_reducible refine (C3.out _).mono ?_; rintro e w' ⟨rfl, rfl⟩) | (with_reducible refine (C4.out _).mono ?_; rintro e w' ⟨rfl, rfl⟩))))
      go_ret
      exact ⟨wide.ret_bool (by first | rfl | (simp; done)), below_drewN (Below.refl _ _) _⟩

set_option maxRecDepth 100000 in
theorem lifted (os : Os) (started : os.Started) (H : Type) (enc : TypeId × Value → H) :
    ReturnsInHanded {} Try.checked os 5 .any (Rows.wideUpSpec.pre6 enc Try.prog Try.f5 Rows.wideUpRow.domain false) (Rows.wideUpSpec.post enc Try.prog Try.f5 false true false false) := by
  refine returnsInHanded_of_change (C := Try.checked) law.own started (by kernel_rfl) Try.func5
    (ChangeSpec.witness6 (enc := enc) (C := Try.checked) false ⟨#[], #[.int .i64 0, .int .i64 0, .int .i64 0], []⟩ 8 (by kernel_rfl) (by kernel_rfl) (by kernel_rfl) (by kernel_rfl)) ?_
  intro W base args ds gs before hval0 hW hcnd _
  have hval : ∀ (j : Nat) t v, Try.f5.params[j]? = some t → args[j]? = some v → Value.okWide Try.prog W .any base t v := hval0
  have hW' := hW
  obtain ⟨p, q, hA0, hV, rfl, hfz, hnd⟩ := hW
  have hA : DataW.TrodAll enc Try.prog W 0 (fun _ => true) true Try.f5.params.toList args.toList ds p := hA0
  rw [Try.params5] at hA hval
  obtain ⟨v0, vs0, d0, ds0, p0, q0, hargs, rfl, rfl, h0, r0⟩ := trodAll_cons hA
  obtain ⟨v1, vs1, d1, ds1, p1, q1, rfl, rfl, rfl, h1, r1⟩ := trodAll_cons r0
  obtain ⟨v2, vs2, d2, ds2, p2, q2, rfl, rfl, rfl, h2, r2⟩ := trodAll_cons r1
  obtain ⟨rfl, rfl, rfl⟩ := trodAll_nil r2
  obtain rfl : args = #[v0, v1, v2] := by cases args; simp_all
  obtain ⟨rfl, rfl⟩ := trodVars_none hV
  clear hA0 hval0
  obtain ⟨a0, rfl, hd0, hp0, w0⟩ := open_int Try.underlying3 (hval 0 3 v0 rfl rfl) h0
  obtain ⟨a1, rfl, hd1, hp1, w1⟩ := open_int Try.underlying3 (hval 1 3 v1 rfl rfl) h1
  obtain ⟨a2, rfl, hd2, hp2, w2⟩ := open_int Try.underlying3 (hval 2 3 v2 rfl rfl) h2
  refine (Calls.mono (R := fun e w' => e = .returned (.bool true) ∧ Below W.heap.size W w') ?_ fun e W' ⟨he, hb⟩ => ?_)
  · exact walk a0 (bounds_i64 w0) a1 (bounds_i64 w1) a2 (bounds_i64 w2) W
  · subst he
    exact ⟨_, rfl, law.post law.laidOut (by kernel_rfl) rfl rfl Try.underlying4 rfl hW' hb⟩

theorem over : Rows.wideUpRow.holds Try.pinned (OpenSpec.ofChange Rows.wideUpSpec) :=
  OpenClaim.holds_of_wide 5 Try.f5 rfl rfl rfl rfl rfl rfl rfl ⟨rfl, rfl, rfl, rfl, rfl⟩ rfl rfl rfl rfl rfl (by kernel_rfl) Try.func5 (by kernel_rfl)
    (of_decide_eq_true (by kernel_rfl)) (by unfold Func.isWrapper; first | (rw [if_pos (by decide +kernel)]; kernel_rfl) | (rw [if_neg (by decide +kernel)]; exact ⟨rfl, rfl⟩))
    (fun os started H enc _ => lifted os started H enc)

theorem proved : Rows.WideUpSaid := over
end Go.Proofs.Ytfebdpiefhaddaa.wideUp
