/-
  Proves that WideLess is true for every four numbers of 64 bits: of two products one is less, or they are alike, and more of one is not less. No condition.
-/
import Derived.Test.YtfebdpiefhaddaaWide
import Derived.Test.YtfebdpiefhaddaaLaw
namespace Go.Proofs.Ytfebdpiefhaddaa.wideLess
open Go.ChangeShapes Go.WideShapes Go.ChangeAt Go.RowKit
open wide (fit)
set_option linter.unusedVariables false

set_option maxHeartbeats 4000000 in
theorem walk (a : Int) (ha : fit a) (b : Int) (hb : fit b) (c : Int) (hc : fit c) (d : Int) (hd : fit d) (w : World) :
    Calls Try.prog 7 #[.int .i64 a, .int .i64 b, .int .i64 c, .int .i64 d] w fun e w' => e = .returned (.bool true) ∧ Below w.heap.size w w' := by
  by_cases hn : a < 0 ∨ b < 0 ∨ c < 0 ∨ d < 0
  · have C1 := Lib.hid (fun W => wide.less_neg a b c d W ha hb hc hd hn)
    clear ha hb hc hd
    by_cases h1 : a < 0
    · clear hn
      go_enter Try.func7, Try.ntmps7
      go_wp2_with (first
        | (go_at_call 9; (with_reducible refine (wide.small_true _).mono ?_; rintro e w' ⟨rfl, n1, rfl⟩))
        | (go_at_call 16; (with_reducible refine (C1.out _).mono ?_; rintro e w' ⟨rfl, rfl⟩)))
      go_ret
      exact ⟨rfl, below_drewN (Below.refl _ _) _⟩
    by_cases h2 : b < 0
    · clear hn
      go_enter Try.func7, Try.ntmps7
      go_wp2_with (first
        | (go_at_call 9; (with_reducible refine (wide.small_true _).mono ?_; rintro e w' ⟨rfl, n1, rfl⟩))
        | (go_at_call 16; (with_reducible refine (C1.out _).mono ?_; rintro e w' ⟨rfl, rfl⟩)))
      go_ret
      exact ⟨rfl, below_drewN (Below.refl _ _) _⟩
    by_cases h3 : c < 0
    · clear hn
      go_enter Try.func7, Try.ntmps7
      go_wp2_with (first
        | (go_at_call 9; (with_reducible refine (wide.small_true _).mono ?_; rintro e w' ⟨rfl, n1, rfl⟩))
        | (go_at_call 16; (with_reducible refine (C1.out _).mono ?_; rintro e w' ⟨rfl, rfl⟩)))
      go_ret
      exact ⟨rfl, below_drewN (Below.refl _ _) _⟩
    have h4 : d < 0 := by omega
    clear hn
    go_enter Try.func7, Try.ntmps7
    go_wp2_with (first
      | (go_at_call 9; (with_reducible refine (wide.small_true _).mono ?_; rintro e w' ⟨rfl, n1, rfl⟩))
      | (go_at_call 16; (with_reducible refine (C1.out _).mono ?_; rintro e w' ⟨rfl, rfl⟩)))
    go_ret
    exact ⟨rfl, below_drewN (Below.refl _ _) _⟩
  have a0 : 0 ≤ a := by omega
  have b0 : 0 ≤ b := by omega
  have c0 : 0 ≤ c := by omega
  have d0 : 0 ≤ d := by omega
  clear hn
  have C1 := Lib.hid (fun W => wide.mul_yes a b W ha hb a0 b0)
  have C2 := Lib.hid (fun W => wide.mul_yes c d W hc hd c0 d0)
  have C5 := Lib.hid (fun W => wide.less_is a b a b false W ha hb ha hb a0 b0 a0 b0 (by simp))
  have p0 := (wide.prod_bounds a b a0 ha.2 b0 hb.2).1
  have q0 := (wide.prod_bounds c d c0 hc.2 d0 hd.2).1
  by_cases hl : a * b < c * d
  · have C3 := Lib.hid (fun W => wide.less_is a b c d true W ha hb hc hd a0 b0 c0 d0 (by simpa using hl))
    have C4 := Lib.hid (fun W => wide.less_is c d a b false W hc hd ha hb c0 d0 a0 b0 (by simp; omega))
    by_cases hm : d = 9223372036854775807
    · subst hm
      by_cases hx : a * b / 9223372036854775808 = c * 9223372036854775807 / 9223372036854775808
      · have t2 : (a * b % 9223372036854775808 != c * 9223372036854775807 % 9223372036854775808) = true := by simp; omega
        rw [hx] at C1
        clear ha hb hc hd hl hx p0 q0
        generalize a * b % 9223372036854775808 = x1 at *
        generalize c * 9223372036854775807 / 9223372036854775808 = y at *
        generalize c * 9223372036854775807 % 9223372036854775808 = y1 at *
        go_enter Try.func7, Try.ntmps7
        go_wp2_with (first
          | (go_at_call 9; (with_reducible refine (wide.small_true _).mono ?_; rintro e w' ⟨rfl, n1, rfl⟩))
          | (go_at_call 10; (first | (with_reducible refine (C1.out _).mono ?_; rintro e w' ⟨rfl, rfl⟩) | (with_reducible refine (C2.out _).mono ?_; rintro e w' ⟨rfl, rfl⟩)))
          | (go_at_call 16; (first | (with_reducible refine (C3.out _).mono ?_; rintro e w' ⟨rfl, rfl⟩) | (with_reducible refine (C4.out _).mono ?_; rintro e w' ⟨rfl, rfl⟩) | (with_reducible refine (C5.out _).mono ?_; rintro e w' ⟨rfl, rfl⟩))))
        go_ret
        exact ⟨wide.ret_bool (by first | rfl | (simp; omega)), below_drewN (Below.refl _ _) _⟩
      · have t2 : (a * b / 9223372036854775808 != c * 9223372036854775807 / 9223372036854775808) = true := by simp; omega
        clear ha hb hc hd hl hx p0 q0
        generalize a * b / 9223372036854775808 = x at *
        generalize a * b % 9223372036854775808 = x1 at *
        generalize c * 9223372036854775807 / 9223372036854775808 = y at *
        generalize c * 9223372036854775807 % 9223372036854775808 = y1 at *
        go_enter Try.func7, Try.ntmps7
        go_wp2_with (first
          | (go_at_call 9; (with_reducible refine (wide.small_true _).mono ?_; rintro e w' ⟨rfl, n1, rfl⟩))
          | (go_at_call 10; (first | (with_reducible refine (C1.out _).mono ?_; rintro e w' ⟨rfl, rfl⟩) | (with_reducible refine (C2.out _).mono ?_; rintro e w' ⟨rfl, rfl⟩)))
          | (go_at_call 16; (first | (with_reducible refine (C3.out _).mono ?_; rintro e w' ⟨rfl, rfl⟩) | (with_reducible refine (C4.out _).mono ?_; rintro e w' ⟨rfl, rfl⟩) | (with_reducible refine (C5.out _).mono ?_; rintro e w' ⟨rfl, rfl⟩))))
        go_ret
        exact ⟨wide.ret_bool (by first | rfl | (simp; omega)), below_drewN (Below.refl _ _) _⟩
    · have C6 := Lib.hid (fun W => wide.less_is a b c (d + 1) true W ha hb hc (by unfold fit at *; omega) a0 b0 c0 (by omega) (by rw [Int.mul_add]; simp; omega))
      have t3 : (d == 9223372036854775807) = false := by simpa using hm
      have t4 : d < 9223372036854775807 := by have := hd.2; omega
      by_cases hx : a * b / 9223372036854775808 = c * d / 9223372036854775808
      · have t2 : (a * b % 9223372036854775808 != c * d % 9223372036854775808) = true := by simp; omega
        rw [hx] at C1
        clear ha hb hc hd hl hx p0 q0 hm
        generalize a * b % 9223372036854775808 = x1 at *
        generalize c * d / 9223372036854775808 = y at *
        generalize c * d % 9223372036854775808 = y1 at *
        go_enter Try.func7, Try.ntmps7
        go_wp2_with (first
          | (go_at_call 9; (with_reducible refine (wide.small_true _).mono ?_; rintro e w' ⟨rfl, n1, rfl⟩))
          | (go_at_call 10; (first | (with_reducible refine (C1.out _).mono ?_; rintro e w' ⟨rfl, rfl⟩) | (with_reducible refine (C2.out _).mono ?_; rintro e w' ⟨rfl, rfl⟩)))
          | (go_at_call 16; (first | (with_reducible refine (C3.out _).mono ?_; rintro e w' ⟨rfl, rfl⟩) | (with_reducible refine (C4.out _).mono ?_; rintro e w' ⟨rfl, rfl⟩) | (with_reducible refine (C5.out _).mono ?_; rintro e w' ⟨rfl, rfl⟩) | (with_reducible refine (C6.out _).mono ?_; rintro e w' ⟨rfl, rfl⟩))))
        go_ret
        exact ⟨wide.ret_bool (by first | rfl | (simp; omega)), below_drewN (Below.refl _ _) _⟩
      · have t2 : (a * b / 9223372036854775808 != c * d / 9223372036854775808) = true := by simp; omega
        clear ha hb hc hd hl hx p0 q0 hm
        generalize a * b / 9223372036854775808 = x at *
        generalize a * b % 9223372036854775808 = x1 at *
        generalize c * d / 9223372036854775808 = y at *
        generalize c * d % 9223372036854775808 = y1 at *
        go_enter Try.func7, Try.ntmps7
        go_wp2_with (first
          | (go_at_call 9; (with_reducible refine (wide.small_true _).mono ?_; rintro e w' ⟨rfl, n1, rfl⟩))
          | (go_at_call 10; (first | (with_reducible refine (C1.out _).mono ?_; rintro e w' ⟨rfl, rfl⟩) | (with_reducible refine (C2.out _).mono ?_; rintro e w' ⟨rfl, rfl⟩)))
          | (go_at_call 16; (first | (with_reducible refine (C3.out _).mono ?_; rintro e w' ⟨rfl, rfl⟩) | (with_reducible refine (C4.out _).mono ?_; rintro e w' ⟨rfl, rfl⟩) | (with_reducible refine (C5.out _).mono ?_; rintro e w' ⟨rfl, rfl⟩) | (with_reducible refine (C6.out _).mono ?_; rintro e w' ⟨rfl, rfl⟩))))
        go_ret
        exact ⟨wide.ret_bool (by first | rfl | (simp; omega)), below_drewN (Below.refl _ _) _⟩
  · have C3 := Lib.hid (fun W => wide.less_is a b c d false W ha hb hc hd a0 b0 c0 d0 (by simpa using hl))
    by_cases hg : c * d < a * b
    · have C4 := Lib.hid (fun W => wide.less_is c d a b true W hc hd ha hb c0 d0 a0 b0 (by simpa using hg))
      by_cases hx : a * b / 9223372036854775808 = c * d / 9223372036854775808
      · have t2 : (a * b % 9223372036854775808 != c * d % 9223372036854775808) = true := by simp; omega
        rw [hx] at C1
        clear ha hb hc hd hl hx p0 q0 hg
        generalize a * b % 9223372036854775808 = x1 at *
        generalize c * d / 9223372036854775808 = y at *
        generalize c * d % 9223372036854775808 = y1 at *
        go_enter Try.func7, Try.ntmps7
        go_wp2_with (first
          | (go_at_call 9; (with_reducible refine (wide.small_true _).mono ?_; rintro e w' ⟨rfl, n1, rfl⟩))
          | (go_at_call 10; (first | (with_reducible refine (C1.out _).mono ?_; rintro e w' ⟨rfl, rfl⟩) | (with_reducible refine (C2.out _).mono ?_; rintro e w' ⟨rfl, rfl⟩)))
          | (go_at_call 16; (first | (with_reducible refine (C3.out _).mono ?_; rintro e w' ⟨rfl, rfl⟩) | (with_reducible refine (C4.out _).mono ?_; rintro e w' ⟨rfl, rfl⟩) | (with_reducible refine (C5.out _).mono ?_; rintro e w' ⟨rfl, rfl⟩))))
        go_ret
        exact ⟨wide.ret_bool (by first | rfl | (simp; omega)), below_drewN (Below.refl _ _) _⟩
      · have t2 : (a * b / 9223372036854775808 != c * d / 9223372036854775808) = true := by simp; omega
        clear ha hb hc hd hl hx p0 q0 hg
        generalize a * b / 9223372036854775808 = x at *
        generalize a * b % 9223372036854775808 = x1 at *
        generalize c * d / 9223372036854775808 = y at *
        generalize c * d % 9223372036854775808 = y1 at *
        go_enter Try.func7, Try.ntmps7
        go_wp2_with (first
          | (go_at_call 9; (with_reducible refine (wide.small_true _).mono ?_; rintro e w' ⟨rfl, n1, rfl⟩))
          | (go_at_call 10; (first | (with_reducible refine (C1.out _).mono ?_; rintro e w' ⟨rfl, rfl⟩) | (with_reducible refine (C2.out _).mono ?_; rintro e w' ⟨rfl, rfl⟩)))
          | (go_at_call 16; (first | (with_reducible refine (C3.out _).mono ?_; rintro e w' ⟨rfl, rfl⟩) | (with_reducible refine (C4.out _).mono ?_; rintro e w' ⟨rfl, rfl⟩) | (with_reducible refine (C5.out _).mono ?_; rintro e w' ⟨rfl, rfl⟩))))
        go_ret
        exact ⟨wide.ret_bool (by first | rfl | (simp; omega)), below_drewN (Below.refl _ _) _⟩
    · have C4 := Lib.hid (fun W => wide.less_is c d a b false W hc hd ha hb c0 d0 a0 b0 (by simpa using hg))
      have he : a * b = c * d := by omega
      rw [he] at C1
      clear ha hb hc hd hl p0 q0 hg he
      generalize c * d / 9223372036854775808 = y at *
      generalize c * d % 9223372036854775808 = y1 at *
      go_enter Try.func7, Try.ntmps7
      go_wp2_with (first
        | (go_at_call 9; (with_reducible refine (wide.small_true _).mono ?_; rintro e w' ⟨rfl, n1, rfl⟩))
        | (go_at_call 10; (first | (with_reducible refine (C1.out _).mono ?_; rintro e w' ⟨rfl, rfl⟩) | (with_reducible refine (C2.out _).mono ?_; rintro e w' ⟨rfl, rfl⟩)))
        | (go_at_call 16; (first | (with_reducible refine (C3.out _).mono ?_; rintro e w' ⟨rfl, rfl⟩) | (with_reducible refine (C4.out _).mono ?_; rintro e w' ⟨rfl, rfl⟩) | (with_reducible refine (C5.out _).mono ?_; rintro e w' ⟨rfl, rfl⟩))))
      go_ret
      exact ⟨wide.ret_bool (by first | rfl | (simp; omega)), below_drewN (Below.refl _ _) _⟩

set_option maxRecDepth 100000 in
theorem lifted (os : Os) (started : os.Started) (H : Type) (enc : TypeId × Value → H) :
    ReturnsInHanded {} Try.checked os 7 .any (Rows.wideLessSpec.pre6 enc Try.prog Try.f7 Rows.wideLessRow.domain false) (Rows.wideLessSpec.post enc Try.prog Try.f7 false true false false) := by
  refine returnsInHanded_of_change (C := Try.checked) law.own started (by kernel_rfl) Try.func7
    (ChangeSpec.witness6 (enc := enc) (C := Try.checked) false ⟨#[], #[.int .i64 0, .int .i64 0, .int .i64 0, .int .i64 0], []⟩ 8 (by kernel_rfl) (by kernel_rfl) (by kernel_rfl) (by kernel_rfl)) ?_
  intro W base args ds gs before hval0 hW hcnd _
  have hval : ∀ (j : Nat) t v, Try.f7.params[j]? = some t → args[j]? = some v → Value.okWide Try.prog W .any base t v := hval0
  have hW' := hW
  obtain ⟨p, q, hA0, hV, rfl, hfz, hnd⟩ := hW
  have hA : DataW.TrodAll enc Try.prog W 0 (fun _ => true) true Try.f7.params.toList args.toList ds p := hA0
  rw [Try.params7] at hA hval
  obtain ⟨v0, vs0, d0, ds0, p0, q0, hargs, rfl, rfl, h0, r0⟩ := trodAll_cons hA
  obtain ⟨v1, vs1, d1, ds1, p1, q1, rfl, rfl, rfl, h1, r1⟩ := trodAll_cons r0
  obtain ⟨v2, vs2, d2, ds2, p2, q2, rfl, rfl, rfl, h2, r2⟩ := trodAll_cons r1
  obtain ⟨v3, vs3, d3, ds3, p3, q3, rfl, rfl, rfl, h3, r3⟩ := trodAll_cons r2
  obtain ⟨rfl, rfl, rfl⟩ := trodAll_nil r3
  obtain rfl : args = #[v0, v1, v2, v3] := by cases args; simp_all
  obtain ⟨rfl, rfl⟩ := trodVars_none hV
  clear hA0 hval0
  obtain ⟨a0, rfl, hd0, hp0, w0⟩ := open_int Try.underlying3 (hval 0 3 v0 rfl rfl) h0
  obtain ⟨a1, rfl, hd1, hp1, w1⟩ := open_int Try.underlying3 (hval 1 3 v1 rfl rfl) h1
  obtain ⟨a2, rfl, hd2, hp2, w2⟩ := open_int Try.underlying3 (hval 2 3 v2 rfl rfl) h2
  obtain ⟨a3, rfl, hd3, hp3, w3⟩ := open_int Try.underlying3 (hval 3 3 v3 rfl rfl) h3
  refine (Calls.mono (R := fun e w' => e = .returned (.bool true) ∧ Below W.heap.size W w') ?_ fun e W' ⟨he, hb⟩ => ?_)
  · exact walk a0 (bounds_i64 w0) a1 (bounds_i64 w1) a2 (bounds_i64 w2) a3 (bounds_i64 w3) W
  · subst he
    exact ⟨_, rfl, law.post law.laidOut (by kernel_rfl) rfl rfl Try.underlying4 rfl hW' hb⟩

theorem over : Rows.wideLessRow.holds Try.pinned (OpenSpec.ofChange Rows.wideLessSpec) :=
  OpenClaim.holds_of_wide 7 Try.f7 rfl rfl rfl rfl rfl rfl rfl ⟨rfl, rfl, rfl, rfl, rfl⟩ rfl rfl rfl rfl rfl (by kernel_rfl) Try.func7 (by kernel_rfl)
    (of_decide_eq_true (by kernel_rfl)) (by unfold Func.isWrapper; first | (rw [if_pos (by decide +kernel)]; kernel_rfl) | (rw [if_neg (by decide +kernel)]; exact ⟨rfl, rfl⟩))
    (fun os started H enc _ => lifted os started H enc)

theorem proved : Rows.WideLessSaid := over
end Go.Proofs.Ytfebdpiefhaddaa.wideLess
