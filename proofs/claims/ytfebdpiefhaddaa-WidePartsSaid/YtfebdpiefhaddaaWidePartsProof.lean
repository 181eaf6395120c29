/-
  Proves that WideParts is true for every four numbers of 64 bits: a factor on both sides changes no quotient, and makes the rest so many times as great. No condition.
-/
import Derived.Test.YtfebdpiefhaddaaWide
import Derived.Test.YtfebdpiefhaddaaLaw
namespace Go.Proofs.Ytfebdpiefhaddaa.wideParts
open Go.ChangeShapes Go.WideShapes Go.ChangeAt Go.RowKit
open wide (fit)
set_option linter.unusedVariables false

theorem scaled (a b c k : Int) (hc : 1 ≤ c) (hk : 1 ≤ k) : a * k * b / (c * k) = a * b / c ∧ a * k * b % (c * k) = a * b % c * k := by
  have e : a * k * b = k * (a * b) := by rw [Int.mul_right_comm, Int.mul_comm]
  rw [e, Int.mul_comm c k]
  exact ⟨Int.mul_ediv_mul_of_pos _ _ (by omega), by rw [Int.mul_emod_mul_of_pos _ _ (by omega), Int.mul_comm]⟩
theorem small_mul (x k : Int) (h0 : 0 ≤ x) (h1 : x ≤ 4398046511104) (k1 : 1 ≤ k) (k2 : k ≤ 1048576) : 0 ≤ x * k ∧ x * k ≤ 4611686018427387904 := by
  refine ⟨Int.mul_nonneg h0 (by omega), ?_⟩
  have := Int.mul_le_mul h1 k2 (by omega) (by omega : (0 : Int) ≤ 4398046511104)
  simpa using this

set_option maxHeartbeats 4000000 in
theorem walk (a : Int) (ha : fit a) (b : Int) (hb : fit b) (c : Int) (hc : fit c) (k : Int) (hk : fit k) (w : World) :
    Calls Try.prog 8 #[.int .i64 a, .int .i64 b, .int .i64 c, .int .i64 k] w fun e w' => e = .returned (.bool true) ∧ Below w.heap.size w w' := by
  by_cases hn : a < 0 ∨ b < 0 ∨ c < 1 ∨ k < 1 ∨ 1048576 < k ∨ 4398046511104 < a ∨ 4398046511104 < c
  · clear ha hb hc hk
    by_cases h1 : a < 0
    · clear hn
      go_enter Try.func8, Try.ntmps8
      go_wp2_with (first
        | (go_at_call 9; (with_reducible refine (wide.small_true _).mono ?_; rintro e w' ⟨rfl, n1, rfl⟩)))
      go_ret
      exact ⟨rfl, below_drewN (Below.refl _ _) _⟩
    by_cases h2 : b < 0
    · clear hn
      go_enter Try.func8, Try.ntmps8
      go_wp2_with (first
        | (go_at_call 9; (with_reducible refine (wide.small_true _).mono ?_; rintro e w' ⟨rfl, n1, rfl⟩)))
      go_ret
      exact ⟨rfl, below_drewN (Below.refl _ _) _⟩
    by_cases h3 : c < 1
    · clear hn
      go_enter Try.func8, Try.ntmps8
      go_wp2_with (first
        | (go_at_call 9; (with_reducible refine (wide.small_true _).mono ?_; rintro e w' ⟨rfl, n1, rfl⟩)))
      go_ret
      exact ⟨rfl, below_drewN (Below.refl _ _) _⟩
    by_cases h4 : k < 1
    · clear hn
      go_enter Try.func8, Try.ntmps8
      go_wp2_with (first
        | (go_at_call 9; (with_reducible refine (wide.small_true _).mono ?_; rintro e w' ⟨rfl, n1, rfl⟩)))
      go_ret
      exact ⟨rfl, below_drewN (Below.refl _ _) _⟩
    by_cases h5 : 1048576 < k
    · clear hn
      go_enter Try.func8, Try.ntmps8
      go_wp2_with (first
        | (go_at_call 9; (with_reducible refine (wide.small_true _).mono ?_; rintro e w' ⟨rfl, n1, rfl⟩)))
      go_ret
      exact ⟨rfl, below_drewN (Below.refl _ _) _⟩
    by_cases h6 : 4398046511104 < a
    · clear hn
      go_enter Try.func8, Try.ntmps8
      go_wp2_with (first
        | (go_at_call 9; (with_reducible refine (wide.small_true _).mono ?_; rintro e w' ⟨rfl, n1, rfl⟩)))
      go_ret
      exact ⟨rfl, below_drewN (Below.refl _ _) _⟩
    have h7 : 4398046511104 < c := by omega
    clear hn
    go_enter Try.func8, Try.ntmps8
    go_wp2_with (first
      | (go_at_call 9; (with_reducible refine (wide.small_true _).mono ?_; rintro e w' ⟨rfl, n1, rfl⟩)))
    go_ret
    exact ⟨rfl, below_drewN (Below.refl _ _) _⟩
  have a0 : 0 ≤ a := by omega
  have b0 : 0 ≤ b := by omega
  have c0 : 1 ≤ c := by omega
  have k0 : 1 ≤ k := by omega
  have k1 : k ≤ 1048576 := by omega
  have a1 : a ≤ 4398046511104 := by omega
  have c1 : c ≤ 4398046511104 := by omega
  clear hn
  obtain ⟨e1, e2⟩ := scaled a b c k c0 k0
  obtain ⟨m1, m2⟩ := small_mul a k a0 a1 k0 k1
  obtain ⟨m3, m4⟩ := small_mul c k (by omega) c1 k0 k1
  have m5 : 1 ≤ c * k := by have := Int.mul_pos (show 0 < c by omega) (show 0 < k by omega); omega
  have r0 := Int.emod_nonneg (a * b) (b := c) (by omega)
  have r1 := Int.emod_lt_of_pos (a * b) (b := c) (by omega)
  obtain ⟨m6, m7⟩ := small_mul (a * b % c) k r0 (by omega) k0 k1
  have hak : fit (a * k) := ⟨by omega, by omega⟩
  have hck : fit (c * k) := ⟨by omega, by omega⟩
  by_cases hq : a * b / c ≤ 9223372036854775807
  · have C1 := Lib.hid (fun W => wide.md_yes a b c W ha hb hc a0 b0 c0 hq)
    have C2 := Lib.hid (fun W => wide.md_is (a * k) b (c * k) (a * b / c) (a * b % c * k) W hak hb hck m1 b0 m5 hq e1 e2)
    clear ha hb hc hk e1 e2 hak hck hq r1
    generalize a * b / c = q at *
    generalize a * b % c = r at *
    go_enter Try.func8, Try.ntmps8
    go_wp2_with (first
      | (go_at_call 9; (with_reducible refine (wide.small_true _).mono ?_; rintro e w' ⟨rfl, n1, rfl⟩))
      | (go_at_call 12; (first | (with_reducible refine (C1.out _).mono ?_; rintro e w' ⟨rfl, n2, rfl⟩) | (with_reducible refine (C2.out _).mono ?_; rintro e w' ⟨rfl, n3, rfl⟩))))
    go_ret
    exact ⟨wide.ret_bool (by first | rfl | (simp; done)), below_drewN (Below.refl _ _) _⟩
  · have C1 := Lib.hid (fun W => wide.md_no a b c W ha hb (by omega))
    have C2 := Lib.hid (fun W => wide.md_no (a * k) b (c * k) W hak hb (by rw [e1]; omega))
    clear ha hb hc hk e1 e2 hak hck hq r1 r0 m6 m7
    go_enter Try.func8, Try.ntmps8
    go_wp2_with (first
      | (go_at_call 9; (with_reducible refine (wide.small_true _).mono ?_; rintro e w' ⟨rfl, n1, rfl⟩))
      | (go_at_call 12; (first | (with_reducible refine (C1.out _).mono ?_; rintro e w' ⟨rfl, n2, rfl⟩) | (with_reducible refine (C2.out _).mono ?_; rintro e w' ⟨rfl, n3, rfl⟩))))
    go_ret
    exact ⟨wide.ret_bool (by first | rfl | (simp; done)), below_drewN (Below.refl _ _) _⟩

set_option maxRecDepth 100000 in
theorem lifted (os : Os) (started : os.Started) (H : Type) (enc : TypeId × Value → H) :
    ReturnsInHanded {} Try.checked os 8 .any (Rows.widePartsSpec.pre6 enc Try.prog Try.f8 Rows.widePartsRow.domain false) (Rows.widePartsSpec.post enc Try.prog Try.f8 false true false false) := by
  refine returnsInHanded_of_change (C := Try.checked) law.own started (by kernel_rfl) Try.func8
    (ChangeSpec.witness6 (enc := enc) (C := Try.checked) false ⟨#[], #[.int .i64 0, .int .i64 0, .int .i64 0, .int .i64 0], []⟩ 8 (by kernel_rfl) (by kernel_rfl) (by kernel_rfl) (by kernel_rfl)) ?_
  intro W base args ds gs before hval0 hW hcnd _
  have hval : ∀ (j : Nat) t v, Try.f8.params[j]? = some t → args[j]? = some v → Value.okWide Try.prog W .any base t v := hval0
  have hW' := hW
  obtain ⟨p, q, hA0, hV, rfl, hfz, hnd⟩ := hW
  have hA : DataW.TrodAll enc Try.prog W 0 (fun _ => true) true Try.f8.params.toList args.toList ds p := hA0
  rw [Try.params8] at hA hval
  obtain ⟨v0, vs0, d0, ds0, p0, q0, hargs, rfl, rfl, h0, r0⟩ := trodAll_cons hA
  obtain ⟨v1, vs1, d1, ds1, p1, q1, rfl, rfl, rfl, h1, r1⟩ := trodAll_cons r0
  obtain ⟨v2, vs2, d2, ds2, p2, q2, rfl, rfl, rfl, h2, r2⟩ := trodAll_cons r1
  obtain ⟨v3, vs3, d3, ds3, p3, q3, rfl, rfl, rfl, h3, r3⟩ := trodAll_cons r2
  obtain ⟨rfl, rfl, rfl⟩ := trodAll_nil r3
  obtain rfl : args = #[v0, v1, v2, v3] := by cases args; simp_all
  obtain ⟨rfl, rfl⟩ := trodVars_none hV
  clear hA0 hval0
  obtain ⟨a0, rfl, hd0, hp0, w0⟩ := open_int Try.underlying3 (hval 0 3 v0 rfl rfl) h0
  obtain ⟨a1, rfl, hd1, hp1, w1⟩ := open_int Try.underlying3 (hval 1 3 v1 rfl rfl) h1
  obtain ⟨a2, rfl, hd2, hp2, w2⟩ := open_int Try.underlying3 (hval 2 3 v2 rfl rfl) h2
  obtain ⟨a3, rfl, hd3, hp3, w3⟩ := open_int Try.underlying3 (hval 3 3 v3 rfl rfl) h3
  refine (Calls.mono (R := fun e w' => e = .returned (.bool true) ∧ Below W.heap.size W w') ?_ fun e W' ⟨he, hb⟩ => ?_)
  · exact walk a0 (bounds_i64 w0) a1 (bounds_i64 w1) a2 (bounds_i64 w2) a3 (bounds_i64 w3) W
  · subst he
    exact ⟨_, rfl, law.post law.laidOut (by kernel_rfl) rfl rfl Try.underlying4 rfl hW' hb⟩

theorem over : Rows.widePartsRow.holds Try.pinned (OpenSpec.ofChange Rows.widePartsSpec) :=
  OpenClaim.holds_of_wide 8 Try.f8 rfl rfl rfl rfl rfl rfl rfl ⟨rfl, rfl, rfl, rfl, rfl⟩ rfl rfl rfl rfl rfl (by kernel_rfl) Try.func8 (by kernel_rfl)
    (of_decide_eq_true (by kernel_rfl)) (by unfold Func.isWrapper; first | (rw [if_pos (by decide +kernel)]; kernel_rfl) | (rw [if_neg (by decide +kernel)]; exact ⟨rfl, rfl⟩))
    (fun os started H enc _ => lifted os started H enc)

theorem proved : Rows.WidePartsSaid := over
end Go.Proofs.Ytfebdpiefhaddaa.wideParts
