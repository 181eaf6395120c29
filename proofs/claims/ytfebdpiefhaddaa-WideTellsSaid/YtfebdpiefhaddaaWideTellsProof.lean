/-
  Proves that WideTells is true for every four numbers of 64 bits: wide's products, quotients, and which product is less, are the document's own answers. No condition.
-/
import Derived.Test.YtfebdpiefhaddaaRef02Div
import Derived.Test.YtfebdpiefhaddaaLaw
namespace Go.Proofs.Ytfebdpiefhaddaa.wideTells
open Go.ChangeShapes Go.WideShapes Go.ChangeAt Go.RowKit
open wide (fit)
set_option linter.unusedVariables false

theorem old {w W w' : World} (h1 : Below w.heap.size w W) (h2 : Below W.heap.size W w') : Below w.heap.size w w' := h1.trans (h2.mono h1.size)
theorem drawn {w W w' : World} (h1 : Below w.heap.size w W) (h2 : ∃ n, w' = W.drewN n) : Below w.heap.size w w' := by
  obtain ⟨n, rfl⟩ := h2; exact below_drewN h1 n

theorem mul_o (w : World) (a b : Int) (ha : fit a) (hb : fit b) : ∃ x y o, Hid (∀ W, Calls Try.prog 10 #[.int .i64 a, .int .i64 b] W fun e w' => e = .returned (.tuple #[.int .i64 x, .int .i64 y, .bool o]) ∧ W = w') ∧ Hid (∀ W, Below w.heap.size w W → Calls Try.prog 11 #[.int .i64 a, .int .i64 b] W fun e w' => e = .returned (.tuple #[.int .i64 x, .int .i64 y, .bool o]) ∧ Below w.heap.size w w') := by
  by_cases h : a < 0 ∨ b < 0
  · exact ⟨_, _, _, fun W => wide.mul_no a b W h, fun W hW => (ref02.mul_no a b W h).mono fun _ _ ⟨he, hw⟩ => ⟨he, old hW hw⟩⟩
  · exact ⟨_, _, _, fun W => wide.mul_yes a b W ha hb (by omega) (by omega), fun W hW => (ref02.mul_yes a b W ha hb (by omega) (by omega)).mono fun _ _ ⟨he, hw⟩ => ⟨he, old hW hw⟩⟩
theorem md_o (w : World) (a b c : Int) (ha : fit a) (hb : fit b) (hc : fit c) : ∃ x y o, Hid (∀ W, Below w.heap.size w W → Calls Try.prog 12 #[.int .i64 a, .int .i64 b, .int .i64 c] W fun e w' => e = .returned (.tuple #[.int .i64 x, .int .i64 y, .bool o]) ∧ Below w.heap.size w w') ∧ Hid (∀ W, Below w.heap.size w W → Calls Try.prog 13 #[.int .i64 a, .int .i64 b, .int .i64 c] W fun e w' => e = .returned (.tuple #[.int .i64 x, .int .i64 y, .bool o]) ∧ Below w.heap.size w w') := by
  by_cases h : a < 0 ∨ b < 0 ∨ c < 1 ∨ 9223372036854775807 < a * b / c
  · exact ⟨_, _, _, fun W hW => (wide.md_no a b c W ha hb h).mono fun _ _ ⟨he, hw⟩ => ⟨he, drawn hW hw⟩, fun W hW => (ref02.md_no a b c W ha hb hc h).mono fun _ _ ⟨he, hw⟩ => ⟨he, old hW hw⟩⟩
  · exact ⟨_, _, _, fun W hW => (wide.md_yes a b c W ha hb hc (by omega) (by omega) (by omega) (by omega)).mono fun _ _ ⟨he, hw⟩ => ⟨he, drawn hW hw⟩, fun W hW => (ref02.md_yes a b c W ha hb hc (by omega) (by omega) (by omega) (by omega)).mono fun _ _ ⟨he, hw⟩ => ⟨he, old hW hw⟩⟩
theorem up_o (w : World) (a b c : Int) (ha : fit a) (hb : fit b) (hc : fit c) : ∃ x o, Hid (∀ W, Below w.heap.size w W → Calls Try.prog 14 #[.int .i64 a, .int .i64 b, .int .i64 c] W fun e w' => e = .returned (.tuple #[.int .i64 x, .bool o]) ∧ Below w.heap.size w w') ∧ Hid (∀ W, Below w.heap.size w W → Calls Try.prog 15 #[.int .i64 a, .int .i64 b, .int .i64 c] W fun e w' => e = .returned (.tuple #[.int .i64 x, .bool o]) ∧ Below w.heap.size w w') := by
  by_cases h : a < 0 ∨ b < 0 ∨ c < 1 ∨ 9223372036854775807 < a * b / c
  · exact ⟨_, _, fun W hW => (wide.up_no a b c W ha hb h).mono fun _ _ ⟨he, hw⟩ => ⟨he, drawn hW hw⟩, fun W hW => (ref02.up_no a b c W ha hb hc h).mono fun _ _ ⟨he, hw⟩ => ⟨he, old hW hw⟩⟩
  by_cases hr : a * b % c = 0
  · exact ⟨_, _, fun W hW => (wide.up_even a b c _ W ha hb hc (by omega) (by omega) (by omega) (by omega) rfl hr).mono fun _ _ ⟨he, hw⟩ => ⟨he, drawn hW hw⟩, fun W hW => (ref02.up_even a b c _ W ha hb hc (by omega) (by omega) (by omega) (by omega) rfl hr).mono fun _ _ ⟨he, hw⟩ => ⟨he, old hW hw⟩⟩
  by_cases hm : a * b / c = 9223372036854775807
  · exact ⟨_, _, fun W hW => (wide.up_over a b c W ha hb hc (by omega) (by omega) (by omega) hm hr).mono fun _ _ ⟨he, hw⟩ => ⟨he, drawn hW hw⟩, fun W hW => (ref02.up_over a b c W ha hb hc (by omega) (by omega) (by omega) hm hr).mono fun _ _ ⟨he, hw⟩ => ⟨he, old hW hw⟩⟩
  · exact ⟨_, _, fun W hW => (wide.up_more a b c _ W ha hb hc (by omega) (by omega) (by omega) (by omega) rfl hr).mono fun _ _ ⟨he, hw⟩ => ⟨he, drawn hW hw⟩, fun W hW => (ref02.up_more a b c _ W ha hb hc (by omega) (by omega) (by omega) (by omega) rfl hr).mono fun _ _ ⟨he, hw⟩ => ⟨he, old hW hw⟩⟩
theorem less_o (w : World) (a b c d : Int) (ha : fit a) (hb : fit b) (hc : fit c) (hd : fit d) : ∃ o, Hid (∀ W, Calls Try.prog 16 #[.int .i64 a, .int .i64 b, .int .i64 c, .int .i64 d] W fun e w' => e = .returned (.bool o) ∧ W = w') ∧ Hid (∀ W, Below w.heap.size w W → Calls Try.prog 17 #[.int .i64 a, .int .i64 b, .int .i64 c, .int .i64 d] W fun e w' => e = .returned (.bool o) ∧ Below w.heap.size w w') := by
  by_cases h : a < 0 ∨ b < 0 ∨ c < 0 ∨ d < 0
  · exact ⟨_, fun W => wide.less_neg a b c d W ha hb hc hd h, fun W hW => (ref02.less_neg a b c d W ha hb hc hd h).mono fun _ _ ⟨he, hw⟩ => ⟨he, old hW hw⟩⟩
  · exact ⟨_, fun W => wide.less_pos a b c d W ha hb hc hd (by omega) (by omega) (by omega) (by omega), fun W hW => (ref02.less_pos a b c d W ha hb hc hd (by omega) (by omega) (by omega) (by omega)).mono fun _ _ ⟨he, hw⟩ => ⟨he, old hW hw⟩⟩

set_option maxHeartbeats 4000000 in
set_option maxRecDepth 100000 in
theorem walk (a : Int) (ha : fit a) (b : Int) (hb : fit b) (c : Int) (hc : fit c) (d : Int) (hd : fit d) (w : World) :
    Calls Try.prog 3 #[.int .i64 a, .int .i64 b, .int .i64 c, .int .i64 d] w fun e w' => e = .returned (.bool true) ∧ Below w.heap.size w w' := by
  obtain ⟨x1, y1, o1, C1, D1⟩ := mul_o w a b ha hb
  obtain ⟨x2, y2, o2, C2, D2⟩ := md_o w a b c ha hb hc
  obtain ⟨x3, o3, C3, D3⟩ := up_o w a b c ha hb hc
  obtain ⟨o4, C4, D4⟩ := less_o w a b c d ha hb hc hd
  have C0 : Hid (∀ W, Below w.heap.size w W → Calls Try.prog 9 #[] W fun e w' => e = .returned (.bool true) ∧ Below w.heap.size w w') :=
    fun W hW => (wide.small_true W).mono fun _ _ ⟨he, hw⟩ => ⟨he, drawn hW hw⟩
  have hb0 : Below w.heap.size w w := Below.refl _ _
  clear ha hb hc hd
  go_enter Try.func3, Try.ntmps3
  go_wp2_with (first
    | (go_at_call 9; (with_reducible refine (C0.out _ (by assumption)).mono ?_; rintro e w1 ⟨rfl, hb1⟩))
    | (go_at_call 10; (with_reducible refine (C1.out _).mono ?_; rintro e w' ⟨rfl, rfl⟩))
    | (go_at_call 12; (with_reducible refine (C2.out _ (by assumption)).mono ?_; rintro e w3 ⟨rfl, hb3⟩))
    | (go_at_call 14; (with_reducible refine (C3.out _ (by assumption)).mono ?_; rintro e w4 ⟨rfl, hb4⟩))
    | (go_at_call 16; (with_reducible refine (C4.out _).mono ?_; rintro e w' ⟨rfl, rfl⟩))
    | (go_at_call 11; (with_reducible refine (D1.out _ (by assumption)).mono ?_; rintro e w6 ⟨rfl, hb6⟩))
    | (go_at_call 13; (with_reducible refine (D2.out _ (by assumption)).mono ?_; rintro e w7 ⟨rfl, hb7⟩))
    | (go_at_call 15; (with_reducible refine (D3.out _ (by assumption)).mono ?_; rintro e w8 ⟨rfl, hb8⟩))
    | (go_at_call 17; (with_reducible refine (D4.out _ (by assumption)).mono ?_; rintro e w9 ⟨rfl, hb9⟩)))
  go_ret
  exact ⟨wide.ret_bool (by first | rfl | (simp; done)), by assumption⟩

set_option maxRecDepth 100000 in
theorem lifted (os : Os) (started : os.Started) (H : Type) (enc : TypeId × Value → H) :
    ReturnsInHanded {} Try.checked os 3 .any (Rows.wideTellsSpec.pre6 enc Try.prog Try.f3 Rows.wideTellsRow.domain false) (Rows.wideTellsSpec.post enc Try.prog Try.f3 false true false false) := by
  refine returnsInHanded_of_change (C := Try.checked) law.own started (by kernel_rfl) Try.func3
    (ChangeSpec.witness6 (enc := enc) (C := Try.checked) false ⟨#[], #[.int .i64 0, .int .i64 0, .int .i64 0, .int .i64 0], []⟩ 8 (by kernel_rfl) (by kernel_rfl) (by kernel_rfl) (by kernel_rfl)) ?_
  intro W base args ds gs before hval0 hW hcnd _
  have hval : ∀ (j : Nat) t v, Try.f3.params[j]? = some t → args[j]? = some v → Value.okWide Try.prog W .any base t v := hval0
  have hW' := hW
  obtain ⟨p, q, hA0, hV, rfl, hfz, hnd⟩ := hW
  have hA : DataW.TrodAll enc Try.prog W 0 (fun _ => true) true Try.f3.params.toList args.toList ds p := hA0
  rw [Try.params3] at hA hval
  obtain ⟨v0, vs0, d0, ds0, p0, q0, hargs, rfl, rfl, h0, r0⟩ := trodAll_cons hA
  obtain ⟨v1, vs1, d1, ds1, p1, q1, rfl, rfl, rfl, h1, r1⟩ := trodAll_cons r0
  obtain ⟨v2, vs2, d2, ds2, p2, q2, rfl, rfl, rfl, h2, r2⟩ := trodAll_cons r1
  obtain ⟨v3, vs3, d3, ds3, p3, q3, rfl, rfl, rfl, h3, r3⟩ := trodAll_cons r2
  obtain ⟨rfl, rfl, rfl⟩ := trodAll_nil r3
  obtain rfl : args = #[v0, v1, v2, v3] := by cases args; simp_all
  obtain ⟨rfl, rfl⟩ := trodVars_none hV
  clear hA0 hval0
  obtain ⟨a0, rfl, hd0, hp0, w0⟩ := open_int Try.underlying3 (hval 0 3 v0 rfl rfl) h0
  obtain ⟨a1, rfl, hd1, hp1, w1⟩ := open_int Try.underlying3 (hval 1 3 v1 rfl rfl) h1
  obtain ⟨a2, rfl, hd2, hp2, w2⟩ := open_int Try.underlying3 (hval 2 3 v2 rfl rfl) h2
  obtain ⟨a3, rfl, hd3, hp3, w3⟩ := open_int Try.underlying3 (hval 3 3 v3 rfl rfl) h3
  refine (Calls.mono (R := fun e w' => e = .returned (.bool true) ∧ Below W.heap.size W w') ?_ fun e W' ⟨he, hb⟩ => ?_)
  · exact walk a0 (bounds_i64 w0) a1 (bounds_i64 w1) a2 (bounds_i64 w2) a3 (bounds_i64 w3) W
  · subst he
    exact ⟨_, rfl, law.post law.laidOut (by kernel_rfl) rfl rfl Try.underlying4 rfl hW' hb⟩

theorem over : Rows.wideTellsRow.holds Try.pinned (OpenSpec.ofChange Rows.wideTellsSpec) :=
  OpenClaim.holds_of_wide 3 Try.f3 rfl rfl rfl rfl rfl rfl rfl ⟨rfl, rfl, rfl, rfl, rfl⟩ rfl rfl rfl rfl rfl (by kernel_rfl) Try.func3 (by kernel_rfl)
    (of_decide_eq_true (by kernel_rfl)) (by unfold Func.isWrapper; first | (rw [if_pos (by decide +kernel)]; kernel_rfl) | (rw [if_neg (by decide +kernel)]; exact ⟨rfl, rfl⟩))
    (fun os started H enc _ => lifted os started H enc)

theorem proved : Rows.WideTellsSaid := over
end Go.Proofs.Ytfebdpiefhaddaa.wideTells
