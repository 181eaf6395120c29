/-
  Proves that NumOrders is true for every three numbers of 64 bits: the greater one makes the greater sum, and the less difference where it is taken away. No condition.
-/
import Derived.Test.YtjhbbaadmdmhaaaSum
import Derived.Test.YtjhbbaadmdmhaaaLaw
namespace Go.Proofs.Ytjhbbaadmdmhaaa.numOrders
open Go.ChangeShapes Go.WideShapes Go.ChangeAt Go.RowKit
open num (fit)
set_option linter.unusedVariables false

theorem add_o (a b : Int) (ha : fit a) (hb : fit b) : ∃ r o, Hid (∀ W, Calls Try.prog 11 #[.int .i64 a, .int .i64 b] W fun e w' => e = .returned (.tuple #[.int .i64 r, .bool o]) ∧ W = w') ∧ (o = true → r = a + b) := by
  by_cases h : fit (a + b)
  · exact ⟨_, _, fun W => num.add_yes a b W ha hb h, fun _ => rfl⟩
  · exact ⟨_, _, fun W => num.add_no a b W ha hb h, fun h => by cases h⟩
theorem sub_o (a b : Int) (ha : fit a) (hb : fit b) : ∃ r o, Hid (∀ W, Calls Try.prog 13 #[.int .i64 a, .int .i64 b] W fun e w' => e = .returned (.tuple #[.int .i64 r, .bool o]) ∧ W = w') ∧ (o = true → r = a - b) := by
  by_cases h : fit (a - b)
  · exact ⟨_, _, fun W => num.sub_yes a b W ha hb h, fun _ => rfl⟩
  · exact ⟨_, _, fun W => num.sub_no a b W ha hb h, fun h => by cases h⟩

set_option maxHeartbeats 4000000 in
theorem walk (a : Int) (ha : fit a) (b : Int) (hb : fit b) (c : Int) (hc : fit c) (w : World) :
    Calls Try.prog 9 #[.int .i64 a, .int .i64 b, .int .i64 c] w fun e w' => e = .returned (.bool true) ∧ Below w.heap.size w w' := by
  obtain ⟨r1, o1, C1, h1⟩ := add_o a c ha hc
  obtain ⟨r2, o2, C2, h2⟩ := add_o b c hb hc
  obtain ⟨r3, o3, C3, h3⟩ := sub_o c a hc ha
  obtain ⟨r4, o4, C4, h4⟩ := sub_o c b hc hb
  have k1 : (o1 = true ∧ o2 = true ∧ decide (r1 < r2) = decide (a < b)) ∨ o1 = false ∨ (o1 = true ∧ o2 = false) := by
    cases o1
    · exact .inr (.inl rfl)
    · cases o2
      · exact .inr (.inr ⟨rfl, rfl⟩)
      · rw [h1 rfl, h2 rfl]; exact .inl ⟨rfl, rfl, by simp⟩
  have k2 : (o3 = true ∧ o4 = true ∧ decide (r4 < r3) = decide (a < b)) ∨ o3 = false ∨ (o3 = true ∧ o4 = false) := by
    cases o3
    · exact .inr (.inl rfl)
    · cases o4
      · exact .inr (.inr ⟨rfl, rfl⟩)
      · rw [h3 rfl, h4 rfl]; refine .inl ⟨rfl, rfl, ?_⟩; rw [decide_eq_decide]; omega
  clear h1 h2 h3 h4 ha hb hc
  by_cases hab : a < b
  · have e : decide (a < b) = true := decide_eq_true hab
    rw [e] at k1 k2
    clear e
    simp only [decide_eq_true_eq] at k1 k2
    rcases k1 with ⟨rfl, rfl, k1⟩ | rfl | ⟨rfl, rfl⟩ <;> rcases k2 with ⟨rfl, rfl, k2⟩ | rfl | ⟨rfl, rfl⟩
    all_goals
      go_enter Try.func9, Try.ntmps9
      go_wp2_with (first
        | (go_at_call 10; (with_reducible refine (num.small_true _).mono ?_; rintro e w1 ⟨rfl, hb1⟩))
        | (go_at_call 11; (first | (with_reducible refine (C1.out _).mono ?_; rintro e w' ⟨rfl, rfl⟩) | (with_reducible refine (C2.out _).mono ?_; rintro e w' ⟨rfl, rfl⟩)))
        | (go_at_call 13; (first | (with_reducible refine (C3.out _).mono ?_; rintro e w' ⟨rfl, rfl⟩) | (with_reducible refine (C4.out _).mono ?_; rintro e w' ⟨rfl, rfl⟩))))
      go_ret
      exact ⟨num.ret_bool (by first | rfl | (simp; omega)), by assumption⟩
  · have e : decide (a < b) = false := decide_eq_false hab
    rw [e] at k1 k2
    clear e
    simp only [decide_eq_false_iff_not] at k1 k2
    rcases k1 with ⟨rfl, rfl, k1⟩ | rfl | ⟨rfl, rfl⟩ <;> rcases k2 with ⟨rfl, rfl, k2⟩ | rfl | ⟨rfl, rfl⟩
    all_goals
      go_enter Try.func9, Try.ntmps9
      go_wp2_with (first
        | (go_at_call 10; (with_reducible refine (num.small_true _).mono ?_; rintro e w1 ⟨rfl, hb1⟩))
        | (go_at_call 11; (first | (with_reducible refine (C1.out _).mono ?_; rintro e w' ⟨rfl, rfl⟩) | (with_reducible refine (C2.out _).mono ?_; rintro e w' ⟨rfl, rfl⟩)))
        | (go_at_call 13; (first | (with_reducible refine (C3.out _).mono ?_; rintro e w' ⟨rfl, rfl⟩) | (with_reducible refine (C4.out _).mono ?_; rintro e w' ⟨rfl, rfl⟩))))
      go_ret
      exact ⟨num.ret_bool (by first | rfl | (simp; omega)), by assumption⟩

set_option maxRecDepth 100000 in
theorem lifted (os : Os) (started : os.Started) (H : Type) (enc : TypeId × Value → H) :
    ReturnsInHanded {} Try.checked os 9 .any (Rows.numOrdersSpec.pre6 enc Try.prog Try.f9 Rows.numOrdersRow.domain false) (Rows.numOrdersSpec.post enc Try.prog Try.f9 false true false false) := by
  refine returnsInHanded_of_change (C := Try.checked) law.own started (by kernel_rfl) Try.func9
    (ChangeSpec.witness6 (enc := enc) (C := Try.checked) false ⟨#[], #[.int .i64 0, .int .i64 0, .int .i64 0], []⟩ 8 (by kernel_rfl) (by kernel_rfl) (by kernel_rfl) (by kernel_rfl)) ?_
  intro W base args ds gs before hval0 hW hcnd _
  have hval : ∀ (j : Nat) t v, Try.f9.params[j]? = some t → args[j]? = some v → Value.okWide Try.prog W .any base t v := hval0
  have hW' := hW
  obtain ⟨p, q, hA0, hV, rfl, hfz, hnd⟩ := hW
  have hA : DataW.TrodAll enc Try.prog W 0 (fun _ => true) true Try.f9.params.toList args.toList ds p := hA0
  rw [Try.params9] at hA hval
  obtain ⟨v0, vs0, d0, ds0, p0, q0, hargs, rfl, rfl, h0, r0⟩ := trodAll_cons hA
  obtain ⟨v1, vs1, d1, ds1, p1, q1, rfl, rfl, rfl, h1, r1⟩ := trodAll_cons r0
  obtain ⟨v2, vs2, d2, ds2, p2, q2, rfl, rfl, rfl, h2, r2⟩ := trodAll_cons r1
  obtain ⟨rfl, rfl, rfl⟩ := trodAll_nil r2
  obtain rfl : args = #[v0, v1, v2] := by cases args; simp_all
  obtain ⟨rfl, rfl⟩ := trodVars_none hV
  clear hA0 hval0
  obtain ⟨a0, rfl, hd0, hp0, w0⟩ := open_int Try.underlying3 (hval 0 3 v0 rfl rfl) h0
  obtain ⟨a1, rfl, hd1, hp1, w1⟩ := open_int Try.underlying3 (hval 1 3 v1 rfl rfl) h1
  obtain ⟨a2, rfl, hd2, hp2, w2⟩ := open_int Try.underlying3 (hval 2 3 v2 rfl rfl) h2
  refine (Calls.mono (R := fun e w' => e = .returned (.bool true) ∧ Below W.heap.size W w') ?_ fun e W' ⟨he, hb⟩ => ?_)
  · exact walk a0 (bounds_i64 w0) a1 (bounds_i64 w1) a2 (bounds_i64 w2) W
  · subst he
    exact ⟨_, rfl, law.post law.laidOut (by kernel_rfl) rfl rfl Try.underlying4 rfl hW' hb⟩

theorem over : Rows.numOrdersRow.holds Try.pinned (OpenSpec.ofChange Rows.numOrdersSpec) :=
  OpenClaim.holds_of_wide 9 Try.f9 rfl rfl rfl rfl rfl rfl rfl ⟨rfl, rfl, rfl, rfl, rfl⟩ rfl rfl rfl rfl rfl (by kernel_rfl) Try.func9 (by kernel_rfl)
    (of_decide_eq_true (by kernel_rfl)) (by unfold Func.isWrapper; first | (rw [if_pos (by decide +kernel)]; kernel_rfl) | (rw [if_neg (by decide +kernel)]; exact ⟨rfl, rfl⟩))
    (fun os started H enc _ => lifted os started H enc)

theorem proved : Rows.NumOrdersSaid := over
end Go.Proofs.Ytjhbbaadmdmhaaa.numOrders
