/-
  Proves that LinesCuts is true for every two texts: what is cut, with the cut between, is what it was, and there is none ahead of it. No condition.
-/
import Derived.Test.YtnmaffkcfoddgaaLinesLaw
namespace Go.Proofs.Ytnmaffkcfoddgaa.linesCuts
open Go.ChangeShapes Go.WideShapes Go.ChangeAt Go.RowKit
open lx lines
set_option linter.unusedVariables false

set_option maxRecDepth 100000 in
set_option maxHeartbeats 4000000 in
theorem walk (s : ByteArray) (hs : s.size ≤ maxLen) (t : ByteArray) (ht : t.size ≤ maxLen) (w : World) (T : ML w) : Calls Try.prog 7 #[.string s, .string t] w fun e w' => e = .returned (.bool true) ∧ Below w.heap.size w w' := by
  unfold maxLen at hs ht
  have S := Lib.hid (fun W hb => small_true T W hb)
  have B0 : Below w.heap.size w w := Below.refl _ _
  by_cases h1 : 300 < s.size ∨ 100 < t.size
  · clear T
    go_enter Try.func7, Try.ntmps7
    go_wp2_with (first
      | (go_at_call 10; (with_reducible refine (S.out _ (by assumption)).mono ?_; rintro e w1 ⟨rfl, hb1⟩)))
    all_goals first
      | (exfalso; omega)
      | (go_ret; exact ⟨rfl, by assumption⟩)
  have h2 : s.size ≤ 300 := by omega
  have h3 : t.size ≤ 100 := by omega
  clear h1
  rcases hit_or s t with h | ⟨i, h⟩
  · have C := Lib.hid (fun W hb => cut_miss T W hb s t (by omega) h)
    clear T h
    go_enter Try.func7, Try.ntmps7
    go_wp2_with (first
      | (go_at_call 10; (with_reducible refine (S.out _ (by assumption)).mono ?_; rintro e w1 ⟨rfl, hb1⟩))
      | (go_at_call 13; (with_reducible refine (C.out _ (by assumption)).mono ?_; rintro e w2 ⟨rfl, hb2⟩)))
    all_goals
      go_ret
      exact ⟨ret_bool (by first | rfl | (simp; done)), by assumption⟩
  · have C := Lib.hid (fun W hb => cut_hit T W hb s t i (by omega) h)
    have t1 := h.1
    have z := h.2.1
    have C2 := Lib.hid (fun W hb => cut_miss T W hb (s.extract 0 i ++ t.extract 0 (t.size - 1)) t (by simp; omega) (hit_first h))
    have E : ((s.extract 0 i ++ t ++ s.extract (i + t.size) s.size).toList == s.toList) = true := by rw [hit_parts h]; simp
    have y1 : (s.extract 0 i).size ≤ 300 := by simp; omega
    have y2 : (s.extract (i + t.size) s.size).size ≤ 300 := by simp; omega
    clear T h
    generalize s.extract 0 i = X at *
    generalize s.extract (i + t.size) s.size = Y at *
    go_enter Try.func7, Try.ntmps7
    go_wp2_with (first
      | (go_at_call 10; (with_reducible refine (S.out _ (by assumption)).mono ?_; rintro e w1 ⟨rfl, hb1⟩))
      | (go_at_call 13; (first | (with_reducible refine (C.out _ (by assumption)).mono ?_; rintro e w2 ⟨rfl, hb2⟩) | (with_reducible refine (C2.out _ (by assumption)).mono ?_; rintro e w3 ⟨rfl, hb3⟩))))
    all_goals
      go_ret
      exact ⟨ret_bool (by first | rfl | (simp; done)), by assumption⟩
set_option maxRecDepth 100000 in
theorem lifted (os : Os) (started : os.Started) (H : Type) (enc : TypeId × Value → H) :
    ReturnsInHanded {} Try.checked os 7 .any (Rows.linesCutsSpec.pre6 enc Try.prog Try.f7 Rows.linesCutsRow.domain false) (Rows.linesCutsSpec.post enc Try.prog Try.f7 false true false false) := by
  refine returnsInHanded_of_change_shaped (C := Try.checked) law.own started (by kernel_rfl) Try.func7
    (ChangeSpec.witness6 (enc := enc) (C := Try.checked) false ⟨#[], #[.string ByteArray.empty, .string ByteArray.empty], []⟩ 8 (by kernel_rfl) (by kernel_rfl) (by kernel_rfl) (by kernel_rfl)) ?_
  intro W base args ds gs before hval0 hW hcnd _ hsh _
  have hval : ∀ (j : Nat) t v, Try.f7.params[j]? = some t → args[j]? = some v → Value.okWide Try.prog W .any base t v := hval0
  have hW' := hW
  obtain ⟨p, q, hA0, hV, rfl, hfz, hnd⟩ := hW
  have hA : DataW.TrodAll enc Try.prog W 0 (fun _ => true) true Try.f7.params.toList args.toList ds p := hA0
  rw [Try.params7] at hA hval
  obtain ⟨v0, vs0, d0, ds0, p0, q0, hargs, rfl, rfl, h0, r0⟩ := trodAll_cons hA
  obtain ⟨v1, vs1, d1, ds1, p1, q1, rfl, rfl, rfl, h1, r1⟩ := trodAll_cons r0
  obtain ⟨rfl, rfl, rfl⟩ := trodAll_nil r1
  obtain rfl : args = #[v0, v1] := by cases args; simp_all
  obtain ⟨rfl, rfl⟩ := trodVars_none hV
  clear hA0 hval0
  obtain ⟨a0, rfl, hd0, hp0, w0⟩ := ChangeMaps.open_string Try.underlying9 (hval 0 9 v0 rfl rfl) h0
  obtain ⟨a1, rfl, hd1, hp1, w1⟩ := ChangeMaps.open_string Try.underlying9 (hval 1 9 v1 rfl rfl) h1
  refine (Calls.mono (R := fun e w' => e = .returned (.bool true) ∧ Below W.heap.size W w') ?_ fun e W' ⟨he, hb⟩ => ?_)
  · exact walk a0 w0 a1 w1 W (lines.ml_of hsh)
  · subst he
    exact ⟨_, rfl, law.post law.laidOut (by kernel_rfl) rfl rfl Try.underlying4 rfl hW' hb⟩

theorem over : Rows.linesCutsRow.holds Try.pinned (OpenSpec.ofChange Rows.linesCutsSpec) :=
  OpenClaim.holds_of_wide 7 Try.f7 rfl rfl rfl rfl rfl rfl rfl ⟨rfl, rfl, rfl, rfl, rfl⟩ rfl rfl rfl rfl rfl (by kernel_rfl) Try.func7 (by kernel_rfl)
    (of_decide_eq_true (by kernel_rfl)) (by unfold Func.isWrapper; first | (rw [if_pos (by decide +kernel)]; kernel_rfl) | (rw [if_neg (by decide +kernel)]; exact ⟨rfl, rfl⟩))
    (fun os started H enc _ => lifted os started H enc)

theorem proved : Rows.LinesCutsSaid := over
end Go.Proofs.Ytnmaffkcfoddgaa.linesCuts
