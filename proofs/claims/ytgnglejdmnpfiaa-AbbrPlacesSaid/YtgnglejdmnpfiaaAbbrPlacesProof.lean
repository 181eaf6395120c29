/-
  AbbrPlaces: what stands at a place is right, ends ahead of a byte 0, and is what stands there, for any text and any place. No condition.
-/
import Derived.Test.YtgnglejdmnpfiaaAbbrLaw
namespace Go.Proofs.Ytgnglejdmnpfiaa.abbrPlaces
open Go.ChangeShapes Go.WideShapes Go.ChangeAt Go.RowKit
open lx ab mem abr
set_option linter.unusedVariables false
set_option maxRecDepth 100000

theorem ret_bool {b : Bool} (h : b = true) : Ending.returned (.bool b) = .returned (.bool true) := by rw [h]
/-- what is told stands there. -/
theorem stands {s : ByteArray} {n : Nat} {x : Nm} {r : List UInt8} (hn : n < s.size) (e : (L s).drop n = x ++ 0 :: r) : n + x.length < s.size ∧ s.extract n (n + x.length) = B x ∧ bt s (n + x.length) = 0 := by
  have h0 : (L s).length = s.size := rfl
  have h1 := congrArg List.length e
  rw [List.length_drop, List.length_append, List.length_cons] at h1
  refine ⟨by omega, ?_, ?_⟩
  · rw [ext_B, e, Nat.add_sub_cancel_left, List.take_left]
  · unfold bt
    rw [List.getD_eq_getElem?_getD, ← List.getElem?_drop, e, List.getElem?_append_right (Nat.le_refl _), Nat.sub_self]
    rfl
set_option maxRecDepth 100000 in
set_option maxHeartbeats 4000000 in
theorem walk (s : ByteArray) (hs : s.size ≤ maxLen) (a : Int) (ha : -9223372036854775808 ≤ a ∧ a ≤ 9223372036854775807) (w : World) (T : lines.ML w) : Calls Try.prog 6 #[.string s, .int .i64 a] w fun e w' => e = .returned (.bool true) ∧ Below w.heap.size w w' := by
  unfold maxLen at hs
  have SM := Lib.hid (small_at w T)
  by_cases h1 : 500 < s.size
  · clear T
    go_enter Try.func6, Try.ntmps6
    go_wp2_with (go_at_call 7; (with_reducible refine SM.out.mono ?_); rintro e w1 ⟨rfl, hb1⟩)
    go_ret
    exact ⟨rfl, hb1⟩
  have h2 : s.size ≤ 500 := by omega
  clear h1
  have AT := Lib.hid (fun W (hb : Below w.heap.size w W) => at_at s a ha W (T.below hb) (by omega))
  unfold ATold at AT
  cases hq : aT (L s) a with
  | none =>
    have e1 : aS (L s) a = [] := by unfold aS; rw [hq]; rfl
    have e2 : aB (L s) a = false := by unfold aB; rw [hq]; rfl
    rw [e1, e2] at AT
    have AT : Hid (∀ W, Below w.heap.size w W → Calls Try.prog 10 #[.string s, .int .i64 a] W fun e w' => e = .returned (.tuple #[.string ⟨#[]⟩, .bool false]) ∧ Below W.heap.size W w') := AT.out
    clear T e1 e2 hq
    go_enter Try.func6, Try.ntmps6
    go_wp2_with (first
      | (go_at_call 7; (with_reducible refine SM.out.mono ?_); rintro e w1 ⟨rfl, hb1⟩)
      | (go_at_call 10; (with_reducible refine (AT.out _ hb1).mono ?_); rintro e w2 ⟨rfl, hb2⟩))
    go_ret
    exact ⟨ret_bool (by first | rfl | (simp; done)), btr hb1 hb2⟩
  | some x =>
    have e1 : aS (L s) a = x := by unfold aS; rw [hq]; rfl
    have e2 : aB (L s) a = true := by unfold aB; rw [hq]; rfl
    rw [e1, e2] at AT
    obtain ⟨n, r, rfl, hn, hr, hd⟩ := aT_some hq
    have hn : n < s.size := hn
    obtain ⟨g1, g2, g3⟩ := stands hn hd
    have hx := ((rt_iff x).1 hr).2.1
    have RI : Hid (∀ W, Calls Try.prog 13 #[.string (B x)] W fun e w' => e = .returned (.bool true) ∧ W = w') := fun W => by
      have := right_at (B x) W (by rw [B_size]; omega)
      rw [L_B, hr] at this
      exact this
    have hsl := fun W => lines.sl_run W s n (n + x.length) ((n : Int) + (x.length : Int)) rfl (by omega) (by omega)
    rw [g2] at hsl
    have b1 := bt_at s (n + x.length) g1
    rw [g3] at b1
    have hz : (B x).size = x.length := B_size x
    have E : ((B x).toList == (B x).toList) = true := by simp
    clear T e1 e2 hq hd hr g2 g3 ha
    generalize B x = y at *
    generalize x.length = m at *
    subst hz
    go_enter Try.func6, Try.ntmps6
    go_wp2_with (first
      | (go_at_call 7; (with_reducible refine SM.out.mono ?_); rintro e w1 ⟨rfl, hb1⟩)
      | (go_at_call 10; (with_reducible refine (AT.out _ hb1).mono ?_); rintro e w2 ⟨rfl, hb2⟩)
      | (go_at_call 13; (with_reducible refine (RI.out _).mono ?_); rintro e w' ⟨rfl, rfl⟩))
    go_ret
    exact ⟨ret_bool (by first | rfl | (simp; done)), btr hb1 hb2⟩
set_option maxRecDepth 100000 in
theorem lifted (os : Os) (started : os.Started) (H : Type) (enc : TypeId × Value → H) :
    ReturnsInHanded {} Try.checked os 6 .any (Rows.abbrPlacesSpec.pre6 enc Try.prog Try.f6 Rows.abbrPlacesRow.domain false) (Rows.abbrPlacesSpec.post enc Try.prog Try.f6 false true false false) := by
  refine returnsInHanded_of_change_shaped (C := Try.checked) law.own started (by kernel_rfl) Try.func6
    (ChangeSpec.witness6 (enc := enc) (C := Try.checked) false ⟨#[], #[.string ByteArray.empty, .int .i64 0], []⟩ 8 (by kernel_rfl) (by kernel_rfl) (by kernel_rfl) (by kernel_rfl)) ?_
  intro W base args ds gs before hval0 hW hcnd _ hsh _
  have hval : ∀ (j : Nat) t v, Try.f6.params[j]? = some t → args[j]? = some v → Value.okWide Try.prog W .any base t v := hval0
  have hW' := hW
  obtain ⟨p, q, hA0, hV, rfl, hfz, hnd⟩ := hW
  have hA : DataW.TrodAll enc Try.prog W 0 (fun _ => true) true Try.f6.params.toList args.toList ds p := hA0
  rw [Try.params6] at hA hval
  obtain ⟨v0, vs0, d0, ds0, p0, q0, hargs, rfl, rfl, h0, r0⟩ := trodAll_cons hA
  obtain ⟨v1, vs1, d1, ds1, p1, q1, rfl, rfl, rfl, h1, r1⟩ := trodAll_cons r0
  obtain ⟨rfl, rfl, rfl⟩ := trodAll_nil r1
  obtain rfl : args = #[v0, v1] := by cases args; simp_all
  obtain ⟨rfl, rfl⟩ := trodVars_none hV
  clear hA0 hval0
  obtain ⟨a0, rfl, hd0, hp0, w0⟩ := ChangeMaps.open_string Try.underlying9 (hval 0 9 v0 rfl rfl) h0
  obtain ⟨a1, rfl, hd1, hp1, w1⟩ := open_int Try.underlying3 (hval 1 3 v1 rfl rfl) h1
  refine (Calls.mono (R := fun e w' => e = .returned (.bool true) ∧ Below W.heap.size W w') ?_ fun e W' ⟨he, hb⟩ => ?_)
  · exact walk a0 w0 a1 (bounds_i64 w1) W (lines.ml_of hsh)
  · subst he
    exact ⟨_, rfl, law.post law.laidOut (by kernel_rfl) rfl rfl Try.underlying4 rfl hW' hb⟩

theorem over : Rows.abbrPlacesRow.holds Try.pinned (OpenSpec.ofChange Rows.abbrPlacesSpec) :=
  OpenClaim.holds_of_wide 6 Try.f6 rfl rfl rfl rfl rfl rfl rfl ⟨rfl, rfl, rfl, rfl, rfl⟩ rfl rfl rfl rfl rfl (by kernel_rfl) Try.func6 (by kernel_rfl)
    (of_decide_eq_true (by kernel_rfl)) (by unfold Func.isWrapper; first | (rw [if_pos (by decide +kernel)]; kernel_rfl) | (rw [if_neg (by decide +kernel)]; exact ⟨rfl, rfl⟩))
    (fun os started H enc _ => lifted os started H enc)

theorem proved : Rows.AbbrPlacesSaid := over
end Go.Proofs.Ytgnglejdmnpfiaa.abbrPlaces
