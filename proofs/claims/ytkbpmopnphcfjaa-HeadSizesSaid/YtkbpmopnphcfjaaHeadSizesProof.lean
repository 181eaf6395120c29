/-
  HeadSizes: a block of eight bytes a time is longer than one of four, by four for each time and leap, and each count counts, for any head. No condition.
-/
import Derived.Test.YtkbpmopnphcfjaaHeadUse
import Derived.BigQuiet
namespace Go.Proofs.Ytkbpmopnphcfjaa.headSizes
open Go.ChangeShapes Go.WideShapes Go.ChangeAt Go.RowKit
open om mem oct hd head
set_option linter.unusedVariables false
set_option maxRecDepth 100000

set_option maxHeartbeats 4000000 in
theorem walk (w : World) (h : Hd) (hbd : Bd h) : Calls Try.prog 6 #[(.agg #[.int .i64 h.v, .int .i64 h.ut, .int .i64 h.sd, .int .i64 h.lp, .int .i64 h.tm, .int .i64 h.ty, .int .i64 h.ch])] w fun e w' => e = .returned (.bool true) ∧ Below w.heap.size w w' := by
  have SM := Lib.hid (fun W => small_at W)
  have RI := Lib.hid (fun W => right_at h W)
  have T := box_tells h w
  clear hbd
  by_cases hok : hd.okB h = true
  · have HK := ok_iff.1 hok
    rw [hok] at RI
    have z4 : sz h 4 = szv h 4 := sz_yes (szb_iff.2 ⟨HK, Or.inl rfl⟩)
    have z8 : sz h 8 = szv h 8 := sz_yes (szb_iff.2 ⟨HK, Or.inr rfl⟩)
    have S4 := Lib.hid (fun W => size_at h 4 W)
    have S8 := Lib.hid (fun W => size_at h 8 W)
    have M4 := Lib.hid (fun W x => size_at ⟨h.v, h.ut, h.sd, h.lp, h.tm, h.ty, x⟩ 4 W)
    rw [z4] at S4
    rw [z8] at S8
    obtain ⟨⟨a1, b1⟩, k2, k3, ⟨a4, b4⟩, ⟨a5, b5⟩, ⟨a6, b6⟩, a7, b7⟩ := HK
    clear z4 z8
    go_enter Try.func6, Try.ntmps6
    go_wp2_with (first
      | (go_at_call 8; (with_reducible refine (SM.out _).mono ?_); rintro e w1 ⟨rfl, hb1⟩; have HA1 := Lib.hid hb1; obtain ⟨c0, c1, c2, c3, c4, c5, c6, hb2, hs1⟩ := T.out _ hb1; clear hb1)
      | (go_at_call 13; (with_reducible refine (RI.out _).mono ?_); rintro e w2 ⟨rfl, hb1⟩; have HA2 := Lib.hid (btr HA1.out hb1); clear c0 c1 c2 c3 c4 c5 c6 hb2 hs1; obtain ⟨c0, c1, c2, c3, c4, c5, c6, hb2, hs1⟩ := T.out _ HA2.out; clear hb1)
      | (go_at_call 15; (with_reducible refine (S4.out _).mono ?_); rintro e w3 ⟨rfl, hb1⟩; have HA3 := Lib.hid (btr HA2.out hb1); clear c0 c1 c2 c3 c4 c5 c6 hb2 hs1; obtain ⟨c0, c1, c2, c3, c4, c5, c6, hb2, hs1⟩ := T.out _ HA3.out; clear hb1))
    have hx : 1 ≤ h.ch % 256 + 1 ∧ h.ch % 256 + 1 ≤ 256 := by omega
    have hM : sz ⟨h.v, h.ut, h.sd, h.lp, h.tm, h.ty, h.ch % 256 + 1⟩ 4 = szv ⟨h.v, h.ut, h.sd, h.lp, h.tm, h.ty, h.ch % 256 + 1⟩ 4 := sz_yes (szb_iff.2 ⟨⟨⟨a1, b1⟩, k2, k3, ⟨a4, b4⟩, ⟨a5, b5⟩, ⟨a6, b6⟩, hx.1, hx.2⟩, Or.inl rfl⟩)
    have M5 := Lib.hid (fun W => M4.out W (h.ch % 256 + 1))
    rw [hM] at M5
    clear M4 hM c0 c1 c2 c3 c4 c5 c6 hb2 hs1
    have HA7 := Lib.hid (bal HA3.out (.cells #[.int .i64 h.v, .int .i64 h.ut, .int .i64 h.sd, .int .i64 h.lp, .int .i64 h.tm, .int .i64 h.ty, .int .i64 (h.ch % 256 + 1)] 23))
    obtain ⟨c0, c1, c2, c3, c4, c5, c6, hb2, hs1⟩ := T.out _ HA7.out
    have BX := hp_new w3 (.cells #[.int .i64 h.v, .int .i64 h.ut, .int .i64 h.sd, .int .i64 h.lp, .int .i64 h.tm, .int .i64 h.ty, .int .i64 (h.ch % 256 + 1)] 23)
    have d0 := row_cell BX 0
    have d1 := row_cell BX 1
    have d2 := row_cell BX 2
    have d3 := row_cell BX 3
    have d4 := row_cell BX 4
    have d5 := row_cell BX 5
    have d6 := row_cell BX 6
    have HB := Lib.hid hb2
    have e4 : szv h 4 = h.tm * 5 + h.ty * 6 + h.ch + h.lp * 8 + h.sd + h.ut := rfl
    have e8 : szv h 8 = h.tm * 9 + h.ty * 6 + h.ch + h.lp * 12 + h.sd + h.ut := rfl
    have e5 : szv ⟨h.v, h.ut, h.sd, h.lp, h.tm, h.ty, h.ch % 256 + 1⟩ 4 = h.tm * 5 + h.ty * 6 + (h.ch % 256 + 1) + h.lp * 8 + h.sd + h.ut := rfl
    clear hb2 hs1 BX HA7 HA3 T SM RI hok S4
    generalize szv h 4 = N at *
    generalize szv h 8 = N8 at *
    generalize szv ⟨h.v, h.ut, h.sd, h.lp, h.tm, h.ty, h.ch % 256 + 1⟩ 4 = M at *
    generalize h.ch % 256 + 1 = X at *
    have q1 : IntKind.i64.wrap (4 * h.tm) = 4 * h.tm := IntWalk.i64_in _ (by omega)
    have q2 : IntKind.i64.wrap (N + 4 * h.tm) = N + 4 * h.tm := IntWalk.i64_in _ (by omega)
    have q3 : IntKind.i64.wrap (4 * h.lp) = 4 * h.lp := IntWalk.i64_in _ (by omega)
    have q4 : IntKind.i64.wrap (N + 4 * h.tm + 4 * h.lp) = N + 4 * h.tm + 4 * h.lp := IntWalk.i64_in _ (by omega)
    have q5 : (N8 == N + 4 * h.tm + 4 * h.lp) = true := by simp only [beq_iff_eq]; omega
    have q6 : decide (7 ≤ N) = true := by simp only [decide_eq_true_eq]; omega
    have q7 : IntKind.i64.wrap (N + X) = N + X := IntWalk.i64_in _ (by omega)
    have q8 : IntKind.i64.wrap (N + X - h.ch) = N + X - h.ch := IntWalk.i64_in _ (by omega)
    have q9 : (M == N + X - h.ch) = true := by simp only [beq_iff_eq]; omega
    clear e4 e8 e5 hx k2 k3 a1 b1 a4 b4 a5 b5 a6 b6 a7 b7
    generalize w3.alloc (.cells #[.int .i64 h.v, .int .i64 h.ut, .int .i64 h.sd, .int .i64 h.lp, .int .i64 h.tm, .int .i64 h.ty, .int .i64 X] 23) = W7 at *
    have XQ0 := Lib.hid (fun d' os => below_of S8.out W7 d' os)
    have XQ1 := Lib.hid (fun d' os => below_of M5.out W7 d' os)
    have cq0 := fun d' os => cell_regrown (w := W7) c0 d' os
    have cq1 := fun d' os => cell_regrown (w := W7) c1 d' os
    have cq2 := fun d' os => cell_regrown (w := W7) c2 d' os
    have cq3 := fun d' os => cell_regrown (w := W7) c3 d' os
    have cq4 := fun d' os => cell_regrown (w := W7) c4 d' os
    have cq5 := fun d' os => cell_regrown (w := W7) c5 d' os
    have cq6 := fun d' os => cell_regrown (w := W7) c6 d' os
    have dq0 := fun d' os => cell_regrown (w := W7) d0 d' os
    have dq1 := fun d' os => cell_regrown (w := W7) d1 d' os
    have dq2 := fun d' os => cell_regrown (w := W7) d2 d' os
    have dq3 := fun d' os => cell_regrown (w := W7) d3 d' os
    have dq4 := fun d' os => cell_regrown (w := W7) d4 d' os
    have dq5 := fun d' os => cell_regrown (w := W7) d5 d' os
    have dq6 := fun d' os => cell_regrown (w := W7) d6 d' os
    refine wp_region_quiet_below (by kernel_rfl) (by kernel_rfl) ?_
    repeat (quiet_step ((go_at_call 15; first | with_reducible exact XQ0.out _ _ | with_reducible exact XQ1.out _ _)))
    refine wpQuiet_nil ?_
    intro _ hw'
    obtain ⟨⟨dq, osq⟩, hw''⟩ := hw'
    subst hw''
    go_wp2
    go_ret
    exact ⟨rfl, btr HB.out (below_regrown _ dq osq)⟩
  · have hok' : hd.okB h = false := by simpa using hok
    have hz4 : szOk h 4 = false := by unfold szOk; rw [hok']; rfl
    have hz8 : szOk h 8 = false := by unfold szOk; rw [hok']; rfl
    have S4 := Lib.hid (fun W => size_at h 4 W)
    have S8 := Lib.hid (fun W => size_at h 8 W)
    rw [sz_no hz4] at S4
    rw [sz_no hz8] at S8
    rw [hok'] at RI
    clear hok hok' hz4 hz8
    go_enter Try.func6, Try.ntmps6
    go_wp2_with (first
      | (go_at_call 8; (with_reducible refine (SM.out _).mono ?_); rintro e w1 ⟨rfl, hb1⟩; have HA1 := Lib.hid hb1; obtain ⟨c0, c1, c2, c3, c4, c5, c6, hb2, hs1⟩ := T.out _ hb1; clear hb1)
      | (go_at_call 13; (with_reducible refine (RI.out _).mono ?_); rintro e w2 ⟨rfl, hb1⟩; have HA2 := Lib.hid (btr HA1.out hb1); clear c0 c1 c2 c3 c4 c5 c6 hb2 hs1; obtain ⟨c0, c1, c2, c3, c4, c5, c6, hb2, hs1⟩ := T.out _ HA2.out; clear hb1)
      | (go_at_call 15; first
          | ((with_reducible refine (S4.out _).mono ?_); rintro e w3 ⟨rfl, hb1⟩; have HA3 := Lib.hid (btr HA2.out hb1); clear c0 c1 c2 c3 c4 c5 c6 hb2 hs1; obtain ⟨c0, c1, c2, c3, c4, c5, c6, hb2, hs1⟩ := T.out _ HA3.out; clear hb1)
          | ((with_reducible refine (S8.out _).mono ?_); rintro e w4 ⟨rfl, hb1⟩; have HA4 := Lib.hid (btr HA3.out hb1); clear c0 c1 c2 c3 c4 c5 c6 hb2 hs1; clear hb1)))
    go_ret
    exact ⟨rfl, (T.out _ HA4.out).2.2.2.2.2.2.2.1⟩
set_option maxRecDepth 100000 in
theorem lifted (os : Os) (started : os.Started) (H : Type) (enc : TypeId × Value → H) :
    ReturnsInHanded {} Try.checked os 6 .any (Rows.headSizesSpec.pre6 enc Try.prog Try.f6 Rows.headSizesRow.domain false) (Rows.headSizesSpec.post enc Try.prog Try.f6 false true false false) := by
  refine returnsInHanded_of_change (C := Try.checked) law.own started (by kernel_rfl) Try.func6
    (ChangeSpec.witness6 (enc := enc) (C := Try.checked) false ⟨#[], #[.agg #[.int .i64 0, .int .i64 0, .int .i64 0, .int .i64 0, .int .i64 0, .int .i64 0, .int .i64 0]], []⟩ 8 (by kernel_rfl) (by kernel_rfl) (by kernel_rfl) (by kernel_rfl)) ?_
  intro W base args ds gs before hval0 hW hcnd _
  have hval : ∀ (j : Nat) t v, Try.f6.params[j]? = some t → args[j]? = some v → Value.okWide Try.prog W .any base t v := hval0
  have hW' := hW
  obtain ⟨p, q, hA0, hV, rfl, hfz, hnd⟩ := hW
  have hA : DataW.TrodAll enc Try.prog W 0 (fun _ => true) true Try.f6.params.toList args.toList ds p := hA0
  rw [Try.params6] at hA hval
  obtain ⟨v0, vs0, d0, ds0, p0, q0, hargs, rfl, rfl, h0, r0⟩ := trodAll_cons hA
  obtain ⟨rfl, rfl, rfl⟩ := trodAll_nil r0
  obtain rfl : args = #[v0] := by cases args; simp_all
  obtain ⟨rfl, rfl⟩ := trodVars_none hV
  clear hA0 hval0
  obtain ⟨z0_, rfl, b0_⟩ := head.open_head (hval 0 23 v0 rfl rfl) h0
  refine (Calls.mono (R := fun e w' => e = .returned (.bool true) ∧ Below W.heap.size W w') ?_ fun e W' ⟨he, hb⟩ => ?_)
  · exact walk W z0_ b0_
  · subst he
    exact ⟨_, rfl, law.post law.laidOut (by kernel_rfl) rfl rfl Try.underlying4 rfl hW' hb⟩

theorem over : Rows.headSizesRow.holds Try.pinned (OpenSpec.ofChange Rows.headSizesSpec) :=
  OpenClaim.holds_of_wide 6 Try.f6 rfl rfl rfl rfl rfl rfl rfl ⟨rfl, rfl, rfl, rfl, rfl⟩ rfl rfl rfl rfl rfl (by kernel_rfl) Try.func6 (by kernel_rfl)
    (of_decide_eq_true (by kernel_rfl)) (by unfold Func.isWrapper; first | (rw [if_pos (by decide +kernel)]; kernel_rfl) | (rw [if_neg (by decide +kernel)]; exact ⟨rfl, rfl⟩))
    (fun os started H enc _ => lifted os started H enc)

theorem proved : Rows.HeadSizesSaid := over
end Go.Proofs.Ytkbpmopnphcfjaa.headSizes
