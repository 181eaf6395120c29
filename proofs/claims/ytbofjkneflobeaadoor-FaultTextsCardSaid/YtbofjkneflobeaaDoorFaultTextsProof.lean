/-
  FaultTexts: faults of unlike lines, or unlike known errors, have unlike texts, for every two faults. Condition: the row's own (the listed tables hold what their initialisers lay; the card ties that).
-/
import Derived.Test.YtbofjkneflobeaaDoorFaultLaw
import Derived.Test.YtbofjkneflobeaaDoorCards
import Derived.Test.YtbofjkneflobeaaDoorTie
import Derived.SevenTiedAt
namespace Go.Proofs.YtbofjkneflobeaaDoor.faultTexts
open Go.ChangeShapes Go.WideShapes Go.ChangeAt Go.RowKit
open fault fx mem
set_option linter.unusedVariables false

set_option maxHeartbeats 4000000 in
theorem walk (l c : Int) (hf : Fit l c) (m d : Int) (hg : Fit m d) (w : World) (T : Tb w) : Calls Tryd.prog 6 #[.agg #[.int .i64 l, .int .i64 c], .agg #[.int .i64 m, .int .i64 d]] w fun e w' => e = .returned (.bool true) ∧ Below w.heap.size w w' := by
  have hb0 : Below w.heap.size w ((w.alloc (.cells #[.int .i64 l, .int .i64 c] 24)).alloc (.cells #[.int .i64 m, .int .i64 d] 24)) := bal (bal (Below.refl _ _) _) _
  have SM := Lib.hid (small_at _ (T.below hb0))
  by_cases k : 1 ≤ c ∧ c ≤ 11 ∧ 1 ≤ d ∧ d ≤ 11
  · obtain ⟨k1, k2, k3, k4⟩ := k
    have G0 := fun w1 (hb : Below ((w.alloc (.cells #[.int .i64 l, .int .i64 c] 24)).alloc (.cells #[.int .i64 m, .int .i64 d] 24)).heap.size ((w.alloc (.cells #[.int .i64 l, .int .i64 c] 24)).alloc (.cells #[.int .i64 m, .int .i64 d] 24)) w1) => kept (hp_old (hp_new w (.cells #[.int .i64 l, .int .i64 c] 24)) (.cells #[.int .i64 m, .int .i64 d] 24)) hb
    have G1 := fun w1 (hb : Below ((w.alloc (.cells #[.int .i64 l, .int .i64 c] 24)).alloc (.cells #[.int .i64 m, .int .i64 d] 24)).heap.size ((w.alloc (.cells #[.int .i64 l, .int .i64 c] 24)).alloc (.cells #[.int .i64 m, .int .i64 d] 24)) w1) => kept (hp_new1 w (.cells #[.int .i64 l, .int .i64 c] 24) (.cells #[.int .i64 m, .int .i64 d] 24)) hb
    have G0 := Lib.hid G0
    have G1 := Lib.hid G1
    go_enter Tryd.func6, Tryd.ntmps6
    go_wp2_with (go_at_call 7; (with_reducible refine SM.out.mono ?_); rintro e w1 ⟨rfl, hb1⟩; clear SM; have g0 := row_cell (G0.out _ hb1); have g1 := row_cell (G1.out _ hb1))
    have hbW := btr hb0 hb1
    have c0 : ∀ d' os, (Sort.grow (redrawn w1 d') os).cell? ⟨w.heap.size, 0, none⟩ = some (.int .i64 l) := fun d' os => cell_regrown (g0 0) d' os
    have c1 : ∀ d' os, (Sort.grow (redrawn w1 d') os).cell? ⟨w.heap.size, 1, none⟩ = some (.int .i64 c) := fun d' os => cell_regrown (g0 1) d' os
    have c2 : ∀ d' os, (Sort.grow (redrawn w1 d') os).cell? ⟨w.heap.size + 1, 0, none⟩ = some (.int .i64 m) := fun d' os => cell_regrown (g1 0) d' os
    have c3 : ∀ d' os, (Sort.grow (redrawn w1 d') os).cell? ⟨w.heap.size + 1, 1, none⟩ = some (.int .i64 d) := fun d' os => cell_regrown (g1 1) d' os
    have X1 := Lib.hid (fun d' os => below_at (text_at l c hf) (fun W hb => T.below (btr hbW hb)) d' os)
    have X2 := Lib.hid (fun d' os => below_at (text_at m d hg) (fun W hb => T.below (btr hbW hb)) d' os)
    have E := Lib.hid (txt_beq (l := l) (m := m) k1 k2 k3 k4)
    generalize txt l c = s at *
    generalize txt m d = t at *
    clear g0 g1 hb1 hb0 G0 G1 T hf hg
    have q := eqF l c m d
    refine wp_region_quiet_below (by kernel_rfl) (by kernel_rfl) ?_
    repeat (quiet_step ((go_at_call 10; first | with_reducible exact X1.out _ _ | with_reducible exact X2.out _ _)))
    refine wpQuiet_nil ?_
    intro _ hw'
    obtain ⟨⟨dq, osq⟩, hw''⟩ := hw'
    subst hw''
    have hbz := btr hbW (below_regrown _ dq osq)
    generalize Sort.grow (redrawn w1 dq) osq = W7 at *
    clear q
    go_wp2
    go_ret
    refine ⟨ret_bool ?_, hbz⟩
    rw [beq_s, beq_iff_eq, Bool.eq_iff_iff, decide_eq_true_iff, Bool.and_eq_true, beq_iff_eq, beq_iff_eq]
    exact E.out
  · have G0 := fun w1 (hb : Below ((w.alloc (.cells #[.int .i64 l, .int .i64 c] 24)).alloc (.cells #[.int .i64 m, .int .i64 d] 24)).heap.size ((w.alloc (.cells #[.int .i64 l, .int .i64 c] 24)).alloc (.cells #[.int .i64 m, .int .i64 d] 24)) w1) => kept (hp_old (hp_new w (.cells #[.int .i64 l, .int .i64 c] 24)) (.cells #[.int .i64 m, .int .i64 d] 24)) hb
    have G1 := fun w1 (hb : Below ((w.alloc (.cells #[.int .i64 l, .int .i64 c] 24)).alloc (.cells #[.int .i64 m, .int .i64 d] 24)).heap.size ((w.alloc (.cells #[.int .i64 l, .int .i64 c] 24)).alloc (.cells #[.int .i64 m, .int .i64 d] 24)) w1) => kept (hp_new1 w (.cells #[.int .i64 l, .int .i64 c] 24) (.cells #[.int .i64 m, .int .i64 d] 24)) hb
    have G0 := Lib.hid G0
    have G1 := Lib.hid G1
    have k2 : (decide (c < 1) || decide (11 < c) || decide (d < 1) || decide (11 < d)) = true := by simp; omega
    clear k T hf hg
    go_enter Tryd.func6, Tryd.ntmps6
    go_wp2_with (go_at_call 7; (with_reducible refine SM.out.mono ?_); rintro e w1 ⟨rfl, hb1⟩; clear SM; have g0 := row_cell (G0.out _ hb1); have g1 := row_cell (G1.out _ hb1))
    all_goals
      go_ret
      exact ⟨rfl, btr hb0 hb1⟩
theorem door_met (os : Os) (args : Array Value) : laidMetH Tryd.prog Rows.faultTextsRow.laid ((World.doorLaid Tryd.prog 400 os).forCall (fun _ _ => 0) ⟨#[], args, []⟩).memory :=
  laidMetH_of_parts3 (fuel := 8) (laidMet_of_run' 8 (by kernel_rfl) (by kernel_rfl)) (by kernel_rfl) (by kernel_rfl)
set_option maxRecDepth 100000 in
theorem lifted (os : Os) (started : os.Started) (H : Type) (enc : TypeId × Value → H) :
    ReturnsInHanded {} Tryd.checked os 6 .any (fun w args => (Rows.faultTextsSpec.pre enc Tryd.prog Tryd.f6 [] false w args ∧ laidMetH Tryd.prog Rows.faultTextsRow.laid w) ∧ sizedMet enc Tryd.prog Tryd.f6 (OpenSpec.ofChange Rows.faultTextsSpec) false w args)
      (Rows.faultTextsSpec.post enc Tryd.prog Tryd.f6 false true false false) := by
  refine returnsInHanded_of_change_and (C := Tryd.checked) (X := fun w _ => laidMetH Tryd.prog Rows.faultTextsRow.laid w) (fun _ _ _ hh h => h.of_heap hh) law.own started (by kernel_rfl) Tryd.func6
    (ChangeSpec.witness_shaped (enc := enc) (C := Tryd.checked) (os := os) (X := fun w _ => laidMetH Tryd.prog Rows.faultTextsRow.laid w) false (World.doorLaid Tryd.prog 400 os) #[.agg #[.int .i64 0, .int .i64 0], .agg #[.int .i64 0, .int .i64 0]] 8 rfl (World.shaped_of_RefB (by kernel_rfl) (by kernel_rfl)) (by kernel_rfl) (by kernel_rfl) (by kernel_rfl) (door_met os _)) ?_
  intro W base args ds gs before hval0 hW _ _ hL _
  rw [MakeChecks.laidMetH_plain _ _ _ (by kernel_rfl)] at hL
  have T0 := fault.tb_of hL (by repeat first | exact List.Mem.head _ | refine List.Mem.tail _ ?_) (by repeat first | exact List.Mem.head _ | refine List.Mem.tail _ ?_)
  have hval : ∀ (j : Nat) t v, Tryd.f6.params[j]? = some t → args[j]? = some v → Value.okWide Tryd.prog W .any base t v := hval0
  have hW' := hW
  obtain ⟨p, q, hA0, hV, rfl, hfz, hnd⟩ := hW
  have hA : DataW.TrodAll enc Tryd.prog W 0 (fun _ => true) true Tryd.f6.params.toList args.toList ds p := hA0
  rw [Tryd.params6] at hA hval
  obtain ⟨v0, vs0, d0, ds0, p0, q0, hargs, rfl, rfl, h0, r0⟩ := trodAll_cons hA
  obtain ⟨v1, vs1, d1, ds1, p1, q1, rfl, rfl, rfl, h1, r1⟩ := trodAll_cons r0
  obtain ⟨rfl, rfl, rfl⟩ := trodAll_nil r1
  obtain rfl : args = #[v0, v1] := by cases args; simp_all
  obtain ⟨rfl, rfl⟩ := trodVars_none hV
  clear hA0 hval0
  obtain ⟨l0_, c0_, rfl, f0_⟩ := fault.open_fault (hval 0 24 v0 rfl rfl) h0
  obtain ⟨l1_, c1_, rfl, f1_⟩ := fault.open_fault (hval 1 24 v1 rfl rfl) h1
  refine (Calls.mono (R := fun e w' => e = .returned (.bool true) ∧ Below W.heap.size W w') ?_ fun e W' ⟨he, hb⟩ => ?_)
  · exact walk _ _ f0_ _ _ f1_ W T0
  · subst he
    exact ⟨_, rfl, law.post law.laidOut (by kernel_rfl) rfl rfl Tryd.underlying4 rfl hW' hb⟩

theorem over : Rows.faultTextsRow.holds Tryd.pinned (OpenSpec.ofChange Rows.faultTextsSpec) :=
  OpenClaim.holds_of_wide 6 Tryd.f6 rfl rfl rfl rfl rfl rfl rfl ⟨rfl, rfl, rfl, rfl, rfl⟩ rfl rfl rfl rfl rfl (by kernel_rfl) Tryd.func6 (by kernel_rfl)
    (of_decide_eq_true (by kernel_rfl)) (by unfold Func.isWrapper; first | (rw [if_pos (by decide +kernel)]; kernel_rfl) | (rw [if_neg (by decide +kernel)]; exact ⟨rfl, rfl⟩))
    (fun os started H enc _ => lifted os started H enc)

theorem proved : Rows.FaultTextsCardSaid :=
  Claim7.holds_tied_plain_at .later [] _ _ _ _ over (fun _ h => by cases h) (by kernel_rfl) (fun _ h => by cases h) faultTexts_row_tie rfl ⟨rfl, rfl⟩ (by kernel_rfl) rfl
    (fun f fn hf hfn => by
      obtain rfl : f = 6 := Option.some.inj ((show Tryd.prog.funcNamed "epact/epactlaw08.FaultTexts" = some 6 by kernel_rfl).symm.trans hf) |>.symm
      obtain rfl : fn = Tryd.f6 := (Option.some.inj (Tryd.func6.symm.trans hfn)).symm
      exact ⟨by kernel_rfl, fun j t ht => by
        have hall : (Tryd.f6.params.toList.all fun u => !Tryd.prog.wantsStandIn u) = true := by kernel_rfl
        have hm : t ∈ Tryd.f6.params.toList := by rw [Array.mem_toList_iff]; exact Array.mem_of_getElem? ht
        exact (show Tryd.prog.wantsStandIn t = false by simpa using List.all_eq_true.1 hall t hm)⟩)
    (by kernel_rfl)
end Go.Proofs.YtbofjkneflobeaaDoor.faultTexts
