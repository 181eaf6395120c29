/-
  FaultTells: package fault answers as the document's own answers do, for every fault and every row of faults. Condition: the row's own (the listed tables hold what their initialisers lay; the card ties that).
-/
import Derived.Test.YtbofjkneflobeaaDoorFaultLaw
import Derived.Test.YtbofjkneflobeaaDoorRef08Text
import Derived.Test.YtbofjkneflobeaaDoorRef08First
import Derived.Test.YtbofjkneflobeaaDoorCards
import Derived.Test.YtbofjkneflobeaaDoorTie
import Derived.SevenTiedAt
namespace Go.Proofs.YtbofjkneflobeaaDoor.faultTells
open Go.ChangeShapes Go.WideShapes Go.ChangeAt Go.RowKit
open fault fx mem
set_option linter.unusedVariables false

set_option maxHeartbeats 4000000 in
theorem walk (w : World) (l c : Int) (hf : Fit l c) (A : Option Addr) (k : Nat) (fl : List Flt) (hl : Flts w A fl) (hn : fl.length ≤ 9223372036854775807) (T : Tb w) : Calls Tryd.prog 3 #[.agg #[.int .i64 l, .int .i64 c], .slice A fl.length k] w fun e w' => e = .returned (.bool true) ∧ Below w.heap.size w w' := by
  have hb0 : Below w.heap.size w (w.alloc (.cells #[.int .i64 l, .int .i64 c] 24)) := bal (Below.refl _ _) _
  have SM := Lib.hid (small_at _ (T.below hb0))
  have G := Lib.hid (fun w1 (hb : Below (w.alloc (.cells #[.int .i64 l, .int .i64 c] 24)).heap.size (w.alloc (.cells #[.int .i64 l, .int .i64 c] 24)) w1) => kept (hp_new w (.cells #[.int .i64 l, .int .i64 c] 24)) hb)
  by_cases hs : 100 < fl.length
  · clear T hf hl
    go_enter Tryd.func3, Tryd.ntmps3
    go_wp2_with (go_at_call 7; (with_reducible refine SM.out.mono ?_); rintro e w1 ⟨rfl, hb1⟩; clear SM)
    go_ret
    exact ⟨rfl, btr hb0 hb1⟩
  have hs' : fl.length ≤ 100 := by omega
  clear hs
  have RT := Lib.hid (fun W => ref08.text_at l c hf.1 hf.2 W W (Below.refl _ _))
  have EE := Lib.hid (fun W hb => error_at l c hf W (T.below hb))
  have FI := Lib.hid (fun W hb => first_at fl A k W (hl.below hb) hn)
  have RF := Lib.hid (fun W hb => ref08.first_at fl A k W (hl.below hb) hn)
  have XX := Lib.hid (fun W hb => text_at l c hf W (T.below hb))
  have EQ := Lib.hid (eqF (first fl).1 (first fl).2 (first fl).1 (first fl).2)
  unfold fc at FI RF
  generalize (first fl).1 = p1 at *
  generalize (first fl).2 = p2 at *
  generalize txt l c = s at *
  by_cases h : c = 0
  · subst h
    have N := Lib.hid (fun W => new_ok l W)
    have q0 := nil_nil
    clear T hf hl
    go_enter Tryd.func3, Tryd.ntmps3
    go_wp2_with (first
      | (go_at_call 7; (with_reducible refine SM.out.mono ?_); rintro e w1 ⟨rfl, hb1⟩; clear SM; have g0 := row_cell (G.out _ hb1); have hg := G.out _ hb1)
      | (go_at_call 8; with_reducible refine (RT.out _).mono ?_; rintro e w2 ⟨rfl, hb2⟩; have g2 := row_cell (kept hg hb2))
      | (go_at_call 9; with_reducible refine (N.out _).mono ?_; rintro e w' ⟨rfl, rfl⟩))
    have hbW := btr (btr hb0 hb1) hb2
    have c0 : ∀ d' os, (Sort.grow (redrawn w2 d') os).cell? ⟨w.heap.size, 0, none⟩ = some (.int .i64 l) := fun d' os => cell_regrown (g2 0) d' os
    have c1 : ∀ d' os, (Sort.grow (redrawn w2 d') os).cell? ⟨w.heap.size, 1, none⟩ = some (.int .i64 0) := fun d' os => cell_regrown (g2 1) d' os
    have X := Lib.hid (fun d' os => below_at (T := fun W => Below w.heap.size w W) XX.out (fun W hb => btr hbW hb) d' os)
    have F1 := Lib.hid (fun d' os => below_at (T := fun W => Below w.heap.size w W) FI.out (fun W hb => btr hbW hb) d' os)
    have F2 := Lib.hid (fun d' os => below_at (T := fun W => Below w.heap.size w W) RF.out (fun W hb => btr hbW hb) d' os)
    have q := EQ.out
    clear g0 g2 hg hb1 hb2 hb0
    refine wp_region_quiet_below (by kernel_rfl) (by kernel_rfl) ?_
    repeat (quiet_step (first
      | (go_at_call 10; with_reducible exact X.out _ _)
      | (go_at_call 11; with_reducible exact F1.out _ _)
      | (go_at_call 12; with_reducible exact F2.out _ _)))
    refine wpQuiet_nil ?_
    intro _ hw'
    obtain ⟨⟨dq, osq⟩, hw''⟩ := hw'
    subst hw''
    have hbz := btr hbW (below_regrown _ dq osq)
    generalize Sort.grow (redrawn w2 dq) osq = W7 at *
    clear q q0
    go_wp2
    go_ret
    exact ⟨ret_bool (by first | rfl | simp), hbz⟩
  · have N := Lib.hid (fun W => new_err l c h W)
    have q1 := is_nil
    have t : (c == 0) = false := by simpa using h
    have t2 : (c != 0) = true := by simpa using h
    have me := meth
    clear T hf hl h
    go_enter Tryd.func3, Tryd.ntmps3
    go_wp2_with (first
      | (go_at_call 7; (with_reducible refine SM.out.mono ?_); rintro e w1 ⟨rfl, hb1⟩; clear SM; have g0 := row_cell (G.out _ hb1); have hg := G.out _ hb1)
      | (go_at_call 8; with_reducible refine (RT.out _).mono ?_; rintro e w2 ⟨rfl, hb2⟩; have g2 := row_cell (kept hg hb2); have hg2 := kept hg hb2)
      | (go_at_call 46; with_reducible refine (EE.out _ (btr (btr hb0 hb1) hb2)).mono ?_; rintro e w3 ⟨rfl, hb3⟩; have g3 := row_cell (kept hg2 hb3))
      | (go_at_call 9; with_reducible refine (N.out _).mono ?_; rintro e w' ⟨rfl, rfl⟩))
    have hbW := btr (btr (btr hb0 hb1) hb2) hb3
    have c0 : ∀ d' os, (Sort.grow (redrawn w3 d') os).cell? ⟨w.heap.size, 0, none⟩ = some (.int .i64 l) := fun d' os => cell_regrown (g3 0) d' os
    have c1 : ∀ d' os, (Sort.grow (redrawn w3 d') os).cell? ⟨w.heap.size, 1, none⟩ = some (.int .i64 c) := fun d' os => cell_regrown (g3 1) d' os
    have X := Lib.hid (fun d' os => below_at (T := fun W => Below w.heap.size w W) XX.out (fun W hb => btr hbW hb) d' os)
    have F1 := Lib.hid (fun d' os => below_at (T := fun W => Below w.heap.size w W) FI.out (fun W hb => btr hbW hb) d' os)
    have F2 := Lib.hid (fun d' os => below_at (T := fun W => Below w.heap.size w W) RF.out (fun W hb => btr hbW hb) d' os)
    have q := EQ.out
    clear g0 g2 g3 hg hg2 hb1 hb2 hb3 hb0
    refine wp_region_quiet_below (by kernel_rfl) (by kernel_rfl) ?_
    repeat (quiet_step (first
      | (go_at_call 10; with_reducible exact X.out _ _)
      | (go_at_call 11; with_reducible exact F1.out _ _)
      | (go_at_call 12; with_reducible exact F2.out _ _)))
    refine wpQuiet_nil ?_
    intro _ hw'
    obtain ⟨⟨dq, osq⟩, hw''⟩ := hw'
    subst hw''
    have hbz := btr hbW (below_regrown _ dq osq)
    generalize Sort.grow (redrawn w3 dq) osq = W7 at *
    clear q q1 me
    go_wp2
    go_ret
    exact ⟨ret_bool (by first | rfl | simp), hbz⟩
theorem door_met (os : Os) (args : Array Value) : laidMetH Tryd.prog Rows.faultTellsRow.laid ((World.doorLaid Tryd.prog 400 os).forCall (fun _ _ => 0) ⟨#[], args, []⟩).memory :=
  laidMetH_of_parts3 (fuel := 8) (laidMet_of_run' 8 (by kernel_rfl) (by kernel_rfl)) (by kernel_rfl) (by kernel_rfl)
set_option maxRecDepth 100000 in
theorem lifted (os : Os) (started : os.Started) (H : Type) (enc : TypeId × Value → H) :
    ReturnsInHanded {} Tryd.checked os 3 .any (fun w args => (Rows.faultTellsSpec.pre enc Tryd.prog Tryd.f3 [] false w args ∧ laidMetH Tryd.prog Rows.faultTellsRow.laid w) ∧ sizedMet enc Tryd.prog Tryd.f3 (OpenSpec.ofChange Rows.faultTellsSpec) false w args)
      (Rows.faultTellsSpec.post enc Tryd.prog Tryd.f3 false true false false) := by
  refine returnsInHanded_of_change_and (C := Tryd.checked) (X := fun w _ => laidMetH Tryd.prog Rows.faultTellsRow.laid w) (fun _ _ _ hh h => h.of_heap hh) law.own started (by kernel_rfl) Tryd.func3
    (ChangeSpec.witness_shaped (enc := enc) (C := Tryd.checked) (os := os) (X := fun w _ => laidMetH Tryd.prog Rows.faultTellsRow.laid w) false (World.doorLaid Tryd.prog 400 os) #[.agg #[.int .i64 0, .int .i64 0], .slice none 0 0] 8 rfl (World.shaped_of_RefB (by kernel_rfl) (by kernel_rfl)) (by kernel_rfl) (by kernel_rfl) (by kernel_rfl) (door_met os _)) ?_
  intro W base args ds gs before hval0 hW _ _ hL _
  rw [MakeChecks.laidMetH_plain _ _ _ (by kernel_rfl)] at hL
  have T0 := fault.tb_of hL (by repeat first | exact List.Mem.head _ | refine List.Mem.tail _ ?_) (by repeat first | exact List.Mem.head _ | refine List.Mem.tail _ ?_)
  have hval : ∀ (j : Nat) t v, Tryd.f3.params[j]? = some t → args[j]? = some v → Value.okWide Tryd.prog W .any base t v := hval0
  have hW' := hW
  obtain ⟨p, q, hA0, hV, rfl, hfz, hnd⟩ := hW
  have hA : DataW.TrodAll enc Tryd.prog W 0 (fun _ => true) true Tryd.f3.params.toList args.toList ds p := hA0
  rw [Tryd.params3] at hA hval
  obtain ⟨v0, vs0, d0, ds0, p0, q0, hargs, rfl, rfl, h0, r0⟩ := trodAll_cons hA
  obtain ⟨v1, vs1, d1, ds1, p1, q1, rfl, rfl, rfl, h1, r1⟩ := trodAll_cons r0
  obtain ⟨rfl, rfl, rfl⟩ := trodAll_nil r1
  obtain rfl : args = #[v0, v1] := by cases args; simp_all
  obtain ⟨rfl, rfl⟩ := trodVars_none hV
  clear hA0 hval0
  obtain ⟨l0_, c0_, rfl, f0_⟩ := fault.open_fault (hval 0 24 v0 rfl rfl) h0
  refine (Calls.mono (R := fun e w' => e = .returned (.bool true) ∧ Below W.heap.size W w') ?_ fun e W' ⟨he, hb⟩ => ?_)
  · obtain ⟨A1_, k1_, l1_, rfl, f1_, n1_⟩ := fault.open_faults (hval 1 25 v1 rfl rfl) h1
    exact walk W _ _ f0_ _ _ _ f1_ n1_ T0
  · subst he
    exact ⟨_, rfl, law.post law.laidOut (by kernel_rfl) rfl rfl Tryd.underlying4 rfl hW' hb⟩

theorem over : Rows.faultTellsRow.holds Tryd.pinned (OpenSpec.ofChange Rows.faultTellsSpec) :=
  OpenClaim.holds_of_wide 3 Tryd.f3 rfl rfl rfl rfl rfl rfl rfl ⟨rfl, rfl, rfl, rfl, rfl⟩ rfl rfl rfl rfl rfl (by kernel_rfl) Tryd.func3 (by kernel_rfl)
    (of_decide_eq_true (by kernel_rfl)) (by unfold Func.isWrapper; first | (rw [if_pos (by decide +kernel)]; kernel_rfl) | (rw [if_neg (by decide +kernel)]; exact ⟨rfl, rfl⟩))
    (fun os started H enc _ => lifted os started H enc)

theorem proved : Rows.FaultTellsCardSaid :=
  Claim7.holds_tied_plain_at .later [] _ _ _ _ over (fun _ h => by cases h) (by kernel_rfl) (fun _ h => by cases h) faultTells_row_tie rfl ⟨rfl, rfl⟩ (by kernel_rfl) rfl
    (fun f fn hf hfn => by
      obtain rfl : f = 3 := Option.some.inj ((show Tryd.prog.funcNamed "epact/epactlaw08.FaultTells" = some 3 by kernel_rfl).symm.trans hf) |>.symm
      obtain rfl : fn = Tryd.f3 := (Option.some.inj (Tryd.func3.symm.trans hfn)).symm
      exact ⟨by kernel_rfl, fun j t ht => by
        have hall : (Tryd.f3.params.toList.all fun u => !Tryd.prog.wantsStandIn u) = true := by kernel_rfl
        have hm : t ∈ Tryd.f3.params.toList := by rw [Array.mem_toList_iff]; exact Array.mem_of_getElem? ht
        exact (show Tryd.prog.wantsStandIn t = false by simpa using List.all_eq_true.1 hall t hm)⟩)
    (by kernel_rfl)
end Go.Proofs.YtbofjkneflobeaaDoor.faultTells
