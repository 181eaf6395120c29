/-
  FaultBack (the stage's theorem): what was made is what is told, asked or taken, and no error is nothing, for every fault. Condition: the row's own (the listed tables hold what their initialisers lay; the card ties that).
-/
import Derived.Test.YtbofjkneflobeaaDoorFaultLaw
import Derived.Test.YtbofjkneflobeaaDoorCards
import Derived.Test.YtbofjkneflobeaaDoorTie
import Derived.SevenTiedAt
namespace Go.Proofs.YtbofjkneflobeaaDoor.faultBack
open Go.ChangeShapes Go.WideShapes Go.ChangeAt Go.RowKit
open fault fx mem
set_option linter.unusedVariables false

set_option maxHeartbeats 4000000 in
theorem walk (l c : Int) (hf : Fit l c) (w : World) (T : Tb w) : Calls Tryd.prog 4 #[.agg #[.int .i64 l, .int .i64 c]] w fun e w' => e = .returned (.bool true) ∧ Below w.heap.size w w' := by
  have hb0 : Below w.heap.size w (w.alloc (.cells #[.int .i64 l, .int .i64 c] 24)) := bal (Below.refl _ _) _
  have SM := Lib.hid (small_at _ (T.below hb0))
  have G := Lib.hid (fun w1 (hb : Below (w.alloc (.cells #[.int .i64 l, .int .i64 c] 24)).heap.size (w.alloc (.cells #[.int .i64 l, .int .i64 c] 24)) w1) => kept (hp_new w (.cells #[.int .i64 l, .int .i64 c] 24)) hb)
  by_cases h : c = 0
  · subst h
    have N := Lib.hid (fun W => new_ok l W)
    have O := Lib.hid (fun W => of_nil W)
    have q0 := nil_nil
    clear T hf
    go_enter Tryd.func4, Tryd.ntmps4
    go_wp2_with (first
      | (go_at_call 7; (with_reducible refine SM.out.mono ?_); rintro e w1 ⟨rfl, hb1⟩; clear SM; have g0 := row_cell (G.out _ hb1); have hg := G.out _ hb1)
      | (go_at_call 9; with_reducible refine (N.out _).mono ?_; rintro e w' ⟨rfl, rfl⟩)
      | (go_at_call 13; with_reducible refine (O.out _).mono ?_; rintro e w2 ⟨rfl, hb2⟩; have g2 := fun ob => row_cell (hp_old (kept hg hb2) ob)))
    go_ret
    exact ⟨rfl, bal (btr (btr hb0 hb1) hb2) _⟩
  · have N := Lib.hid (fun W => new_err l c h W)
    have O := Lib.hid (fun W => of_some l c W)
    have t : (c == 0) = false := by simpa using h
    have q1 := is_nil
    clear h
    go_enter Tryd.func4, Tryd.ntmps4
    go_wp2_with (first
      | (go_at_call 7; (with_reducible refine SM.out.mono ?_); rintro e w1 ⟨rfl, hb1⟩; clear SM; have g0 := row_cell (G.out _ hb1); have hg := G.out _ hb1)
      | (go_at_call 9; with_reducible refine (N.out _).mono ?_; rintro e w' ⟨rfl, rfl⟩)
      | (go_at_call 13; with_reducible refine (O.out _).mono ?_; rintro e w2 ⟨rfl, hb2⟩; have g2 := fun ob => row_cell (hp_old (kept hg hb2) ob)))
    have hbW : Below w.heap.size w (w2.alloc (.cells #[.int .i64 l, .int .i64 c] 24)) := bal (btr (btr hb0 hb1) hb2) _
    have n2 := row_cell (hp_new w2 (.cells #[.int .i64 l, .int .i64 c] 24))
    have g2 := g2 (.cells #[.int .i64 l, .int .i64 c] 24)
    generalize hN : w2.heap.size = N2 at *
    clear g0 hg hb2
    generalize (w2.alloc (.cells #[.int .i64 l, .int .i64 c] 24)) = W3 at *
    have c0 : ∀ d' os, (Sort.grow (redrawn W3 d') os).cell? ⟨w.heap.size, 0, none⟩ = some (.int .i64 l) := fun d' os => cell_regrown (g2 0) d' os
    have c1 : ∀ d' os, (Sort.grow (redrawn W3 d') os).cell? ⟨w.heap.size, 1, none⟩ = some (.int .i64 c) := fun d' os => cell_regrown (g2 1) d' os
    have c2 : ∀ d' os, (Sort.grow (redrawn W3 d') os).cell? ⟨N2, 0, none⟩ = some (.int .i64 l) := fun d' os => cell_regrown (n2 0) d' os
    have c3 : ∀ d' os, (Sort.grow (redrawn W3 d') os).cell? ⟨N2, 1, none⟩ = some (.int .i64 c) := fun d' os => cell_regrown (n2 1) d' os
    have X := Lib.hid (fun d' os => below_at (text_at l c hf) (fun W hb => T.below (btr hbW hb)) d' os)
    have E := Lib.hid (fun d' os => below_at (error_at l c hf) (fun W hb => T.below (btr hbW hb)) d' os)
    have M := Lib.hid (fun d' os => below_of (fun W => must_some l c W) W3 d' os)
    have me := meth
    have q := eqF l c l c
    clear g2 n2 T hf
    refine wp_region_quiet_below (by kernel_rfl) (by kernel_rfl) ?_
    repeat (quiet_step (first
      | (go_at_call 10; with_reducible exact X.out _ _)
      | (go_at_call 14; with_reducible exact M.out _ _)
      | (go_at_call 46; with_reducible exact E.out _ _)))
    refine wpQuiet_nil ?_
    intro _ hw'
    obtain ⟨⟨dq, osq⟩, hw''⟩ := hw'
    subst hw''
    have hbz := btr hbW (below_regrown _ dq osq)
    generalize Sort.grow (redrawn W3 dq) osq = W7 at *
    clear q q1 me
    go_wp2
    go_ret
    exact ⟨ret_bool (by first | rfl | simp), hbz⟩
theorem door_met (os : Os) (args : Array Value) : laidMetH Tryd.prog Rows.faultBackRow.laid ((World.doorLaid Tryd.prog 400 os).forCall (fun _ _ => 0) ⟨#[], args, []⟩).memory :=
  laidMetH_of_parts3 (fuel := 8) (laidMet_of_run' 8 (by kernel_rfl) (by kernel_rfl)) (by kernel_rfl) (by kernel_rfl)
set_option maxRecDepth 100000 in
theorem lifted (os : Os) (started : os.Started) (H : Type) (enc : TypeId × Value → H) :
    ReturnsInHanded {} Tryd.checked os 4 .any (fun w args => (Rows.faultBackSpec.pre enc Tryd.prog Tryd.f4 [] false w args ∧ laidMetH Tryd.prog Rows.faultBackRow.laid w) ∧ sizedMet enc Tryd.prog Tryd.f4 (OpenSpec.ofChange Rows.faultBackSpec) false w args)
      (Rows.faultBackSpec.post enc Tryd.prog Tryd.f4 false true false false) := by
  refine returnsInHanded_of_change_and (C := Tryd.checked) (X := fun w _ => laidMetH Tryd.prog Rows.faultBackRow.laid w) (fun _ _ _ hh h => h.of_heap hh) law.own started (by kernel_rfl) Tryd.func4
    (ChangeSpec.witness_shaped (enc := enc) (C := Tryd.checked) (os := os) (X := fun w _ => laidMetH Tryd.prog Rows.faultBackRow.laid w) false (World.doorLaid Tryd.prog 400 os) #[.agg #[.int .i64 0, .int .i64 0]] 8 rfl (World.shaped_of_RefB (by kernel_rfl) (by kernel_rfl)) (by kernel_rfl) (by kernel_rfl) (by kernel_rfl) (door_met os _)) ?_
  intro W base args ds gs before hval0 hW _ _ hL _
  rw [MakeChecks.laidMetH_plain _ _ _ (by kernel_rfl)] at hL
  have T0 := fault.tb_of hL (by repeat first | exact List.Mem.head _ | refine List.Mem.tail _ ?_) (by repeat first | exact List.Mem.head _ | refine List.Mem.tail _ ?_)
  have hval : ∀ (j : Nat) t v, Tryd.f4.params[j]? = some t → args[j]? = some v → Value.okWide Tryd.prog W .any base t v := hval0
  have hW' := hW
  obtain ⟨p, q, hA0, hV, rfl, hfz, hnd⟩ := hW
  have hA : DataW.TrodAll enc Tryd.prog W 0 (fun _ => true) true Tryd.f4.params.toList args.toList ds p := hA0
  rw [Tryd.params4] at hA hval
  obtain ⟨v0, vs0, d0, ds0, p0, q0, hargs, rfl, rfl, h0, r0⟩ := trodAll_cons hA
  obtain ⟨rfl, rfl, rfl⟩ := trodAll_nil r0
  obtain rfl : args = #[v0] := by cases args; simp_all
  obtain ⟨rfl, rfl⟩ := trodVars_none hV
  clear hA0 hval0
  obtain ⟨l0_, c0_, rfl, f0_⟩ := fault.open_fault (hval 0 24 v0 rfl rfl) h0
  refine (Calls.mono (R := fun e w' => e = .returned (.bool true) ∧ Below W.heap.size W w') ?_ fun e W' ⟨he, hb⟩ => ?_)
  · exact walk _ _ f0_ W T0
  · subst he
    exact ⟨_, rfl, law.post law.laidOut (by kernel_rfl) rfl rfl Tryd.underlying4 rfl hW' hb⟩

theorem over : Rows.faultBackRow.holds Tryd.pinned (OpenSpec.ofChange Rows.faultBackSpec) :=
  OpenClaim.holds_of_wide 4 Tryd.f4 rfl rfl rfl rfl rfl rfl rfl ⟨rfl, rfl, rfl, rfl, rfl⟩ rfl rfl rfl rfl rfl (by kernel_rfl) Tryd.func4 (by kernel_rfl)
    (of_decide_eq_true (by kernel_rfl)) (by unfold Func.isWrapper; first | (rw [if_pos (by decide +kernel)]; kernel_rfl) | (rw [if_neg (by decide +kernel)]; exact ⟨rfl, rfl⟩))
    (fun os started H enc _ => lifted os started H enc)

theorem proved : Rows.FaultBackCardSaid :=
  Claim7.holds_tied_plain_at .later [] _ _ _ _ over (fun _ h => by cases h) (by kernel_rfl) (fun _ h => by cases h) faultBack_row_tie rfl ⟨rfl, rfl⟩ (by kernel_rfl) rfl
    (fun f fn hf hfn => by
      obtain rfl : f = 4 := Option.some.inj ((show Tryd.prog.funcNamed "epact/epactlaw08.FaultBack" = some 4 by kernel_rfl).symm.trans hf) |>.symm
      obtain rfl : fn = Tryd.f4 := (Option.some.inj (Tryd.func4.symm.trans hfn)).symm
      exact ⟨by kernel_rfl, fun j t ht => by
        have hall : (Tryd.f4.params.toList.all fun u => !Tryd.prog.wantsStandIn u) = true := by kernel_rfl
        have hm : t ∈ Tryd.f4.params.toList := by rw [Array.mem_toList_iff]; exact Array.mem_of_getElem? ht
        exact (show Tryd.prog.wantsStandIn t = false by simpa using List.all_eq_true.1 hall t hm)⟩)
    (by kernel_rfl)
end Go.Proofs.YtbofjkneflobeaaDoor.faultBack
