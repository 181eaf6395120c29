/-
  FaultFirst: the first fault is one of them, none is ahead of it, and those that are OK do not count, for every row of faults. Condition: the row's own (the listed tables hold what their initialisers lay; the card ties that).
-/
import Derived.Test.YtbofjkneflobeaaDoorFaultLaw
import Derived.Test.YtbofjkneflobeaaDoorFaultRows
import Derived.Test.YtbofjkneflobeaaDoorCards
import Derived.Test.YtbofjkneflobeaaDoorTie
import Derived.SevenTiedAt
namespace Go.Proofs.YtbofjkneflobeaaDoor.faultFirst
open Go.ChangeShapes Go.WideShapes Go.ChangeAt Go.RowKit
open fault fx mem
set_option linter.unusedVariables false

/-- at the head of a round. -/
def LHead (fl : List Flt) (W0 : World) (h v i : Value) (W : World) : Prop :=
  ∃ (k : Nat) (x : Value), k ≤ fl.length ∧ i = .int .i64 (k : Nat) ∧ h = .bool (had fl k) ∧ x = v ∧ W.ownsRow W0.heap.size 24 2 v (some' fl k).length (fcs (some' fl k)) ∧ Below W0.heap.size W0 W
theorem had_eq (fl : List Flt) (k : Nat) (h : k < fl.length) : had fl (k + 1) = (had fl k || (fl[k].1 == (first fl).1 && fl[k].2 == (first fl).2)) := by
  rw [had_succ fl k h]
  congr 1
  rw [Bool.eq_iff_iff, decide_eq_true_iff, Bool.and_eq_true, beq_iff_eq, beq_iff_eq]
  exact ⟨fun e => by rw [e]; exact ⟨rfl, rfl⟩, fun ⟨a, b⟩ => Prod.ext a b⟩
set_option maxHeartbeats 4000000 in
theorem walk (w : World) (A : Option Addr) (k : Nat) (fl : List Flt) (hl : Flts w A fl) (hn : fl.length ≤ 9223372036854775807) (T : Tb w) : Calls Tryd.prog 5 #[.slice A fl.length k] w fun e w' => e = .returned (.bool true) ∧ Below w.heap.size w w' := by
  have SM := Lib.hid (small_at w T)
  clear T
  by_cases hs : 200 < fl.length
  · clear hl
    go_enter Tryd.func5, Tryd.ntmps5
    go_wp2_with (go_at_call 7; (with_reducible refine SM.out.mono ?_); rintro e w1 ⟨rfl, hb1⟩; clear SM)
    go_ret
    exact ⟨rfl, hb1⟩
  have hs' : fl.length ≤ 200 := by omega
  clear hs
  have FI := Lib.hid (fun W hb => first_at fl A k W (hl.below hb) hn)
  unfold fc at FI
  have dz : decide (200 < (fl.length : Int)) = false := by simp; omega
  have q := eqF
  go_enter Tryd.func5, Tryd.ntmps5
  go_wp2_with (first
    | (go_at_call 7; (with_reducible refine SM.out.mono ?_); rintro e w1 ⟨rfl, hb1⟩; clear SM)
    | (go_at_call 11; with_reducible refine (FI.out _ hb1).mono ?_; rintro e w2 ⟨rfl, hb2⟩))
  have hl0 : Flts (w2.alloc (.cells #[.int .i64 (first fl).1, .int .i64 (first fl).2] 24)) A fl := hl.below (bal (btr hb1 hb2) _)
  have hbW : Below w.heap.size w (w2.alloc (.cells #[.int .i64 (first fl).1, .int .i64 (first fl).2] 24)) := bal (btr hb1 hb2) _
  have F0 := Lib.hid (hp_new w2 (.cells #[.int .i64 (first fl).1, .int .i64 (first fl).2] 24))
  have HN : Hid (w2.heap.size < (w2.alloc (.cells #[.int .i64 (first fl).1, .int .i64 (first fl).2] 24)).heap.size) := hp_lt F0.out
  generalize hN : w2.heap.size = N at *
  clear hb1 hb2 FI hl
  generalize (w2.alloc (.cells #[.int .i64 (first fl).1, .int .i64 (first fl).2] 24)) = W0 at *
  go_loopw [5, 6, 7] (fun h v i W => LHead fl W0 h v i W) (fun _ _ i _ => fl.length - (intOf i).toNat)
  case atStart => exact ⟨0, _, Nat.zero_le _, rfl, rfl, rfl, World.ownsRow_nil _ _ _ _, Below.refl _ _⟩
  case round =>
    obtain ⟨j, v, hj, rfl, rfl, rfl, ho, hb⟩ := hrel
    by_cases hlt : j < fl.length
    · obtain ⟨b, o, rfl, hb0, hc⟩ := hl0 (List.ne_nil_of_length_pos (by omega))
      obtain ⟨x0, x1⟩ := hc j hlt
      have Y : Hid (∀ W, Below W0.heap.size W0 W → (W.cell? ⟨b, o + j * 2, none⟩ = some (.int .i64 fl[j].1) ∧ W.cell? ⟨b, o + j * 2 + 1, none⟩ = some (.int .i64 fl[j].2)) ∧ W.cell? ⟨N, 0, none⟩ = some (.int .i64 (first fl).1) ∧ W.cell? ⟨N, 1, none⟩ = some (.int .i64 (first fl).2)) :=
        fun W hb => ⟨⟨(hb.cell (p := ⟨b, o + j * 2, none⟩) hb0).trans x0, (hb.cell (p := ⟨b, o + j * 2 + 1, none⟩) hb0).trans x1⟩, row_cell (kept F0.out hb) 0, row_cell (kept F0.out hb) 1⟩
      clear x0 x1 hc
      obtain ⟨⟨x0, x1⟩, y0, y1⟩ := Y.out wr hb
      have RO : Hid (∀ B, had fl (j + 1) = B → fl[j].2 = 0 → ∀ n, LHead fl W0 (.bool B) v (.int .i64 ((j : Int) + 1)) (wr.drewN n)) :=
        fun B hB hz n => ⟨j + 1, _, by omega, rfl, by rw [hB], rfl, by rw [some_ok fl j hlt hz]; exact ho, bel_drewN hb n⟩
      have RM : Hid (∀ B, had fl (j + 1) = B → fl[j].2 ≠ 0 → ∀ n v' W1 n', W1.ownsRow W0.heap.size 24 2 v' (some' fl j ++ [fl[j]]).length (fcs (some' fl j ++ [fl[j]])) → (wr.drewN n).grownBy W1 v.ownBlock → LHead fl W0 (.bool B) v' (.int .i64 ((j : Int) + 1)) (W1.drewN n')) :=
        fun B hB hz n v' W1 n' ho' hg => ⟨j + 1, _, by omega, rfl, by rw [hB], rfl, by rw [some_more fl j hlt hz]; exact ho', bel_drewN ((bel_drewN hb n).grown hg hb.size fun k hk => (ho.lt k hk).1) n'⟩
      have LE := Lib.hid (first_le fl j hlt)
      have HD := had_eq fl j hlt
      have HO := fun n => Lib.hid (show (wr.drewN n).ownsRow W0.heap.size 24 2 v (some' fl j).length (fcs (some' fl j)) from ho)
      have SL := some_len fl j
      generalize fl[j] = f at *
      generalize hfi : first fl = g at *
      obtain ⟨f1, f2⟩ := f
      obtain ⟨g1, g2⟩ := g
      simp only at x0 x1 y0 y1 HD
      generalize hhd : had fl j = hv at *
      cases hv
      · have hd := HD
        rw [Bool.false_or] at hd
        clear HD
        by_cases hz : f2 = 0
        · have t1 : (f2 == 0) = true := by simpa using hz
          have R2 := Lib.hid (fun n => RO.out _ hd hz n)
          clear RO RM LE hz
          go_wp2
          go_quiet (fail)
          go_wp2
          go_roundw
          case rel => exact R2.out _
          case measure => simp [intOf]; omega
        · have t1 : (f2 == 0) = false := by simpa using hz
          obtain ⟨l1, l2⟩ := LE.out hz
          have t2 : (g2 == 0) = false := by simpa using l1
          have t3 : decide (f1 < g1) = false := by simpa using l2
          have R2 := Lib.hid (fun n v' W1 n' => RM.out _ hd hz n v' W1 n')
          have BB := Lib.hid (fun n w1 (hg : (wr.drewN n).grownBy w1 v.ownBlock) => (bel_drewN hb n).grown hg hb.size fun k hk => (ho.lt k hk).1)
          have YO := Lib.hid (fun W hb => Y.out W hb)
          clear RO RM LE hz l1 l2 Y
          go_wp2
          go_quiet (fail)
          go_wp2_with (at_builtin; refine app_fault rfl _ _ rfl W0.heap.size (wr.drewN _) v (some' fl j) f1 f2 rfl rfl (HO _).out (by omega) hb.size ?_; intro v' w1 ho' hg; have hbw := BB.out _ w1 hg; obtain ⟨⟨x2, x3⟩, y2, y3⟩ := YO.out w1 hbw)
          go_quiet (fail)
          go_wp2
          go_roundw
          case rel => exact R2.out _ _ _ _ ho' hg
          case measure => simp [intOf]; omega
      · have hd := HD
        rw [Bool.true_or] at hd
        clear HD
        by_cases hz : f2 = 0
        · have t1 : (f2 == 0) = true := by simpa using hz
          have R2 := Lib.hid (fun n => RO.out _ hd hz n)
          clear RO RM LE hz
          go_wp2
          go_quiet (fail)
          go_wp2
          go_roundw
          case rel => exact R2.out _
          case measure => simp [intOf]; omega
        · have t1 : (f2 == 0) = false := by simpa using hz
          obtain ⟨l1, l2⟩ := LE.out hz
          have t2 : (g2 == 0) = false := by simpa using l1
          have t3 : decide (f1 < g1) = false := by simpa using l2
          have R2 := Lib.hid (fun n v' W1 n' => RM.out _ hd hz n v' W1 n')
          have BB := Lib.hid (fun n w1 (hg : (wr.drewN n).grownBy w1 v.ownBlock) => (bel_drewN hb n).grown hg hb.size fun k hk => (ho.lt k hk).1)
          have YO := Lib.hid (fun W hb => Y.out W hb)
          clear RO RM LE hz l1 l2 Y
          go_wp2
          go_quiet (fail)
          go_wp2_with (at_builtin; refine app_fault rfl _ _ rfl W0.heap.size (wr.drewN _) v (some' fl j) f1 f2 rfl rfl (HO _).out (by omega) hb.size ?_; intro v' w1 ho' hg; have hbw := BB.out _ w1 hg; obtain ⟨⟨x2, x3⟩, y2, y3⟩ := YO.out w1 hbw)
          go_quiet (fail)
          go_wp2
          go_roundw
          case rel => exact R2.out _ _ _ _ ho' hg
          case measure => simp [intOf]; omega
    · obtain rfl : j = fl.length := by omega
      obtain ⟨B, cc, rfl, hfs⟩ := Flts.of_own ho
      have SL := some_len fl fl.length
      have FS := Lib.hid (fun d' os => below_at (T := fun W => Flts W B (some' fl fl.length)) (fun W hW => first_at (some' fl fl.length) B cc W hW (by omega)) (fun W hb => hfs.below hb) d' os)
      rw [first_some] at FS
      unfold fc at FS
      have c0 : ∀ d' os, (Sort.grow (redrawn wr d') os).cell? ⟨N, 0, none⟩ = some (.int .i64 (first fl).1) := fun d' os => cell_regrown (row_cell (kept F0.out hb) 0) d' os
      have c1 : ∀ d' os, (Sort.grow (redrawn wr d') os).cell? ⟨N, 1, none⟩ = some (.int .i64 (first fl).2) := fun d' os => cell_regrown (row_cell (kept F0.out hb) 1) d' os
      clear hfs ho F0 hl0
      rcases first_end fl with ⟨e1, e2⟩ | ⟨e1, e2, e3⟩
      · rw [e2] at FS c0 c1
        rw [e1] at FS
        rw [e1]
        simp only [List.length_nil] at FS ⊢
        clear e1 e2 SL
        go_wp2
        refine wp_region_quiet_below (by kernel_rfl) (by kernel_rfl) ?_
        repeat (quiet_step ((go_at_call 11; with_reducible exact FS.out _ _)))
        refine wpQuiet_nil ?_
        intro _ hw'
        obtain ⟨⟨dq, osq⟩, hw''⟩ := hw'
        subst hw''
        have hbz := btr (btr hbW hb) (below_regrown _ dq osq)
        generalize Sort.grow (redrawn wr dq) osq = W7 at *
        clear q
        go_wp2
        go_ret
        exact ⟨ret_bool (by first | rfl | simp), hbz⟩
      · rw [e2]
        have t1 : (((some' fl fl.length).length : Int) == 0) = false := by
          have := List.length_pos_iff.2 e1
          simp
          omega
        have t2 : ((first fl).2 != 0) = true := by simpa using e3
        clear e1 e2 e3
        generalize first fl = g at *
        obtain ⟨g1, g2⟩ := g
        simp only at FS c0 c1 t2
        go_wp2
        refine wp_region_quiet_below (by kernel_rfl) (by kernel_rfl) ?_
        repeat (quiet_step ((go_at_call 11; with_reducible exact FS.out _ _)))
        refine wpQuiet_nil ?_
        intro _ hw'
        obtain ⟨⟨dq, osq⟩, hw''⟩ := hw'
        subst hw''
        have hbz := btr (btr hbW hb) (below_regrown _ dq osq)
        generalize Sort.grow (redrawn wr dq) osq = W7 at *
        clear q
        go_wp2
        go_ret
        exact ⟨ret_bool (by first | rfl | simp), hbz⟩
theorem door_met (os : Os) (args : Array Value) : laidMetH Tryd.prog Rows.faultFirstRow.laid ((World.doorLaid Tryd.prog 400 os).forCall (fun _ _ => 0) ⟨#[], args, []⟩).memory :=
  laidMetH_of_parts3 (fuel := 8) (laidMet_of_run' 8 (by kernel_rfl) (by kernel_rfl)) (by kernel_rfl) (by kernel_rfl)
set_option maxRecDepth 100000 in
theorem lifted (os : Os) (started : os.Started) (H : Type) (enc : TypeId × Value → H) :
    ReturnsInHanded {} Tryd.checked os 5 .any (fun w args => (Rows.faultFirstSpec.pre enc Tryd.prog Tryd.f5 [] false w args ∧ laidMetH Tryd.prog Rows.faultFirstRow.laid w) ∧ sizedMet enc Tryd.prog Tryd.f5 (OpenSpec.ofChange Rows.faultFirstSpec) false w args)
      (Rows.faultFirstSpec.post enc Tryd.prog Tryd.f5 false true false false) := by
  refine returnsInHanded_of_change_and (C := Tryd.checked) (X := fun w _ => laidMetH Tryd.prog Rows.faultFirstRow.laid w) (fun _ _ _ hh h => h.of_heap hh) law.own started (by kernel_rfl) Tryd.func5
    (ChangeSpec.witness_shaped (enc := enc) (C := Tryd.checked) (os := os) (X := fun w _ => laidMetH Tryd.prog Rows.faultFirstRow.laid w) false (World.doorLaid Tryd.prog 400 os) #[.slice none 0 0] 8 rfl (World.shaped_of_RefB (by kernel_rfl) (by kernel_rfl)) (by kernel_rfl) (by kernel_rfl) (by kernel_rfl) (door_met os _)) ?_
  intro W base args ds gs before hval0 hW _ _ hL _
  rw [MakeChecks.laidMetH_plain _ _ _ (by kernel_rfl)] at hL
  have T0 := fault.tb_of hL (by repeat first | exact List.Mem.head _ | refine List.Mem.tail _ ?_) (by repeat first | exact List.Mem.head _ | refine List.Mem.tail _ ?_)
  have hval : ∀ (j : Nat) t v, Tryd.f5.params[j]? = some t → args[j]? = some v → Value.okWide Tryd.prog W .any base t v := hval0
  have hW' := hW
  obtain ⟨p, q, hA0, hV, rfl, hfz, hnd⟩ := hW
  have hA : DataW.TrodAll enc Tryd.prog W 0 (fun _ => true) true Tryd.f5.params.toList args.toList ds p := hA0
  rw [Tryd.params5] at hA hval
  obtain ⟨v0, vs0, d0, ds0, p0, q0, hargs, rfl, rfl, h0, r0⟩ := trodAll_cons hA
  obtain ⟨rfl, rfl, rfl⟩ := trodAll_nil r0
  obtain rfl : args = #[v0] := by cases args; simp_all
  obtain ⟨rfl, rfl⟩ := trodVars_none hV
  clear hA0 hval0
  refine (Calls.mono (R := fun e w' => e = .returned (.bool true) ∧ Below W.heap.size W w') ?_ fun e W' ⟨he, hb⟩ => ?_)
  · obtain ⟨A0_, k0_, l0_, rfl, f0_, n0_⟩ := fault.open_faults (hval 0 25 v0 rfl rfl) h0
    exact walk W _ _ _ f0_ n0_ T0
  · subst he
    exact ⟨_, rfl, law.post law.laidOut (by kernel_rfl) rfl rfl Tryd.underlying4 rfl hW' hb⟩

theorem over : Rows.faultFirstRow.holds Tryd.pinned (OpenSpec.ofChange Rows.faultFirstSpec) :=
  OpenClaim.holds_of_wide 5 Tryd.f5 rfl rfl rfl rfl rfl rfl rfl ⟨rfl, rfl, rfl, rfl, rfl⟩ rfl rfl rfl rfl rfl (by kernel_rfl) Tryd.func5 (by kernel_rfl)
    (of_decide_eq_true (by kernel_rfl)) (by unfold Func.isWrapper; first | (rw [if_pos (by decide +kernel)]; kernel_rfl) | (rw [if_neg (by decide +kernel)]; exact ⟨rfl, rfl⟩))
    (fun os started H enc _ => lifted os started H enc)

theorem proved : Rows.FaultFirstCardSaid :=
  Claim7.holds_tied_plain_at .later [] _ _ _ _ over (fun _ h => by cases h) (by kernel_rfl) (fun _ h => by cases h) faultFirst_row_tie rfl ⟨rfl, rfl⟩ (by kernel_rfl) rfl
    (fun f fn hf hfn => by
      obtain rfl : f = 5 := Option.some.inj ((show Tryd.prog.funcNamed "epact/epactlaw08.FaultFirst" = some 5 by kernel_rfl).symm.trans hf) |>.symm
      obtain rfl : fn = Tryd.f5 := (Option.some.inj (Tryd.func5.symm.trans hfn)).symm
      exact ⟨by kernel_rfl, fun j t ht => by
        have hall : (Tryd.f5.params.toList.all fun u => !Tryd.prog.wantsStandIn u) = true := by kernel_rfl
        have hm : t ∈ Tryd.f5.params.toList := by rw [Array.mem_toList_iff]; exact Array.mem_of_getElem? ht
        exact (show Tryd.prog.wantsStandIn t = false by simpa using List.all_eq_true.1 hall t hm)⟩)
    (by kernel_rfl)
end Go.Proofs.YtbofjkneflobeaaDoor.faultFirst
