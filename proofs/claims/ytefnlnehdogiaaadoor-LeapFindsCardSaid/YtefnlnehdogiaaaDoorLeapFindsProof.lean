/-
  LeapFinds: what is found is the first leap that is not ahead of a day, and the Step is its, for every right table and every day. Condition: the row's own (the listed tables hold what their initialisers lay; the card ties that).
-/
import Derived.Test.YtefnlnehdogiaaaDoorLeapSmall
import Derived.Test.YtefnlnehdogiaaaDoorLeapLaw
import Derived.Test.YtefnlnehdogiaaaDoorCards
import Derived.Test.YtefnlnehdogiaaaDoorTie
import Derived.SevenTiedAt
namespace Go.Proofs.YtefnlnehdogiaaaDoor.leapFinds
open Go.ChangeShapes Go.WideShapes Go.ChangeAt Go.RowKit
open leap lm mem
set_option linter.unusedVariables false

set_option maxHeartbeats 4000000 in
set_option maxRecDepth 100000 in
theorem walk (w : World) (l : List Lp) (A : Option Addr) (c : Nat) (has : Bool) (x : Int) (hl : Lps w A l) (hn : l.length ≤ 9223372036854775807) (hc : l.length ≤ c) (hx : -9223372036854775808 ≤ x ∧ x ≤ 9223372036854775807) (d : Int) (hd : -9223372036854775808 ≤ d ∧ d ≤ 9223372036854775807) (T : day.Tabs w) :
    Calls Tryd.prog 5 #[.agg #[.slice A l.length c, .bool has, .int .i64 x], .int .i64 d] w fun e w' => e = .returned (.bool true) ∧ Below w.heap.size w w' := by
  have hw0 : Below w.heap.size w (w.alloc (.cells #[.slice A l.length c, .bool has, .int .i64 x] 24)) := bal (Below.refl _ _) _
  have box : (w.alloc (.cells #[.slice A l.length c, .bool has, .int .i64 x] 24)).heap[w.heap.size]? = some (.cells (tcs A l.length c has x) 24) := hp_new w _
  have hl0 := hl.below hw0
  have T0 : day.Tabs _ := T.below hw0
  go_enter Tryd.func5, Tryd.ntmps5
  go_wp2_with fail
  generalize w.alloc (.cells #[.slice A l.length c, .bool has, .int .i64 x] 24) = W0 at *
  have HW := Lib.hid hw0
  clear hw0 hl T
  generalize hN : w.heap.size = N at *
  have hA : Below W0.heap.size W0 W0 := Below.refl _ _
  have SM : Hid (∀ W, Below W0.heap.size W0 W → Calls Tryd.prog 9 #[] W fun e w' => e = .returned (.bool true) ∧ Below W.heap.size W w') := fun W hb => small_at W (T0.below hb)
  have FE : Hid (∀ W, Below W0.heap.size W0 W → Calls Tryd.prog 10 #[.agg #[.slice A l.length c, .bool has, .int .i64 x]] W fun e w' => e = .returned (.bool (decide (l.length ≤ 300))) ∧ Below W.heap.size W w') := fun W hb => few_at A l.length c has x W hn
  have RI : Hid (∀ W, Below W0.heap.size W0 W → Calls Tryd.prog 13 #[.agg #[.slice A l.length c, .bool has, .int .i64 x]] W fun e w' => e = .returned (.bool (ce l has x == 0)) ∧ Below W.heap.size W w') := fun W hb => right_at l A c has x W (T0.below hb) (hl0.below hb) hn
  have TC := Lib.hid (fun W (hb : Below W0.heap.size W0 W) => tcs_cells (kept box hb))
  have EX : Hid (∀ W, Below W0.heap.size W0 W → Below w.heap.size w W) := fun W hb => by rw [hN]; exact HW.out.trans (hb.mono (by have := HW.out.size; rw [hN] at this; exact this))
  obtain ⟨c0, c1, c2⟩ := TC.out _ hA
  by_cases g1 : l.length ≤ 300
  · rw [decide_eq_true g1] at FE
    by_cases g2 : ce l has x = 0
    · have hg := good_of g2
      have g2' : (ce l has x == 0) = true := by simpa using g2
      rw [g2'] at RI
      have fl := fnd_le l d
      have FI : Hid (∀ W, Below W0.heap.size W0 W → Calls Tryd.prog 20 #[.agg #[.slice A l.length c, .bool has, .int .i64 x], .int .i64 d] W fun e w' => e = .returned (.int .i64 (fnd l d : Nat)) ∧ Below W.heap.size W w') := fun W hb => find_at l A c has x d W (hl0.below hb) hg
      have ST : Hid (∀ W, Below W0.heap.size W0 W → Calls Tryd.prog 24 #[.agg #[.slice A l.length c, .bool has, .int .i64 x], .int .i64 d] W fun e w' => e = .returned (.int .i64 (stp l d)) ∧ Below W.heap.size W w') := fun W hb => step_at l A c has x d W (hl0.below hb) hg
      have CE : Hid (∀ W, Below W0.heap.size W0 W → ∀ k, k < l.length → ∃ b o, A = some ⟨b, o, none⟩ ∧ W.cell? ⟨b, o + k * 3, none⟩ = some (.int .i64 (dy l k)) ∧ W.cell? ⟨b, o + k * 3 + 1, none⟩ = some (.int .i64 (lm.st l k))) := fun W hb k hk => by
        obtain ⟨b, o, e, hb', hcc⟩ := hl0.below hb (by omega)
        exact ⟨b, o, e, (hcc k hk).1, (hcc k hk).2.1⟩
      have FD : Hid (∀ k, k < l.length → (d ≤ dy l k ↔ fnd l d ≤ k)) := fun k hk => hg.found d hk
      have SP : Hid (stp l d = if fnd l d < l.length ∧ dy l (fnd l d) = d then lm.st l (fnd l d) else 0) := rfl
      clear T0 hl0 box hg g2 g2'
      generalize stp l d = z at *
      generalize fnd l d = f at *
      go_wp2_with (first
        | (go_at_call 9; (with_reducible refine (SM.out _ hA).mono ?_; rintro e w1 ⟨rfl, hb1⟩; have hA := btr hA hb1; clear c0 c1 c2; obtain ⟨c0, c1, c2⟩ := TC.out _ hA; (try have y0 := YC.out _ hA)))
        | (go_at_call 10; (with_reducible refine (FE.out _ hA).mono ?_; rintro e w1 ⟨rfl, hb1⟩; have hA := btr hA hb1; clear c0 c1 c2; obtain ⟨c0, c1, c2⟩ := TC.out _ hA; (try have y0 := YC.out _ hA)))
        | (go_at_call 13; (with_reducible refine (RI.out _ hA).mono ?_; rintro e w1 ⟨rfl, hb1⟩; have hA := btr hA hb1; clear c0 c1 c2; obtain ⟨c0, c1, c2⟩ := TC.out _ hA; (try have y0 := YC.out _ hA)))
        | (go_at_call 20; (with_reducible refine (FI.out _ hA).mono ?_; rintro e w1 ⟨rfl, hb1⟩; have hA := btr hA hb1; clear c0 c1 c2; obtain ⟨c0, c1, c2⟩ := TC.out _ hA; (try have y0 := YC.out _ hA))))
      go_loop [7] (fun i => ∃ k : Nat, k ≤ l.length ∧ i = .int .i64 (k : Nat)) (fun i => l.length - (intOf i).toNat)
      case atStart => exact ⟨0, Nat.zero_le _, rfl⟩
      case round =>
        obtain ⟨k, hk, rfl⟩ := hrel
        by_cases hlt : k < l.length
        · obtain ⟨b, o, rfl, x0, x1⟩ := CE.out _ hA k hlt
          have fd := FD.out k hlt
          clear CE FD SP FI ST
          generalize dy l k = D at *
          generalize lm.st l k = E at *
          generalize l.length = n at *
          by_cases h1 : f ≤ k
          · have t1 : decide ((f : Int) ≤ (k : Int)) = true := by simp; omega
            have t2 : decide (d ≤ D) = true := by simpa using fd.2 h1
            clear fd
            go_wp2
            go_round
            case rel => exact ⟨k + 1, by omega, rfl⟩
            case measure => simp [intOf]; omega
          · have t1 : decide ((f : Int) ≤ (k : Int)) = false := by simp; omega
            have t2 : decide (d ≤ D) = false := by simp; have := fun g => h1 (fd.1 g); omega
            clear fd
            go_wp2
            go_round
            case rel => exact ⟨k + 1, by omega, rfl⟩
            case measure => simp [intOf]; omega
        · obtain rfl : k = l.length := by omega
          clear FD FI
          by_cases h2 : f < l.length
          · obtain ⟨b, o, rfl, x0, x1⟩ := CE.out _ hA f h2
            have t1 : decide ((f : Int) < (l.length : Int)) = true := by simp; omega
            by_cases h3 : dy l f = d
            · have e := SP.out
              rw [if_pos ⟨h2, h3⟩] at e
              subst e
              have t2 : (dy l f == d) = true := by simpa using h3
              clear CE SP h3
              generalize dy l f = D at *
              generalize lm.st l f = E at *
              generalize l.length = n at *
              go_wp2_with (first
                | (go_at_call 24; (with_reducible refine (ST.out _ hA).mono ?_; rintro e w1 ⟨rfl, hb1⟩; have hA := btr hA hb1; clear c0 c1 c2; obtain ⟨c0, c1, c2⟩ := TC.out _ hA; (try have y0 := YC.out _ hA))))
              go_ret
              exact ⟨ret_bool (by first | rfl | simp), EX.out _ hA⟩
            · have e := SP.out
              rw [if_neg (fun g => h3 g.2)] at e
              subst e
              have t2 : (dy l f == d) = false := by simpa using h3
              clear CE SP h3
              generalize dy l f = D at *
              generalize lm.st l f = E at *
              generalize l.length = n at *
              go_wp2_with (first
                | (go_at_call 24; (with_reducible refine (ST.out _ hA).mono ?_; rintro e w1 ⟨rfl, hb1⟩; have hA := btr hA hb1; clear c0 c1 c2; obtain ⟨c0, c1, c2⟩ := TC.out _ hA; (try have y0 := YC.out _ hA))))
              go_ret
              exact ⟨ret_bool (by first | rfl | simp), EX.out _ hA⟩
          · have e := SP.out
            rw [if_neg (fun g => h2 g.1)] at e
            subst e
            have t1 : decide ((f : Int) < (l.length : Int)) = false := by simp; omega
            clear CE SP
            generalize l.length = n at *
            go_wp2_with (first
              | (go_at_call 24; (with_reducible refine (ST.out _ hA).mono ?_; rintro e w1 ⟨rfl, hb1⟩; have hA := btr hA hb1; clear c0 c1 c2; obtain ⟨c0, c1, c2⟩ := TC.out _ hA; (try have y0 := YC.out _ hA))))
            go_ret
            exact ⟨ret_bool (by first | rfl | simp), EX.out _ hA⟩
    · have g2' : (ce l has x == 0) = false := by simpa using g2
      rw [g2'] at RI
      clear T0 hl0 box g2 g2'
      generalize l.length = n at *
      go_wp2_with (first
        | (go_at_call 9; (with_reducible refine (SM.out _ hA).mono ?_; rintro e w1 ⟨rfl, hb1⟩; have hA := btr hA hb1; clear c0 c1 c2; obtain ⟨c0, c1, c2⟩ := TC.out _ hA; (try have y0 := YC.out _ hA)))
        | (go_at_call 10; (with_reducible refine (FE.out _ hA).mono ?_; rintro e w1 ⟨rfl, hb1⟩; have hA := btr hA hb1; clear c0 c1 c2; obtain ⟨c0, c1, c2⟩ := TC.out _ hA; (try have y0 := YC.out _ hA)))
        | (go_at_call 13; (with_reducible refine (RI.out _ hA).mono ?_; rintro e w1 ⟨rfl, hb1⟩; have hA := btr hA hb1; clear c0 c1 c2; obtain ⟨c0, c1, c2⟩ := TC.out _ hA; (try have y0 := YC.out _ hA))))
      go_ret
      exact ⟨rfl, EX.out _ hA⟩
  · rw [decide_eq_false g1] at FE
    clear T0 hl0 box RI g1
    generalize l.length = n at *
    go_wp2_with (first
      | (go_at_call 9; (with_reducible refine (SM.out _ hA).mono ?_; rintro e w1 ⟨rfl, hb1⟩; have hA := btr hA hb1; clear c0 c1 c2; obtain ⟨c0, c1, c2⟩ := TC.out _ hA; (try have y0 := YC.out _ hA)))
      | (go_at_call 10; (with_reducible refine (FE.out _ hA).mono ?_; rintro e w1 ⟨rfl, hb1⟩; have hA := btr hA hb1; clear c0 c1 c2; obtain ⟨c0, c1, c2⟩ := TC.out _ hA; (try have y0 := YC.out _ hA))))
    go_ret
    exact ⟨rfl, EX.out _ hA⟩
theorem door_met (os : Os) (args : Array Value) : laidMetH Tryd.prog Rows.leapFindsRow.laid ((World.doorLaid Tryd.prog 400 os).forCall (fun _ _ => 0) ⟨#[], args, []⟩).memory :=
  laidMetH_of_parts3 (fuel := 8) (laidMet_of_run' 8 (by kernel_rfl) (by kernel_rfl)) (by kernel_rfl) (by kernel_rfl)
set_option maxRecDepth 100000 in
theorem lifted (os : Os) (started : os.Started) (H : Type) (enc : TypeId × Value → H) :
    ReturnsInHanded {} Tryd.checked os 5 .any (fun w args => (Rows.leapFindsSpec.pre enc Tryd.prog Tryd.f5 [] false w args ∧ laidMetH Tryd.prog Rows.leapFindsRow.laid w) ∧ sizedMet enc Tryd.prog Tryd.f5 (OpenSpec.ofChange Rows.leapFindsSpec) false w args)
      (Rows.leapFindsSpec.post enc Tryd.prog Tryd.f5 false true false false) := by
  refine returnsInHanded_of_change_and (C := Tryd.checked) (X := fun w _ => laidMetH Tryd.prog Rows.leapFindsRow.laid w) (fun _ _ _ hh h => h.of_heap hh) law.own started (by kernel_rfl) Tryd.func5
    (ChangeSpec.witness_shaped (enc := enc) (C := Tryd.checked) (os := os) (X := fun w _ => laidMetH Tryd.prog Rows.leapFindsRow.laid w) false (World.doorLaid Tryd.prog 400 os) #[.agg #[.slice none 0 0, .bool false, .int .i64 0], .int .i64 0] 8 rfl (World.shaped_of_RefB (by kernel_rfl) (by kernel_rfl)) (by kernel_rfl) (by kernel_rfl) (by kernel_rfl) (door_met os _)) ?_
  intro W base args ds gs before hval0 hW _ _ hL _
  rw [MakeChecks.laidMetH_plain _ _ _ (by kernel_rfl)] at hL
  have T0 := day.tabs_of hL (by repeat first | exact List.Mem.head _ | refine List.Mem.tail _ ?_) (by repeat first | exact List.Mem.head _ | refine List.Mem.tail _ ?_)
  have hval : ∀ (j : Nat) t v, Tryd.f5.params[j]? = some t → args[j]? = some v → Value.okWide Tryd.prog W .any base t v := hval0
  have hW' := hW
  obtain ⟨p, q, hA0, hV, rfl, hfz, hnd⟩ := hW
  have hA : DataW.TrodAll enc Tryd.prog W 0 (fun _ => true) true Tryd.f5.params.toList args.toList ds p := hA0
  rw [Tryd.params5] at hA hval
  obtain ⟨v0, vs0, d0, ds0, p0, q0, hargs, rfl, rfl, h0, r0⟩ := trodAll_cons hA
  obtain ⟨v1, vs1, d1, ds1, p1, q1, rfl, rfl, rfl, h1, r1⟩ := trodAll_cons r0
  obtain ⟨rfl, rfl, rfl⟩ := trodAll_nil r1
  obtain rfl : args = #[v0, v1] := by cases args; simp_all
  obtain ⟨rfl, rfl⟩ := trodVars_none hV
  clear hA0 hval0
  obtain ⟨A0_, k0_, l0_, b0_, x0_, rfl, q0_, n0_, m0_, w0_⟩ := leap.open_table (hval 0 24 v0 rfl rfl) h0
  obtain ⟨a1, rfl, hd1, hp1, w1⟩ := open_int Tryd.underlying3 (hval 1 3 v1 rfl rfl) h1
  refine (Calls.mono (R := fun e w' => e = .returned (.bool true) ∧ Below W.heap.size W w') ?_ fun e W' ⟨he, hb⟩ => ?_)
  · exact walk W l0_ A0_ k0_ b0_ x0_ q0_ n0_ m0_ w0_ a1 (bounds_i64 w1) T0
  · subst he
    exact ⟨_, rfl, law.post law.laidOut (by kernel_rfl) rfl rfl Tryd.underlying4 rfl hW' hb⟩

theorem over : Rows.leapFindsRow.holds Tryd.pinned (OpenSpec.ofChange Rows.leapFindsSpec) :=
  OpenClaim.holds_of_wide 5 Tryd.f5 rfl rfl rfl rfl rfl rfl rfl ⟨rfl, rfl, rfl, rfl, rfl⟩ rfl rfl rfl rfl rfl (by kernel_rfl) Tryd.func5 (by kernel_rfl)
    (of_decide_eq_true (by kernel_rfl)) (by unfold Func.isWrapper; first | (rw [if_pos (by decide +kernel)]; kernel_rfl) | (rw [if_neg (by decide +kernel)]; exact ⟨rfl, rfl⟩))
    (fun os started H enc _ => lifted os started H enc)

theorem proved : Rows.LeapFindsCardSaid :=
  Claim7.holds_tied_plain_at .later [] _ _ _ _ over (fun _ h => by cases h) (by kernel_rfl) (fun _ h => by cases h) leapFinds_row_tie rfl ⟨rfl, rfl⟩ (by kernel_rfl) rfl
    (fun f fn hf hfn => by
      obtain rfl : f = 5 := Option.some.inj ((show Tryd.prog.funcNamed "epact/epactlaw09.LeapFinds" = some 5 by kernel_rfl).symm.trans hf) |>.symm
      obtain rfl : fn = Tryd.f5 := (Option.some.inj (Tryd.func5.symm.trans hfn)).symm
      exact ⟨by kernel_rfl, fun j t ht => by
        have hall : (Tryd.f5.params.toList.all fun u => !Tryd.prog.wantsStandIn u) = true := by kernel_rfl
        have hm : t ∈ Tryd.f5.params.toList := by rw [Array.mem_toList_iff]; exact Array.mem_of_getElem? ht
        exact (show Tryd.prog.wantsStandIn t = false by simpa using List.all_eq_true.1 hall t hm)⟩)
    (by kernel_rfl)
end Go.Proofs.YtefnlnehdogiaaaDoor.leapFinds
