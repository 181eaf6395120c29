/-
  LeapLengths: as many days as there are leaps are longer, or shorter, by one second, and lie 28 days apart at least, and all others have 86400, for every right table and every day. Condition: the row's own (the listed tables hold what their initialisers lay; the card ties that).
-/
import Derived.Test.YtefnlnehdogiaaaDoorLeapSmall
import Derived.Test.YtefnlnehdogiaaaDoorLeapLaw
import Derived.Test.YtefnlnehdogiaaaDoorCards
import Derived.Test.YtefnlnehdogiaaaDoorTie
import Derived.SevenTiedAt
namespace Go.Proofs.YtefnlnehdogiaaaDoor.leapLengths
open Go.ChangeShapes Go.WideShapes Go.ChangeAt Go.RowKit
open leap lm mem
set_option linter.unusedVariables false

/-- at the head of a round. -/
def LHead (n : Nat) (W0 : World) (i : Value) (W : World) : Prop := ∃ k : Nat, k ≤ n ∧ i = .int .i64 (k : Nat) ∧ Below W0.heap.size W0 W
set_option maxHeartbeats 4000000 in
set_option maxRecDepth 100000 in
theorem walk (w : World) (l : List Lp) (A : Option Addr) (c : Nat) (has : Bool) (x : Int) (hl : Lps w A l) (hn : l.length ≤ 9223372036854775807) (hc : l.length ≤ c) (hx : -9223372036854775808 ≤ x ∧ x ≤ 9223372036854775807) (d : Int) (hd : -9223372036854775808 ≤ d ∧ d ≤ 9223372036854775807) (T : day.Tabs w) :
    Calls Tryd.prog 8 #[.agg #[.slice A l.length c, .bool has, .int .i64 x], .int .i64 d] w fun e w' => e = .returned (.bool true) ∧ Below w.heap.size w w' := by
  have hw0 : Below w.heap.size w (w.alloc (.cells #[.slice A l.length c, .bool has, .int .i64 x] 24)) := bal (Below.refl _ _) _
  have box : (w.alloc (.cells #[.slice A l.length c, .bool has, .int .i64 x] 24)).heap[w.heap.size]? = some (.cells (tcs A l.length c has x) 24) := hp_new w _
  have hl0 := hl.below hw0
  have T0 : day.Tabs _ := T.below hw0
  go_enter Tryd.func8, Tryd.ntmps8
  go_wp2_with fail
  generalize w.alloc (.cells #[.slice A l.length c, .bool has, .int .i64 x] 24) = W0 at *
  have HW := Lib.hid hw0
  clear hw0 hl T
  generalize hN : w.heap.size = N at *
  have hA : Below W0.heap.size W0 W0 := Below.refl _ _
  have SM : Hid (∀ W, Below W0.heap.size W0 W → Calls Tryd.prog 9 #[] W fun e w' => e = .returned (.bool true) ∧ Below W.heap.size W w') := fun W hb => small_at W (T0.below hb)
  have FE : Hid (∀ W, Below W0.heap.size W0 W → Calls Tryd.prog 10 #[.agg #[.slice A l.length c, .bool has, .int .i64 x]] W fun e w' => e = .returned (.bool (decide (l.length ≤ 300))) ∧ Below W.heap.size W w') := fun W hb => few_at A l.length c has x W hn
  have RI : Hid (∀ W, Below W0.heap.size W0 W → Calls Tryd.prog 13 #[.agg #[.slice A l.length c, .bool has, .int .i64 x]] W fun e w' => e = .returned (.bool (ce l has x == 0)) ∧ Below W.heap.size W w') := fun W hb => right_at l A c has x W (T0.below hb) (hl0.below hb) hn
  have TC := Lib.hid (fun W (hb : Below W0.heap.size W0 W) => tcs_cells (kept box hb))
  have EX : Hid (∀ W, Below W0.heap.size W0 W → Below w.heap.size w W) := fun W hb => by rw [hN]; exact HW.out.trans (hb.mono (by have := HW.out.size; rw [hN] at this; exact this))
  obtain ⟨c0, c1, c2⟩ := TC.out _ hA
  by_cases g1 : l.length ≤ 300
  · rw [decide_eq_true g1] at FE
    by_cases g2 : ce l has x = 0
    · have hg := good_of g2
      have g2' : (ce l has x == 0) = true := by simpa using g2
      rw [g2'] at RI
      have fl := fnd_le l d
      have FI : Hid (∀ W, Below W0.heap.size W0 W → Calls Tryd.prog 20 #[.agg #[.slice A l.length c, .bool has, .int .i64 x], .int .i64 d] W fun e w' => e = .returned (.int .i64 (fnd l d : Nat)) ∧ Below W.heap.size W w') := fun W hb => find_at l A c has x d W (hl0.below hb) hg
      have LE : Hid (∀ W, Below W0.heap.size W0 W → Calls Tryd.prog 26 #[.agg #[.slice A l.length c, .bool has, .int .i64 x], .int .i64 d] W fun e w' => e = .returned (.int .i64 (86400 + stp l d)) ∧ Below W.heap.size W w') := fun W hb => length_at l A c has x d W (hl0.below hb) hg
      have LK : Hid (∀ k, k < l.length → ∀ W, Below W0.heap.size W0 W → Calls Tryd.prog 26 #[.agg #[.slice A l.length c, .bool has, .int .i64 x], .int .i64 (dy l k)] W fun e w' => e = .returned (.int .i64 (86400 + lm.st l k)) ∧ Below W.heap.size W w') := fun k hk W hb => by
        have := length_at l A c has x (dy l k) W (hl0.below hb) hg
        rw [(stp_at hg hk).2] at this
        exact this
      have CE : Hid (∀ W, Below W0.heap.size W0 W → ∀ k, k < l.length → ∃ b o, A = some ⟨b, o, none⟩ ∧ W.cell? ⟨b, o + k * 3, none⟩ = some (.int .i64 (dy l k)) ∧ W.cell? ⟨b, o + k * 3 + 1, none⟩ = some (.int .i64 (lm.st l k)) ∧ W.cell? ⟨b, o + (k - 1) * 3, none⟩ = some (.int .i64 (dy l (k - 1)))) := fun W hb k hk => by
        obtain ⟨b, o, e, hb', hcc⟩ := hl0.below hb (by omega)
        exact ⟨b, o, e, (hcc k hk).1, (hcc k hk).2.1, (hcc (k - 1) (by omega)).1⟩
      have GD : Hid (∀ k, k < l.length → (730 ≤ dy l k ∧ dy l k < 2932896) ∧ (lm.st l k = 1 ∨ lm.st l k = -1) ∧ (730 ≤ dy l (k - 1) ∧ dy l (k - 1) < 2932896) ∧ (0 < k → 28 ≤ dy l k - dy l (k - 1))) := fun k hk => ⟨hg.day hk, hg.step hk, hg.day (by omega), fun h0 => hg.far hk h0⟩
      have SP : Hid (stp l d = if fnd l d < l.length ∧ dy l (fnd l d) = d then lm.st l (fnd l d) else 0) := rfl
      clear T0 hl0 box hg g2 g2'
      generalize stp l d = z at *
      generalize fnd l d = f at *
      go_wp2_with (first
        | (go_at_call 9; (with_reducible refine (SM.out _ hA).mono ?_; rintro e w1 ⟨rfl, hb1⟩; have hA := btr hA hb1; clear c0 c1 c2; obtain ⟨c0, c1, c2⟩ := TC.out _ hA; (try have y0 := YC.out _ hA)))
        | (go_at_call 10; (with_reducible refine (FE.out _ hA).mono ?_; rintro e w1 ⟨rfl, hb1⟩; have hA := btr hA hb1; clear c0 c1 c2; obtain ⟨c0, c1, c2⟩ := TC.out _ hA; (try have y0 := YC.out _ hA)))
        | (go_at_call 13; (with_reducible refine (RI.out _ hA).mono ?_; rintro e w1 ⟨rfl, hb1⟩; have hA := btr hA hb1; clear c0 c1 c2; obtain ⟨c0, c1, c2⟩ := TC.out _ hA; (try have y0 := YC.out _ hA))))
      go_loopw [6] (fun i W => LHead l.length W0 i W) (fun i _ => l.length - (intOf i).toNat)
      case atStart => exact ⟨0, Nat.zero_le _, rfl, hA⟩
      case round =>
        clear c0 c1 c2 hA
        obtain ⟨k, hk, rfl, hA⟩ := hrel
        obtain ⟨c0, c1, c2⟩ := TC.out _ hA
        by_cases hlt : k < l.length
        · have LKk := Lib.hid (LK.out k hlt)
          obtain ⟨⟨d1, d2⟩, s12, ⟨d3, d4⟩, far⟩ := GD.out k hlt
          have C1 := Lib.hid (fun W hb => CE.out W hb k hlt)
          clear CE GD SP FI LE LK
          generalize dy l k = D at *
          generalize dy l (k - 1) = P at *
          generalize lm.st l k = E at *
          generalize l.length = n at *
          have R : Hid (∀ W', Below W0.heap.size W0 W' → LHead n W0 (.int .i64 ((k : Int) + 1)) W') := fun W' hb' => ⟨k + 1, by omega, rfl, hb'⟩
          have v1 : IntKind.i64.wrap (D - P) = D - P := IntWalk.i64_in _ (by omega)
          obtain ⟨b, o, rfl, y0, y1, y2⟩ := C1.out _ hA
          have C2 : Hid (∀ W, Below W0.heap.size W0 W → W.cell? ⟨b, o + k * 3, none⟩ = some (.int .i64 D) ∧ W.cell? ⟨b, o + k * 3 + 1, none⟩ = some (.int .i64 E) ∧ W.cell? ⟨b, o + (k - 1) * 3, none⟩ = some (.int .i64 P)) := fun W hb => by
            obtain ⟨b', o', e, a⟩ := C1.out W hb
            cases e
            exact a
          clear C1
          have yq := fun d' os => cell_regrown (w := wr) y0 d' os
          go_wp2_with fail
          have cq0 := fun d' os => cell_regrown (w := wr) c0 d' os
          have cq1 := fun d' os => cell_regrown (w := wr) c1 d' os
          have cq2 := fun d' os => cell_regrown (w := wr) c2 d' os
          have XQ0 := Lib.hid (fun d' os => below_at (w := wr) (T := fun W => Below W0.heap.size W0 W) LKk.out (fun W hb => btr hA hb) d' os)
          refine wp_region_quiet_below (by kernel_rfl) (by kernel_rfl) ?_
          repeat (quiet_step (first | (go_at_call 26; with_reducible exact XQ0.out _ _)))
          refine wpQuiet_nil ?_
          intro _ hw'
          obtain ⟨⟨dq, osq⟩, hw''⟩ := hw'
          subst hw''
          have hA := btr hA (below_regrown _ dq osq)
          clear c0 c1 c2 cq0 cq1 cq2 XQ0
          obtain ⟨c0, c1, c2⟩ := TC.out _ hA
          generalize Sort.grow (redrawn wr dq) osq = W7 at *
          clear y0 y1 y2 yq
          obtain ⟨y0, y1, y2⟩ := C2.out _ hA
          by_cases h0 : 0 < k
          · have t1 : decide (0 < (k : Int)) = true := by simp; omega
            have t2 : decide (D - P < 28) = false := by have := far h0; simp; omega
            rcases s12 with rfl | rfl
            · go_wp2_with fail
              go_quiet (fail)
              go_wp2
              go_roundw
              case rel => exact R.out _ (bel_drewN hA _)
              case measure => simp [intOf]; omega
            · go_wp2_with fail
              go_quiet (fail)
              go_wp2
              go_roundw
              case rel => exact R.out _ (bel_drewN hA _)
              case measure => simp [intOf]; omega
          · have t1 : decide (0 < (k : Int)) = false := by simp; omega
            rcases s12 with rfl | rfl
            · go_wp2_with fail
              go_quiet (fail)
              go_wp2
              go_roundw
              case rel => exact R.out _ (bel_drewN hA _)
              case measure => simp [intOf]; omega
            · go_wp2_with fail
              go_quiet (fail)
              go_wp2
              go_roundw
              case rel => exact R.out _ (bel_drewN hA _)
              case measure => simp [intOf]; omega
        · obtain rfl : k = l.length := by omega
          clear LK
          by_cases h2 : f < l.length
          · have s12 := (GD.out f h2).2.1
            obtain ⟨b, o, rfl, _⟩ := CE.out _ hA f h2
            have YC : Hid (∀ W, Below W0.heap.size W0 W → W.cell? ⟨b, o + f * 3, none⟩ = some (.int .i64 (dy l f))) := fun W hb => by
              obtain ⟨b', o', e, a, _⟩ := CE.out W hb f h2
              cases e
              exact a
            have t1 : ((f : Int) == (l.length : Int)) = false := by simp; omega
            by_cases h3 : dy l f = d
            · have e := SP.out
              rw [if_pos ⟨h2, h3⟩] at e
              subst e
              have t2 : (dy l f != d) = false := by simpa using h3
              clear CE SP GD h3
              generalize dy l f = D at *
              generalize lm.st l f = E at *
              generalize l.length = n at *
              rcases s12 with rfl | rfl
              · skip
                go_wp2_with (first
                  | (go_at_call 26; (with_reducible refine (LE.out _ hA).mono ?_; rintro e w1 ⟨rfl, hb1⟩; have hA := btr hA hb1; clear c0 c1 c2; obtain ⟨c0, c1, c2⟩ := TC.out _ hA; (try have y0 := YC.out _ hA)))
                  | (go_at_call 20; (with_reducible refine (FI.out _ hA).mono ?_; rintro e w1 ⟨rfl, hb1⟩; have hA := btr hA hb1; clear c0 c1 c2; obtain ⟨c0, c1, c2⟩ := TC.out _ hA; (try have y0 := YC.out _ hA))))
                go_ret
                exact ⟨ret_bool (by first | rfl | simp), EX.out _ hA⟩
              · skip
                go_wp2_with (first
                  | (go_at_call 26; (with_reducible refine (LE.out _ hA).mono ?_; rintro e w1 ⟨rfl, hb1⟩; have hA := btr hA hb1; clear c0 c1 c2; obtain ⟨c0, c1, c2⟩ := TC.out _ hA; (try have y0 := YC.out _ hA)))
                  | (go_at_call 20; (with_reducible refine (FI.out _ hA).mono ?_; rintro e w1 ⟨rfl, hb1⟩; have hA := btr hA hb1; clear c0 c1 c2; obtain ⟨c0, c1, c2⟩ := TC.out _ hA; (try have y0 := YC.out _ hA))))
                go_ret
                exact ⟨ret_bool (by first | rfl | simp), EX.out _ hA⟩
            · have e := SP.out
              rw [if_neg (fun g => h3 g.2)] at e
              subst e
              have t2 : (dy l f != d) = true := by simpa using h3
              clear CE SP GD h3
              generalize dy l f = D at *
              generalize l.length = n at *
              go_wp2_with (first
                | (go_at_call 26; (with_reducible refine (LE.out _ hA).mono ?_; rintro e w1 ⟨rfl, hb1⟩; have hA := btr hA hb1; clear c0 c1 c2; obtain ⟨c0, c1, c2⟩ := TC.out _ hA; (try have y0 := YC.out _ hA)))
                | (go_at_call 20; (with_reducible refine (FI.out _ hA).mono ?_; rintro e w1 ⟨rfl, hb1⟩; have hA := btr hA hb1; clear c0 c1 c2; obtain ⟨c0, c1, c2⟩ := TC.out _ hA; (try have y0 := YC.out _ hA))))
              go_ret
              exact ⟨ret_bool (by first | rfl | simp), EX.out _ hA⟩
          · have e := SP.out
            rw [if_neg (fun g => h2 g.1)] at e
            subst e
            obtain rfl : f = l.length := by omega
            have t1 : ((l.length : Int) == (l.length : Int)) = true := by simp
            clear CE SP GD
            generalize l.length = n at *
            go_wp2_with (first
              | (go_at_call 26; (with_reducible refine (LE.out _ hA).mono ?_; rintro e w1 ⟨rfl, hb1⟩; have hA := btr hA hb1; clear c0 c1 c2; obtain ⟨c0, c1, c2⟩ := TC.out _ hA; (try have y0 := YC.out _ hA)))
              | (go_at_call 20; (with_reducible refine (FI.out _ hA).mono ?_; rintro e w1 ⟨rfl, hb1⟩; have hA := btr hA hb1; clear c0 c1 c2; obtain ⟨c0, c1, c2⟩ := TC.out _ hA; (try have y0 := YC.out _ hA))))
            go_ret
            exact ⟨ret_bool (by first | rfl | simp), EX.out _ hA⟩
    · have g2' : (ce l has x == 0) = false := by simpa using g2
      rw [g2'] at RI
      clear T0 hl0 box g2 g2'
      generalize l.length = n at *
      go_wp2_with (first
        | (go_at_call 9; (with_reducible refine (SM.out _ hA).mono ?_; rintro e w1 ⟨rfl, hb1⟩; have hA := btr hA hb1; clear c0 c1 c2; obtain ⟨c0, c1, c2⟩ := TC.out _ hA; (try have y0 := YC.out _ hA)))
        | (go_at_call 10; (with_reducible refine (FE.out _ hA).mono ?_; rintro e w1 ⟨rfl, hb1⟩; have hA := btr hA hb1; clear c0 c1 c2; obtain ⟨c0, c1, c2⟩ := TC.out _ hA; (try have y0 := YC.out _ hA)))
        | (go_at_call 13; (with_reducible refine (RI.out _ hA).mono ?_; rintro e w1 ⟨rfl, hb1⟩; have hA := btr hA hb1; clear c0 c1 c2; obtain ⟨c0, c1, c2⟩ := TC.out _ hA; (try have y0 := YC.out _ hA))))
      go_ret
      exact ⟨rfl, EX.out _ hA⟩
  · rw [decide_eq_false g1] at FE
    clear T0 hl0 box RI g1
    generalize l.length = n at *
    go_wp2_with (first
      | (go_at_call 9; (with_reducible refine (SM.out _ hA).mono ?_; rintro e w1 ⟨rfl, hb1⟩; have hA := btr hA hb1; clear c0 c1 c2; obtain ⟨c0, c1, c2⟩ := TC.out _ hA; (try have y0 := YC.out _ hA)))
      | (go_at_call 10; (with_reducible refine (FE.out _ hA).mono ?_; rintro e w1 ⟨rfl, hb1⟩; have hA := btr hA hb1; clear c0 c1 c2; obtain ⟨c0, c1, c2⟩ := TC.out _ hA; (try have y0 := YC.out _ hA))))
    go_ret
    exact ⟨rfl, EX.out _ hA⟩
theorem door_met (os : Os) (args : Array Value) : laidMetH Tryd.prog Rows.leapLengthsRow.laid ((World.doorLaid Tryd.prog 400 os).forCall (fun _ _ => 0) ⟨#[], args, []⟩).memory :=
  laidMetH_of_parts3 (fuel := 8) (laidMet_of_run' 8 (by kernel_rfl) (by kernel_rfl)) (by kernel_rfl) (by kernel_rfl)
set_option maxRecDepth 100000 in
theorem lifted (os : Os) (started : os.Started) (H : Type) (enc : TypeId × Value → H) :
    ReturnsInHanded {} Tryd.checked os 8 .any (fun w args => (Rows.leapLengthsSpec.pre enc Tryd.prog Tryd.f8 [] false w args ∧ laidMetH Tryd.prog Rows.leapLengthsRow.laid w) ∧ sizedMet enc Tryd.prog Tryd.f8 (OpenSpec.ofChange Rows.leapLengthsSpec) false w args)
      (Rows.leapLengthsSpec.post enc Tryd.prog Tryd.f8 false true false false) := by
  refine returnsInHanded_of_change_and (C := Tryd.checked) (X := fun w _ => laidMetH Tryd.prog Rows.leapLengthsRow.laid w) (fun _ _ _ hh h => h.of_heap hh) law.own started (by kernel_rfl) Tryd.func8
    (ChangeSpec.witness_shaped (enc := enc) (C := Tryd.checked) (os := os) (X := fun w _ => laidMetH Tryd.prog Rows.leapLengthsRow.laid w) false (World.doorLaid Tryd.prog 400 os) #[.agg #[.slice none 0 0, .bool false, .int .i64 0], .int .i64 0] 8 rfl (World.shaped_of_RefB (by kernel_rfl) (by kernel_rfl)) (by kernel_rfl) (by kernel_rfl) (by kernel_rfl) (door_met os _)) ?_
  intro W base args ds gs before hval0 hW _ _ hL _
  rw [MakeChecks.laidMetH_plain _ _ _ (by kernel_rfl)] at hL
  have T0 := day.tabs_of hL (by repeat first | exact List.Mem.head _ | refine List.Mem.tail _ ?_) (by repeat first | exact List.Mem.head _ | refine List.Mem.tail _ ?_)
  have hval : ∀ (j : Nat) t v, Tryd.f8.params[j]? = some t → args[j]? = some v → Value.okWide Tryd.prog W .any base t v := hval0
  have hW' := hW
  obtain ⟨p, q, hA0, hV, rfl, hfz, hnd⟩ := hW
  have hA : DataW.TrodAll enc Tryd.prog W 0 (fun _ => true) true Tryd.f8.params.toList args.toList ds p := hA0
  rw [Tryd.params8] at hA hval
  obtain ⟨v0, vs0, d0, ds0, p0, q0, hargs, rfl, rfl, h0, r0⟩ := trodAll_cons hA
  obtain ⟨v1, vs1, d1, ds1, p1, q1, rfl, rfl, rfl, h1, r1⟩ := trodAll_cons r0
  obtain ⟨rfl, rfl, rfl⟩ := trodAll_nil r1
  obtain rfl : args = #[v0, v1] := by cases args; simp_all
  obtain ⟨rfl, rfl⟩ := trodVars_none hV
  clear hA0 hval0
  obtain ⟨A0_, k0_, l0_, b0_, x0_, rfl, q0_, n0_, m0_, w0_⟩ := leap.open_table (hval 0 24 v0 rfl rfl) h0
  obtain ⟨a1, rfl, hd1, hp1, w1⟩ := open_int Tryd.underlying3 (hval 1 3 v1 rfl rfl) h1
  refine (Calls.mono (R := fun e w' => e = .returned (.bool true) ∧ Below W.heap.size W w') ?_ fun e W' ⟨he, hb⟩ => ?_)
  · exact walk W l0_ A0_ k0_ b0_ x0_ q0_ n0_ m0_ w0_ a1 (bounds_i64 w1) T0
  · subst he
    exact ⟨_, rfl, law.post law.laidOut (by kernel_rfl) rfl rfl Tryd.underlying4 rfl hW' hb⟩

theorem over : Rows.leapLengthsRow.holds Tryd.pinned (OpenSpec.ofChange Rows.leapLengthsSpec) :=
  OpenClaim.holds_of_wide 8 Tryd.f8 rfl rfl rfl rfl rfl rfl rfl ⟨rfl, rfl, rfl, rfl, rfl⟩ rfl rfl rfl rfl rfl (by kernel_rfl) Tryd.func8 (by kernel_rfl)
    (of_decide_eq_true (by kernel_rfl)) (by unfold Func.isWrapper; first | (rw [if_pos (by decide +kernel)]; kernel_rfl) | (rw [if_neg (by decide +kernel)]; exact ⟨rfl, rfl⟩))
    (fun os started H enc _ => lifted os started H enc)

theorem proved : Rows.LeapLengthsCardSaid :=
  Claim7.holds_tied_plain_at .later [] _ _ _ _ over (fun _ h => by cases h) (by kernel_rfl) (fun _ h => by cases h) leapLengths_row_tie rfl ⟨rfl, rfl⟩ (by kernel_rfl) rfl
    (fun f fn hf hfn => by
      obtain rfl : f = 8 := Option.some.inj ((show Tryd.prog.funcNamed "epact/epactlaw09.LeapLengths" = some 8 by kernel_rfl).symm.trans hf) |>.symm
      obtain rfl : fn = Tryd.f8 := (Option.some.inj (Tryd.func8.symm.trans hfn)).symm
      exact ⟨by kernel_rfl, fun j t ht => by
        have hall : (Tryd.f8.params.toList.all fun u => !Tryd.prog.wantsStandIn u) = true := by kernel_rfl
        have hm : t ∈ Tryd.f8.params.toList := by rw [Array.mem_toList_iff]; exact Array.mem_of_getElem? ht
        exact (show Tryd.prog.wantsStandIn t = false by simpa using List.all_eq_true.1 hall t hm)⟩)
    (by kernel_rfl)
end Go.Proofs.YtefnlnehdogiaaaDoor.leapLengths
