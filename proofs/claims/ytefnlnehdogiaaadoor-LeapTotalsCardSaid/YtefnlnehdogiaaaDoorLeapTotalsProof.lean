/-
  LeapTotals (the stage's theorem): the Total of the next day is that of the day, and its Step, and it is nothing up to the first leap, for every right table and every day from -2^40 to 2^40. Condition: the row's own (the listed tables hold what their initialisers lay; the card ties that).
-/
import Derived.Test.YtefnlnehdogiaaaDoorLeapSmall
import Derived.Test.YtefnlnehdogiaaaDoorLeapLaw
import Derived.Test.YtefnlnehdogiaaaDoorCards
import Derived.Test.YtefnlnehdogiaaaDoorTie
import Derived.SevenTiedAt
namespace Go.Proofs.YtefnlnehdogiaaaDoor.leapTotals
open Go.ChangeShapes Go.WideShapes Go.ChangeAt Go.RowKit
open leap lm mem
set_option linter.unusedVariables false

set_option maxHeartbeats 4000000 in
set_option maxRecDepth 100000 in
theorem walk (w : World) (l : List Lp) (A : Option Addr) (c : Nat) (has : Bool) (x : Int) (hl : Lps w A l) (hn : l.length ≤ 9223372036854775807) (hc : l.length ≤ c) (hx : -9223372036854775808 ≤ x ∧ x ≤ 9223372036854775807) (d : Int) (hd : -9223372036854775808 ≤ d ∧ d ≤ 9223372036854775807) (T : day.Tabs w) :
    Calls Tryd.prog 4 #[.agg #[.slice A l.length c, .bool has, .int .i64 x], .int .i64 d] w fun e w' => e = .returned (.bool true) ∧ Below w.heap.size w w' := by
  have hw0 : Below w.heap.size w (w.alloc (.cells #[.slice A l.length c, .bool has, .int .i64 x] 24)) := bal (Below.refl _ _) _
  have box : (w.alloc (.cells #[.slice A l.length c, .bool has, .int .i64 x] 24)).heap[w.heap.size]? = some (.cells (tcs A l.length c has x) 24) := hp_new w _
  have hl0 := hl.below hw0
  have T0 : day.Tabs _ := T.below hw0
  go_enter Tryd.func4, Tryd.ntmps4
  go_wp2_with fail
  generalize w.alloc (.cells #[.slice A l.length c, .bool has, .int .i64 x] 24) = W0 at *
  have HW := Lib.hid hw0
  clear hw0 hl T
  generalize hN : w.heap.size = N at *
  have hA : Below W0.heap.size W0 W0 := Below.refl _ _
  have SM : Hid (∀ W, Below W0.heap.size W0 W → Calls Tryd.prog 9 #[] W fun e w' => e = .returned (.bool true) ∧ Below W.heap.size W w') := fun W hb => small_at W (T0.below hb)
  have FE : Hid (∀ W, Below W0.heap.size W0 W → Calls Tryd.prog 10 #[.agg #[.slice A l.length c, .bool has, .int .i64 x]] W fun e w' => e = .returned (.bool (decide (l.length ≤ 300))) ∧ Below W.heap.size W w') := fun W hb => few_at A l.length c has x W hn
  have RI : Hid (∀ W, Below W0.heap.size W0 W → Calls Tryd.prog 13 #[.agg #[.slice A l.length c, .bool has, .int .i64 x]] W fun e w' => e = .returned (.bool (ce l has x == 0)) ∧ Below W.heap.size W w') := fun W hb => right_at l A c has x W (T0.below hb) (hl0.below hb) hn
  have TC := Lib.hid (fun W (hb : Below W0.heap.size W0 W) => tcs_cells (kept box hb))
  have EX : Hid (∀ W, Below W0.heap.size W0 W → Below w.heap.size w W) := fun W hb => by rw [hN]; exact HW.out.trans (hb.mono (by have := HW.out.size; rw [hN] at this; exact this))
  obtain ⟨c0, c1, c2⟩ := TC.out _ hA
  by_cases g1 : l.length ≤ 300
  · rw [decide_eq_true g1] at FE
    by_cases g2 : ce l has x = 0
    · have hg := good_of g2
      have g2' : (ce l has x == 0) = true := by simpa using g2
      rw [g2'] at RI
      by_cases g3 : d < -1099511627776
      · have t : decide (d < -1099511627776) = true := by simpa using g3
        clear T0 hl0 box g3 hg g2 g2'
        generalize l.length = n at *
        go_wp2_with (first
          | (go_at_call 9; (with_reducible refine (SM.out _ hA).mono ?_; rintro e w1 ⟨rfl, hb1⟩; have hA := btr hA hb1; clear c0 c1 c2; obtain ⟨c0, c1, c2⟩ := TC.out _ hA; (try have y0 := YC.out _ hA)))
          | (go_at_call 10; (with_reducible refine (FE.out _ hA).mono ?_; rintro e w1 ⟨rfl, hb1⟩; have hA := btr hA hb1; clear c0 c1 c2; obtain ⟨c0, c1, c2⟩ := TC.out _ hA; (try have y0 := YC.out _ hA)))
          | (go_at_call 13; (with_reducible refine (RI.out _ hA).mono ?_; rintro e w1 ⟨rfl, hb1⟩; have hA := btr hA hb1; clear c0 c1 c2; obtain ⟨c0, c1, c2⟩ := TC.out _ hA; (try have y0 := YC.out _ hA))))
        go_ret
        exact ⟨rfl, EX.out _ hA⟩
      · have t : decide (d < -1099511627776) = false := by simp; omega
        by_cases g4 : 1099511627776 < d
        · have t2 : decide (1099511627776 < d) = true := by simpa using g4
          clear T0 hl0 box g3 g4 hg g2 g2'
          generalize l.length = n at *
          go_wp2_with (first
            | (go_at_call 9; (with_reducible refine (SM.out _ hA).mono ?_; rintro e w1 ⟨rfl, hb1⟩; have hA := btr hA hb1; clear c0 c1 c2; obtain ⟨c0, c1, c2⟩ := TC.out _ hA; (try have y0 := YC.out _ hA)))
            | (go_at_call 10; (with_reducible refine (FE.out _ hA).mono ?_; rintro e w1 ⟨rfl, hb1⟩; have hA := btr hA hb1; clear c0 c1 c2; obtain ⟨c0, c1, c2⟩ := TC.out _ hA; (try have y0 := YC.out _ hA)))
            | (go_at_call 13; (with_reducible refine (RI.out _ hA).mono ?_; rintro e w1 ⟨rfl, hb1⟩; have hA := btr hA hb1; clear c0 c1 c2; obtain ⟨c0, c1, c2⟩ := TC.out _ hA; (try have y0 := YC.out _ hA))))
          go_ret
          exact ⟨rfl, EX.out _ hA⟩
        · have t2 : decide (1099511627776 < d) = false := by simp; omega
          have e1 := (next_tot hg d).1
          have e2 := (next_tot hg d).2
          have bd := tot_bd hg (fnd l d) (fnd_le l d)
          have bs := stp_bd hg d
          have fl := fnd_le l d
          have fl2 := fnd_le l (d + 1)
          have FF : Hid (l.length = 0 ∨ d ≤ dy l 0 → tot l (fnd l d) = 0) := fun h => by rw [fnd_first h]; rfl
          have TO : Hid (∀ W, Below W0.heap.size W0 W → Calls Tryd.prog 22 #[.agg #[.slice A l.length c, .bool has, .int .i64 x], .int .i64 d] W fun e w' => e = .returned (.int .i64 (tot l (fnd l d))) ∧ Below W.heap.size W w') := fun W hb => total_at l A c has x d W (hl0.below hb) hg hc
          have T2 : Hid (∀ W, Below W0.heap.size W0 W → Calls Tryd.prog 22 #[.agg #[.slice A l.length c, .bool has, .int .i64 x], .int .i64 (d + 1)] W fun e w' => e = .returned (.int .i64 (tot l (fnd l d) + stp l d)) ∧ Below W.heap.size W w') := fun W hb => by
            have := total_at l A c has x (d + 1) W (hl0.below hb) hg hc
            rw [e1] at this
            exact this
          have FI : Hid (∀ W, Below W0.heap.size W0 W → Calls Tryd.prog 20 #[.agg #[.slice A l.length c, .bool has, .int .i64 x], .int .i64 d] W fun e w' => e = .returned (.int .i64 (fnd l d : Nat)) ∧ Below W.heap.size W w') := fun W hb => find_at l A c has x d W (hl0.below hb) hg
          have F2 : Hid (∀ W, Below W0.heap.size W0 W → Calls Tryd.prog 20 #[.agg #[.slice A l.length c, .bool has, .int .i64 x], .int .i64 (d + 1)] W fun e w' => e = .returned (.int .i64 (fnd l (d + 1) : Nat)) ∧ Below W.heap.size W w') := fun W hb => find_at l A c has x (d + 1) W (hl0.below hb) hg
          have ST : Hid (∀ W, Below W0.heap.size W0 W → Calls Tryd.prog 24 #[.agg #[.slice A l.length c, .bool has, .int .i64 x], .int .i64 d] W fun e w' => e = .returned (.int .i64 (stp l d)) ∧ Below W.heap.size W w') := fun W hb => step_at l A c has x d W (hl0.below hb) hg
          have LE : Hid (∀ W, Below W0.heap.size W0 W → Calls Tryd.prog 26 #[.agg #[.slice A l.length c, .bool has, .int .i64 x], .int .i64 d] W fun e w' => e = .returned (.int .i64 (86400 + stp l d)) ∧ Below W.heap.size W w') := fun W hb => length_at l A c has x d W (hl0.below hb) hg
          have HL : Hid (∀ W, Below W0.heap.size W0 W → l.length ≠ 0 → ∃ b o, A = some ⟨b, o, none⟩ ∧ W.cell? ⟨b, o, none⟩ = some (.int .i64 (dy l 0))) := fun W hb h0 => by
            obtain ⟨b, o, e, hb', hcc⟩ := hl0.below hb h0
            have := (hcc 0 (by omega)).1
            rw [Nat.zero_mul, Nat.add_zero] at this
            exact ⟨b, o, e, this⟩
          clear T0 hl0 box hg g2 g2' e1
          generalize tot l (fnd l d) = S at *
          generalize stp l d = z at *
          generalize fnd l (d + 1) = f' at *
          generalize fnd l d = f at *
          have t3 : decide (-(f : Int) ≤ S) = true := by simp; omega
          have t4 : decide (S ≤ (f : Int)) = true := by simp; omega
          have t5 : decide ((f : Int) ≤ (f' : Int)) = true := by simp; omega
          have v1 : IntKind.i64.wrap (d + 1) = d + 1 := IntWalk.i64_in _ (by omega)
          have v2 : IntKind.i64.wrap (86400 + z) = 86400 + z := IntWalk.i64_in _ (by omega)
          have v3 : IntKind.i64.wrap (S + z) = S + z := IntWalk.i64_in _ (by omega)
          have v4 : IntKind.i64.wrap (-(f : Int)) = -(f : Int) := IntWalk.i64_in _ (by omega)
          by_cases h0 : l.length = 0
          · have t7 : (S == 0) = true := by have := FF.out (Or.inl h0); simpa using this
            clear HL FF
            generalize l.length = n at *
            subst h0
            go_wp2_with (first
              | (go_at_call 9; (with_reducible refine (SM.out _ hA).mono ?_; rintro e w1 ⟨rfl, hb1⟩; have hA := btr hA hb1; clear c0 c1 c2; obtain ⟨c0, c1, c2⟩ := TC.out _ hA; (try have y0 := YC.out _ hA)))
              | (go_at_call 10; (with_reducible refine (FE.out _ hA).mono ?_; rintro e w1 ⟨rfl, hb1⟩; have hA := btr hA hb1; clear c0 c1 c2; obtain ⟨c0, c1, c2⟩ := TC.out _ hA; (try have y0 := YC.out _ hA)))
              | (go_at_call 13; (with_reducible refine (RI.out _ hA).mono ?_; rintro e w1 ⟨rfl, hb1⟩; have hA := btr hA hb1; clear c0 c1 c2; obtain ⟨c0, c1, c2⟩ := TC.out _ hA; (try have y0 := YC.out _ hA)))
              | (go_at_call 22; (with_reducible refine (TO.out _ hA).mono ?_; rintro e w1 ⟨rfl, hb1⟩; have hA := btr hA hb1; clear c0 c1 c2; obtain ⟨c0, c1, c2⟩ := TC.out _ hA; (try have y0 := YC.out _ hA)))
              | (go_at_call 20; (with_reducible refine (FI.out _ hA).mono ?_; rintro e w1 ⟨rfl, hb1⟩; have hA := btr hA hb1; clear c0 c1 c2; obtain ⟨c0, c1, c2⟩ := TC.out _ hA; (try have y0 := YC.out _ hA))))
            have cq0 := fun d' os => cell_regrown (w := w1) c0 d' os
            have cq1 := fun d' os => cell_regrown (w := w1) c1 d' os
            have cq2 := fun d' os => cell_regrown (w := w1) c2 d' os
            have XQ0 := Lib.hid (fun d' os => below_at (w := w1) (T := fun W => Below W0.heap.size W0 W) T2.out (fun W hb => btr hA hb) d' os)
            have XQ1 := Lib.hid (fun d' os => below_at (w := w1) (T := fun W => Below W0.heap.size W0 W) F2.out (fun W hb => btr hA hb) d' os)
            have XQ2 := Lib.hid (fun d' os => below_at (w := w1) (T := fun W => Below W0.heap.size W0 W) ST.out (fun W hb => btr hA hb) d' os)
            have XQ3 := Lib.hid (fun d' os => below_at (w := w1) (T := fun W => Below W0.heap.size W0 W) LE.out (fun W hb => btr hA hb) d' os)
            refine wp_region_quiet_below (by kernel_rfl) (by kernel_rfl) ?_
            repeat (quiet_step (first | (go_at_call 22; with_reducible exact XQ0.out _ _) | (go_at_call 20; with_reducible exact XQ1.out _ _) | (go_at_call 24; with_reducible exact XQ2.out _ _) | (go_at_call 26; with_reducible exact XQ3.out _ _)))
            refine wpQuiet_nil ?_
            intro _ hw'
            obtain ⟨⟨dq, osq⟩, hw''⟩ := hw'
            subst hw''
            have hA := btr hA (below_regrown _ dq osq)
            clear c0 c1 c2 cq0 cq1 cq2 XQ0 XQ1 XQ2 XQ3
            obtain ⟨c0, c1, c2⟩ := TC.out _ hA
            generalize Sort.grow (redrawn w1 dq) osq = W7 at *
            go_wp2
            go_ret
            exact ⟨ret_bool (by first | rfl | simp), EX.out _ hA⟩
          · have H1 := Lib.hid (fun W hb => HL.out W hb h0)
            obtain ⟨b, o, rfl, _⟩ := H1.out _ hA
            have YC : Hid (∀ W, Below W0.heap.size W0 W → W.cell? ⟨b, o, none⟩ = some (.int .i64 (dy l 0))) := fun W hb => by
              obtain ⟨b', o', e, y⟩ := H1.out W hb
              cases e
              exact y
            have q0 : ((l.length : Int) == 0) = false := by rw [beq_eq_false_iff_ne]; omega
            have ql : (0 : Int) < (l.length : Int) := by omega
            by_cases h1 : d ≤ dy l 0
            · have t7 : (S == 0) = true := by have := FF.out (Or.inr h1); simpa using this
              have t6 : decide (d ≤ dy l 0) = true := by simpa using h1
              clear HL FF H1 h0
              generalize dy l 0 = D at *
              generalize l.length = n at *
              go_wp2_with (first
                | (go_at_call 9; (with_reducible refine (SM.out _ hA).mono ?_; rintro e w1 ⟨rfl, hb1⟩; have hA := btr hA hb1; clear c0 c1 c2; obtain ⟨c0, c1, c2⟩ := TC.out _ hA; (try have y0 := YC.out _ hA)))
                | (go_at_call 10; (with_reducible refine (FE.out _ hA).mono ?_; rintro e w1 ⟨rfl, hb1⟩; have hA := btr hA hb1; clear c0 c1 c2; obtain ⟨c0, c1, c2⟩ := TC.out _ hA; (try have y0 := YC.out _ hA)))
                | (go_at_call 13; (with_reducible refine (RI.out _ hA).mono ?_; rintro e w1 ⟨rfl, hb1⟩; have hA := btr hA hb1; clear c0 c1 c2; obtain ⟨c0, c1, c2⟩ := TC.out _ hA; (try have y0 := YC.out _ hA)))
                | (go_at_call 22; (with_reducible refine (TO.out _ hA).mono ?_; rintro e w1 ⟨rfl, hb1⟩; have hA := btr hA hb1; clear c0 c1 c2; obtain ⟨c0, c1, c2⟩ := TC.out _ hA; (try have y0 := YC.out _ hA)))
                | (go_at_call 20; (with_reducible refine (FI.out _ hA).mono ?_; rintro e w1 ⟨rfl, hb1⟩; have hA := btr hA hb1; clear c0 c1 c2; obtain ⟨c0, c1, c2⟩ := TC.out _ hA; (try have y0 := YC.out _ hA))))
              have cq0 := fun d' os => cell_regrown (w := w1) c0 d' os
              have cq1 := fun d' os => cell_regrown (w := w1) c1 d' os
              have cq2 := fun d' os => cell_regrown (w := w1) c2 d' os
              have XQ0 := Lib.hid (fun d' os => below_at (w := w1) (T := fun W => Below W0.heap.size W0 W) T2.out (fun W hb => btr hA hb) d' os)
              have XQ1 := Lib.hid (fun d' os => below_at (w := w1) (T := fun W => Below W0.heap.size W0 W) F2.out (fun W hb => btr hA hb) d' os)
              have XQ2 := Lib.hid (fun d' os => below_at (w := w1) (T := fun W => Below W0.heap.size W0 W) ST.out (fun W hb => btr hA hb) d' os)
              have XQ3 := Lib.hid (fun d' os => below_at (w := w1) (T := fun W => Below W0.heap.size W0 W) LE.out (fun W hb => btr hA hb) d' os)
              refine wp_region_quiet_below (by kernel_rfl) (by kernel_rfl) ?_
              repeat (quiet_step (first | (go_at_call 22; with_reducible exact XQ0.out _ _) | (go_at_call 20; with_reducible exact XQ1.out _ _) | (go_at_call 24; with_reducible exact XQ2.out _ _) | (go_at_call 26; with_reducible exact XQ3.out _ _)))
              refine wpQuiet_nil ?_
              intro _ hw'
              obtain ⟨⟨dq, osq⟩, hw''⟩ := hw'
              subst hw''
              have hA := btr hA (below_regrown _ dq osq)
              clear c0 c1 c2 cq0 cq1 cq2 XQ0 XQ1 XQ2 XQ3
              obtain ⟨c0, c1, c2⟩ := TC.out _ hA
              generalize Sort.grow (redrawn w1 dq) osq = W7 at *
              go_wp2
              go_ret
              exact ⟨ret_bool (by first | rfl | simp), EX.out _ hA⟩
            · have t6 : decide (d ≤ dy l 0) = false := by simp; omega
              clear HL FF H1 h0
              generalize dy l 0 = D at *
              generalize l.length = n at *
              go_wp2_with (first
                | (go_at_call 9; (with_reducible refine (SM.out _ hA).mono ?_; rintro e w1 ⟨rfl, hb1⟩; have hA := btr hA hb1; clear c0 c1 c2; obtain ⟨c0, c1, c2⟩ := TC.out _ hA; (try have y0 := YC.out _ hA)))
                | (go_at_call 10; (with_reducible refine (FE.out _ hA).mono ?_; rintro e w1 ⟨rfl, hb1⟩; have hA := btr hA hb1; clear c0 c1 c2; obtain ⟨c0, c1, c2⟩ := TC.out _ hA; (try have y0 := YC.out _ hA)))
                | (go_at_call 13; (with_reducible refine (RI.out _ hA).mono ?_; rintro e w1 ⟨rfl, hb1⟩; have hA := btr hA hb1; clear c0 c1 c2; obtain ⟨c0, c1, c2⟩ := TC.out _ hA; (try have y0 := YC.out _ hA)))
                | (go_at_call 22; (with_reducible refine (TO.out _ hA).mono ?_; rintro e w1 ⟨rfl, hb1⟩; have hA := btr hA hb1; clear c0 c1 c2; obtain ⟨c0, c1, c2⟩ := TC.out _ hA; (try have y0 := YC.out _ hA)))
                | (go_at_call 20; (with_reducible refine (FI.out _ hA).mono ?_; rintro e w1 ⟨rfl, hb1⟩; have hA := btr hA hb1; clear c0 c1 c2; obtain ⟨c0, c1, c2⟩ := TC.out _ hA; (try have y0 := YC.out _ hA))))
              have cq0 := fun d' os => cell_regrown (w := w1) c0 d' os
              have cq1 := fun d' os => cell_regrown (w := w1) c1 d' os
              have cq2 := fun d' os => cell_regrown (w := w1) c2 d' os
              have XQ0 := Lib.hid (fun d' os => below_at (w := w1) (T := fun W => Below W0.heap.size W0 W) T2.out (fun W hb => btr hA hb) d' os)
              have XQ1 := Lib.hid (fun d' os => below_at (w := w1) (T := fun W => Below W0.heap.size W0 W) F2.out (fun W hb => btr hA hb) d' os)
              have XQ2 := Lib.hid (fun d' os => below_at (w := w1) (T := fun W => Below W0.heap.size W0 W) ST.out (fun W hb => btr hA hb) d' os)
              have XQ3 := Lib.hid (fun d' os => below_at (w := w1) (T := fun W => Below W0.heap.size W0 W) LE.out (fun W hb => btr hA hb) d' os)
              refine wp_region_quiet_below (by kernel_rfl) (by kernel_rfl) ?_
              repeat (quiet_step (first | (go_at_call 22; with_reducible exact XQ0.out _ _) | (go_at_call 20; with_reducible exact XQ1.out _ _) | (go_at_call 24; with_reducible exact XQ2.out _ _) | (go_at_call 26; with_reducible exact XQ3.out _ _)))
              refine wpQuiet_nil ?_
              intro _ hw'
              obtain ⟨⟨dq, osq⟩, hw''⟩ := hw'
              subst hw''
              have hA := btr hA (below_regrown _ dq osq)
              clear c0 c1 c2 cq0 cq1 cq2 XQ0 XQ1 XQ2 XQ3
              obtain ⟨c0, c1, c2⟩ := TC.out _ hA
              generalize Sort.grow (redrawn w1 dq) osq = W7 at *
              go_wp2
              go_ret
              exact ⟨ret_bool (by first | rfl | simp), EX.out _ hA⟩
    · have g2' : (ce l has x == 0) = false := by simpa using g2
      rw [g2'] at RI
      clear T0 hl0 box g2 g2'
      generalize l.length = n at *
      go_wp2_with (first
        | (go_at_call 9; (with_reducible refine (SM.out _ hA).mono ?_; rintro e w1 ⟨rfl, hb1⟩; have hA := btr hA hb1; clear c0 c1 c2; obtain ⟨c0, c1, c2⟩ := TC.out _ hA; (try have y0 := YC.out _ hA)))
        | (go_at_call 10; (with_reducible refine (FE.out _ hA).mono ?_; rintro e w1 ⟨rfl, hb1⟩; have hA := btr hA hb1; clear c0 c1 c2; obtain ⟨c0, c1, c2⟩ := TC.out _ hA; (try have y0 := YC.out _ hA)))
        | (go_at_call 13; (with_reducible refine (RI.out _ hA).mono ?_; rintro e w1 ⟨rfl, hb1⟩; have hA := btr hA hb1; clear c0 c1 c2; obtain ⟨c0, c1, c2⟩ := TC.out _ hA; (try have y0 := YC.out _ hA))))
      go_ret
      exact ⟨rfl, EX.out _ hA⟩
  · rw [decide_eq_false g1] at FE
    clear T0 hl0 box RI g1
    generalize l.length = n at *
    go_wp2_with (first
      | (go_at_call 9; (with_reducible refine (SM.out _ hA).mono ?_; rintro e w1 ⟨rfl, hb1⟩; have hA := btr hA hb1; clear c0 c1 c2; obtain ⟨c0, c1, c2⟩ := TC.out _ hA; (try have y0 := YC.out _ hA)))
      | (go_at_call 10; (with_reducible refine (FE.out _ hA).mono ?_; rintro e w1 ⟨rfl, hb1⟩; have hA := btr hA hb1; clear c0 c1 c2; obtain ⟨c0, c1, c2⟩ := TC.out _ hA; (try have y0 := YC.out _ hA))))
    go_ret
    exact ⟨rfl, EX.out _ hA⟩
theorem door_met (os : Os) (args : Array Value) : laidMetH Tryd.prog Rows.leapTotalsRow.laid ((World.doorLaid Tryd.prog 400 os).forCall (fun _ _ => 0) ⟨#[], args, []⟩).memory :=
  laidMetH_of_parts3 (fuel := 8) (laidMet_of_run' 8 (by kernel_rfl) (by kernel_rfl)) (by kernel_rfl) (by kernel_rfl)
set_option maxRecDepth 100000 in
theorem lifted (os : Os) (started : os.Started) (H : Type) (enc : TypeId × Value → H) :
    ReturnsInHanded {} Tryd.checked os 4 .any (fun w args => (Rows.leapTotalsSpec.pre enc Tryd.prog Tryd.f4 [] false w args ∧ laidMetH Tryd.prog Rows.leapTotalsRow.laid w) ∧ sizedMet enc Tryd.prog Tryd.f4 (OpenSpec.ofChange Rows.leapTotalsSpec) false w args)
      (Rows.leapTotalsSpec.post enc Tryd.prog Tryd.f4 false true false false) := by
  refine returnsInHanded_of_change_and (C := Tryd.checked) (X := fun w _ => laidMetH Tryd.prog Rows.leapTotalsRow.laid w) (fun _ _ _ hh h => h.of_heap hh) law.own started (by kernel_rfl) Tryd.func4
    (ChangeSpec.witness_shaped (enc := enc) (C := Tryd.checked) (os := os) (X := fun w _ => laidMetH Tryd.prog Rows.leapTotalsRow.laid w) false (World.doorLaid Tryd.prog 400 os) #[.agg #[.slice none 0 0, .bool false, .int .i64 0], .int .i64 0] 8 rfl (World.shaped_of_RefB (by kernel_rfl) (by kernel_rfl)) (by kernel_rfl) (by kernel_rfl) (by kernel_rfl) (door_met os _)) ?_
  intro W base args ds gs before hval0 hW _ _ hL _
  rw [MakeChecks.laidMetH_plain _ _ _ (by kernel_rfl)] at hL
  have T0 := day.tabs_of hL (by repeat first | exact List.Mem.head _ | refine List.Mem.tail _ ?_) (by repeat first | exact List.Mem.head _ | refine List.Mem.tail _ ?_)
  have hval : ∀ (j : Nat) t v, Tryd.f4.params[j]? = some t → args[j]? = some v → Value.okWide Tryd.prog W .any base t v := hval0
  have hW' := hW
  obtain ⟨p, q, hA0, hV, rfl, hfz, hnd⟩ := hW
  have hA : DataW.TrodAll enc Tryd.prog W 0 (fun _ => true) true Tryd.f4.params.toList args.toList ds p := hA0
  rw [Tryd.params4] at hA hval
  obtain ⟨v0, vs0, d0, ds0, p0, q0, hargs, rfl, rfl, h0, r0⟩ := trodAll_cons hA
  obtain ⟨v1, vs1, d1, ds1, p1, q1, rfl, rfl, rfl, h1, r1⟩ := trodAll_cons r0
  obtain ⟨rfl, rfl, rfl⟩ := trodAll_nil r1
  obtain rfl : args = #[v0, v1] := by cases args; simp_all
  obtain ⟨rfl, rfl⟩ := trodVars_none hV
  clear hA0 hval0
  obtain ⟨A0_, k0_, l0_, b0_, x0_, rfl, q0_, n0_, m0_, w0_⟩ := leap.open_table (hval 0 24 v0 rfl rfl) h0
  obtain ⟨a1, rfl, hd1, hp1, w1⟩ := open_int Tryd.underlying3 (hval 1 3 v1 rfl rfl) h1
  refine (Calls.mono (R := fun e w' => e = .returned (.bool true) ∧ Below W.heap.size W w') ?_ fun e W' ⟨he, hb⟩ => ?_)
  · exact walk W l0_ A0_ k0_ b0_ x0_ q0_ n0_ m0_ w0_ a1 (bounds_i64 w1) T0
  · subst he
    exact ⟨_, rfl, law.post law.laidOut (by kernel_rfl) rfl rfl Tryd.underlying4 rfl hW' hb⟩

theorem over : Rows.leapTotalsRow.holds Tryd.pinned (OpenSpec.ofChange Rows.leapTotalsSpec) :=
  OpenClaim.holds_of_wide 4 Tryd.f4 rfl rfl rfl rfl rfl rfl rfl ⟨rfl, rfl, rfl, rfl, rfl⟩ rfl rfl rfl rfl rfl (by kernel_rfl) Tryd.func4 (by kernel_rfl)
    (of_decide_eq_true (by kernel_rfl)) (by unfold Func.isWrapper; first | (rw [if_pos (by decide +kernel)]; kernel_rfl) | (rw [if_neg (by decide +kernel)]; exact ⟨rfl, rfl⟩))
    (fun os started H enc _ => lifted os started H enc)

theorem proved : Rows.LeapTotalsCardSaid :=
  Claim7.holds_tied_plain_at .later [] _ _ _ _ over (fun _ h => by cases h) (by kernel_rfl) (fun _ h => by cases h) leapTotals_row_tie rfl ⟨rfl, rfl⟩ (by kernel_rfl) rfl
    (fun f fn hf hfn => by
      obtain rfl : f = 4 := Option.some.inj ((show Tryd.prog.funcNamed "epact/epactlaw09.LeapTotals" = some 4 by kernel_rfl).symm.trans hf) |>.symm
      obtain rfl : fn = Tryd.f4 := (Option.some.inj (Tryd.func4.symm.trans hfn)).symm
      exact ⟨by kernel_rfl, fun j t ht => by
        have hall : (Tryd.f4.params.toList.all fun u => !Tryd.prog.wantsStandIn u) = true := by kernel_rfl
        have hm : t ∈ Tryd.f4.params.toList := by rw [Array.mem_toList_iff]; exact Array.mem_of_getElem? ht
        exact (show Tryd.prog.wantsStandIn t = false by simpa using List.all_eq_true.1 hall t hm)⟩)
    (by kernel_rfl)
end Go.Proofs.YtefnlnehdogiaaaDoor.leapTotals
