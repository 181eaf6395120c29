/-
  RecordDays: a leap's record is where a day would end, with all leap seconds counted, and a day more than that is no other's, for every table, and every place. Condition: the row's own (the listed tables hold what their initialisers lay; the card ties that).
-/
import Derived.Test.YtooineinpgiofaaDoorRecLaw
import Derived.Test.YtooineinpgiofaaDoorCards
import Derived.Test.YtooineinpgiofaaDoorTie
import Derived.SevenTiedAt
namespace Go.Proofs.YtooineinpgiofaaDoor.recordDays
open Go.ChangeShapes Go.WideShapes Go.ChangeAt Go.RowKit
open rec rm mem
open lm (Lp dy tot ce fnd stp)
open leap (Lps rl tcs tcs_cells)
set_option linter.unusedVariables false
set_option maxRecDepth 100000

theorem far {l : List Lp} (h : lm.Good l) {k : Nat} (hk : k < l.length) : ∀ i, i < k → dy l i + 28 ≤ dy l k := by
  intro i hi
  have a := h.far hk (by omega)
  by_cases e : i = k - 1
  · subst e; omega
  · have := h.lt (i := k - 1) (by omega) i (by omega); omega
theorem rat_le {l : List Lp} (h : lm.Good l) {k : Nat} (hk : k < l.length) : ∀ i, i < k → rat l i + 2000000 ≤ 86400 * dy l k + tot l k := by
  intro i hi
  have a := far h hk i hi
  have b := lm.tot_bd h i (by omega)
  have c := lm.tot_bd h k (by omega)
  have := h.len
  unfold rat
  split <;> omega
theorem facts {l : List Lp} {has : Bool} {x : Int} (h : ce l has x = 0) {k : Nat} (hk : k < l.length) :
    rm.sm (recs l has x) (86400 * dy l k + tot l k) = tot l k ∧ rm.sm (recs l has x) (rat l k) = tot l k + lm.st l k ∧ sp (recs l has x) (rat l k) = lm.st l k ∧ sp (recs l has x) (rat l k + 86400) = 0 := by
  have g := lm.good_of h
  have hO := recs_ok h
  obtain ⟨_, hnl⟩ := recs_hasX g has x
  have ek := recs_ra l has x hk
  have c := lm.tot_bd g k (by omega)
  have hlen := g.len
  have z := g.step hk
  have rk : 86400 * dy l k + tot l k + 86000 ≤ rat l k := by unfold rat; split <;> omega
  refine ⟨?_, ?_, ?_, ?_⟩
  · have e : fx (recs l has x) (86400 * dy l k + tot l k + 1) = k := fx_is (by omega) (fun i hi => by rw [recs_ra l has x (by omega)]; have := rat_le g hk i hi; omega) (fun _ => by rw [ek]; omega)
    unfold rm.sm
    rw [e, recs_ahd l has x (by omega)]
  · have e : fx (recs l has x) (rat l k + 1) = k + 1 := fx_is (by omega) (fun i hi => by
      rcases Nat.eq_or_lt_of_le (Nat.le_of_lt_succ hi) with rfl | q
      · rw [ek]; omega
      · rw [recs_ra l has x (by omega)]; have := rat_le g hk i q; omega) (fun q => by
        have := hO.lt (i := k + 1) (by omega) k (by omega)
        rw [ek] at this; omega)
    unfold rm.sm
    rw [e, recs_ahd l has x (by omega), tot]
  · have := (sp_at hO (i := k) (by omega)).2
    rw [ek, recs_rc l has x hk, recs_ahd l has x (by omega), tot] at this
    omega
  · refine sp_none fun i hi => ?_
    rcases Nat.lt_trichotomy i k with q | q | q
    · have := hO.lt (i := k) (by omega) i q; rw [ek] at this; omega
    · subst q; rw [ek]; omega
    · have := hO.lt (i := i) (by omega) k q; rw [ek] at this; omega
set_option maxHeartbeats 4000000 in
theorem walk (w : World) (l : List Lp) (A : Option Addr) (c : Nat) (has : Bool) (x : Int) (hl : Lps w A l) (hn : l.length ≤ 9223372036854775807) (hc : l.length ≤ c) (hx : -9223372036854775808 ≤ x ∧ x ≤ 9223372036854775807) (p : Int) (hp : -9223372036854775808 ≤ p ∧ p ≤ 9223372036854775807) (T : day.Tabs w) :
    Calls Tryd.prog 6 #[.agg #[.slice A l.length c, .bool has, .int .i64 x], .int .i64 p] w fun e w' => e = .returned (.bool true) ∧ Below w.heap.size w w' := by
  have hw0 : Below w.heap.size w (w.alloc (.cells #[.slice A l.length c, .bool has, .int .i64 x] 24)) := bal (Below.refl _ _) _
  have box : (w.alloc (.cells #[.slice A l.length c, .bool has, .int .i64 x] 24)).heap[w.heap.size]? = some (.cells (tcs A l.length c has x) 24) := hp_new w _
  have hl0 := hl.below hw0
  have T0 : day.Tabs _ := T.below hw0
  go_enter Tryd.func6, Tryd.ntmps6
  go_wp2_with fail
  generalize w.alloc (.cells #[.slice A l.length c, .bool has, .int .i64 x] 24) = W0 at *
  have HW := Lib.hid hw0
  clear hw0 hl T
  generalize hN : w.heap.size = N at *
  have hA : Below W0.heap.size W0 W0 := Below.refl _ _
  have SM : Hid (∀ W, Below W0.heap.size W0 W → Calls Tryd.prog 9 #[] W fun e w' => e = .returned (.bool true) ∧ Below W.heap.size W w') := fun W hb => rec.small_at W (T0.below hb)
  have TC := Lib.hid (fun W (hb : Below W0.heap.size W0 W) => tcs_cells (kept box hb))
  have EX : Hid (∀ W, Below W0.heap.size W0 W → Below w.heap.size w W) := fun W hb => by rw [hN]; exact HW.out.trans (hb.mono (by have := HW.out.size; rw [hN] at this; exact this))
  obtain ⟨c0, c1, c2⟩ := TC.out _ hA
  have FE : Hid (∀ W, Below W0.heap.size W0 W → Calls Tryd.prog 10 #[.agg #[.slice A l.length c, .bool has, .int .i64 x]] W fun e w' => e = .returned (.bool (decide (l.length ≤ 300))) ∧ Below W.heap.size W w') := fun W hb => leap.few_at A l.length c has x W hn
  by_cases g1 : l.length ≤ 300
  · rw [decide_eq_true g1] at FE
    by_cases g2 : p < 0
    · have t : decide (p < 0) = true := by simpa using g2
      clear T0 hl0 box g2
      generalize l.length = n at *
      go_wp2_with (first
        | (go_at_call 9; (with_reducible refine (SM.out _ hA).mono ?_; rintro e w1 ⟨rfl, hb1⟩; have hA := btr hA hb1; clear c0 c1 c2; obtain ⟨c0, c1, c2⟩ := TC.out _ hA; (try have y0 := YC.out _ hA); (try obtain ⟨y0, y1, y2⟩ := YL.out _ hA)))
        | (go_at_call 10; (with_reducible refine (FE.out _ hA).mono ?_; rintro e w1 ⟨rfl, hb1⟩; have hA := btr hA hb1; clear c0 c1 c2; obtain ⟨c0, c1, c2⟩ := TC.out _ hA; (try have y0 := YC.out _ hA); (try obtain ⟨y0, y1, y2⟩ := YL.out _ hA))))
      go_ret
      exact ⟨rfl, EX.out _ hA⟩
    · have t : decide (p < 0) = false := by simp; omega
      by_cases g3 : (l.length : Int) ≤ p
      · have t2 : decide ((l.length : Int) ≤ p) = true := by simpa using g3
        clear T0 hl0 box
        generalize l.length = n at *
        go_wp2_with (first
          | (go_at_call 9; (with_reducible refine (SM.out _ hA).mono ?_; rintro e w1 ⟨rfl, hb1⟩; have hA := btr hA hb1; clear c0 c1 c2; obtain ⟨c0, c1, c2⟩ := TC.out _ hA; (try have y0 := YC.out _ hA); (try obtain ⟨y0, y1, y2⟩ := YL.out _ hA)))
          | (go_at_call 10; (with_reducible refine (FE.out _ hA).mono ?_; rintro e w1 ⟨rfl, hb1⟩; have hA := btr hA hb1; clear c0 c1 c2; obtain ⟨c0, c1, c2⟩ := TC.out _ hA; (try have y0 := YC.out _ hA); (try obtain ⟨y0, y1, y2⟩ := YL.out _ hA))))
        go_ret
        exact ⟨rfl, EX.out _ hA⟩
      · have t2 : decide ((l.length : Int) ≤ p) = false := by simp; omega
        obtain ⟨k, rfl⟩ : ∃ k : Nat, p = (k : Nat) := ⟨p.toNat, by omega⟩
        have hk : k < l.length := by omega
        by_cases hok : ce l has x = 0 ∧ nr l
        · obtain ⟨he, hnr⟩ := hok
          have hg := lm.good_of he
          have RC : Hid (∀ W, Below W0.heap.size W0 W → Calls Tryd.prog 11 #[.agg #[.slice A l.length c, .bool has, .int .i64 x]] W fun e w' => ∃ A' c', e = .returned (.tuple #[.slice A' (recs l has x).length c', .bool true]) ∧ Crs w' A' (recs l has x) ∧ (recs l has x).length ≤ c' ∧ Below W.heap.size W w') := fun W hb => records_yes l A c has x W (T0.below hb) (hl0.below hb) he hnr
          have hO := recs_ok he
          have hrl := recs_len l has x
          have hrk : k < (recs l has x).length := by omega
          have TO : Hid (∀ W, Below W0.heap.size W0 W → Calls Tryd.prog 29 #[.agg #[.slice A l.length c, .bool has, .int .i64 x], .int .i64 (dy l k)] W fun e w' => e = .returned (.int .i64 (tot l k)) ∧ Below W.heap.size W w') := fun W hb => by
            have := leap.total_at l A c has x (dy l k) W (hl0.below hb) hg hc
            rw [(lm.stp_at hg hk).1] at this
            exact this
          have LE : Hid (∀ W, Below W0.heap.size W0 W → Calls Tryd.prog 30 #[.agg #[.slice A l.length c, .bool has, .int .i64 x], .int .i64 (dy l k)] W fun e w' => e = .returned (.int .i64 (86400 + lm.st l k)) ∧ Below W.heap.size W w') := fun W hb => by
            have := leap.length_at l A c has x (dy l k) W (hl0.below hb) hg
            rw [(lm.stp_at hg hk).2] at this
            exact this
          obtain ⟨f1, f2, f3, f4⟩ := facts he hk
          have ek := recs_ra l has x hk
          have hz := hg.step hk
          have dd := hg.day hk
          have tb := lm.tot_bd hg k (by omega)
          have hlen := hg.len
          have QR : rat l k = (dy l k + 1) * 86400 + tot l k - (if lm.st l k = -1 then 1 else 0) := rfl
          have t3 : decide ((recs l has x).length ≤ k) = false := by simp; omega
          have t5 : decide (l.length ≤ k) = false := by simp; omega
          have t4 : decide (((recs l has x).length : Int) ≤ (k : Int)) = false := by simp; omega
          obtain ⟨b, o, rfl, hb0, hcc⟩ := hl0 (by omega)
          have YL : Hid (∀ W, Below W0.heap.size W0 W → W.cell? ⟨b, o + k * 3, none⟩ = some (.int .i64 (dy l k)) ∧ W.cell? ⟨b, o + k * 3 + 1, none⟩ = some (.int .i64 (lm.st l k)) ∧ True) := fun W hb =>
            ⟨(hb.cell (p := ⟨b, o + k * 3, none⟩) hb0).trans (hcc k hk).1, (hb.cell (p := ⟨b, o + k * 3 + 1, none⟩) hb0).trans (hcc k hk).2.1, trivial⟩
          obtain ⟨y0, y1, y2⟩ := YL.out _ hA
          have hcK : k < (recs l has x).length := hrk
          clear T0 hl0 box hcc he hnr hg hrl
          have HF := Lib.hid (And.intro f1 (And.intro f2 (And.intro f3 f4)))
          clear f1 f2 f3 f4
          generalize hR : recs l has x = R at *
          generalize rat l k = RA at *
          generalize tot l k = S at *
          generalize lm.st l k = Z at *
          generalize dy l k = D at *
          rcases hz with rfl | rfl
          · have eR : RA = 86400 * D + S + 86401 - 1 := by simp at QR; omega
            clear QR
            subst eR
            generalize hLn : l.length = n at *
            generalize hRn : R.length = r at *
            go_wp2_with (first
              | (go_at_call 9; (with_reducible refine (SM.out _ hA).mono ?_; rintro e w1 ⟨rfl, hb1⟩; have hA := btr hA hb1; clear c0 c1 c2 y0 y1 y2; obtain ⟨c0, c1, c2⟩ := TC.out _ hA; obtain ⟨y0, y1, y2⟩ := YL.out _ hA))
              | (go_at_call 10; (with_reducible refine (FE.out _ hA).mono ?_; rintro e w1 ⟨rfl, hb1⟩; have hA := btr hA hb1; clear c0 c1 c2 y0 y1 y2; obtain ⟨c0, c1, c2⟩ := TC.out _ hA; obtain ⟨y0, y1, y2⟩ := YL.out _ hA))
              | (go_at_call 11; (with_reducible refine (RC.out _ hA).mono ?_; rintro e w1 ⟨A2, c9, rfl, hcr, hcl, hb1⟩; have hA := btr hA hb1; clear c0 c1 c2 y0 y1 y2; obtain ⟨c0, c1, c2⟩ := TC.out _ hA; obtain ⟨y0, y1, y2⟩ := YL.out _ hA))
              | (go_at_call 29; (with_reducible refine (TO.out _ hA).mono ?_; rintro e w1 ⟨rfl, hb1⟩; have hA := btr hA hb1; clear c0 c1 c2 y0 y1 y2; obtain ⟨c0, c1, c2⟩ := TC.out _ hA; obtain ⟨y0, y1, y2⟩ := YL.out _ hA; have hcr := hcr.below hb1))
              | (go_at_call 30; (with_reducible refine (LE.out _ hA).mono ?_; rintro e w1 ⟨rfl, hb1⟩; have hA := btr hA hb1; clear c0 c1 c2 y0 y1 y2; obtain ⟨c0, c1, c2⟩ := TC.out _ hA; obtain ⟨y0, y1, y2⟩ := YL.out _ hA; have hcr := hcr.below hb1)))
            obtain ⟨b2, o2, rfl, hb2, hcc⟩ := hcr.2 (by omega)
            have z0 := (hcc k (by omega)).1
            rw [ek] at z0
            clear hcc
            obtain ⟨f1, f2, f3, f4⟩ := HF.out
            have XS := Lib.hid (fun (y z : Int) (hz : rm.sm R y = z) d' os => below_at (w := w1) (T := fun W => Below w1.heap.size w1 W) (f := 24) (args := #[.slice (some ⟨b2, o2, none⟩) r c9, .int .i64 y]) (v := .int .i64 z) (fun W hb => by rw [← hz, ← hRn]; exact sum_at R _ c9 y W (hcr.below hb) hO (by omega)) (fun W hb => hb) d' os)
            have XP := Lib.hid (fun (y z : Int) (hz : sp R y = z) d' os => below_at (w := w1) (T := fun W => Below w1.heap.size w1 W) (f := 26) (args := #[.slice (some ⟨b2, o2, none⟩) r c9, .int .i64 y]) (v := .int .i64 z) (fun W hb => by rw [← hz, ← hRn]; exact step_at R _ c9 y W (hcr.below hb) hO (by omega)) (fun W hb => hb) d' os)
            have cq0 := fun d' os => cell_regrown (w := w1) c0 d' os
            have cq3 := fun d' os => cell_regrown (w := w1) y0 d' os
            have cq4 := fun d' os => cell_regrown (w := w1) y1 d' os
            have cq5 := fun d' os => cell_regrown (w := w1) z0 d' os
            have v1 : IntKind.i64.wrap (86400 * D) = 86400 * D := IntWalk.i64_in _ (by omega)
            have v2 : IntKind.i64.wrap (86400 * D + S) = 86400 * D + S := IntWalk.i64_in _ (by omega)
            have v3 : IntKind.i64.wrap (S + 1) = S + 1 := IntWalk.i64_in _ (by omega)
            have v4 : IntKind.i64.wrap (86400 * D + S + 86401 - 1 + 86400) = 86400 * D + S + 86401 - 1 + 86400 := IntWalk.i64_in _ (by omega)
            have u1 : (86400 * D + S + 86401 - 1 == 86400 * D + S + 86401 - 1) = true := by rw [beq_iff_eq]
            have f3' := Lib.hid f3
            have f4' := Lib.hid f4
            have f1' := Lib.hid f1
            have f2' := Lib.hid f2
            clear f1 f2 f3 f4
            refine wp_region_quiet_below (by kernel_rfl) (by kernel_rfl) ?_
            repeat (quiet_step ((first
              | (go_at_call 24; first | with_reducible exact XS.out _ _ f1'.out _ _ | with_reducible exact XS.out _ _ f2'.out _ _)
              | (go_at_call 26; first | with_reducible exact XP.out _ _ f3'.out _ _ | with_reducible exact XP.out _ _ f4'.out _ _))))
            refine wpQuiet_nil ?_
            intro _ hw'
            obtain ⟨⟨dq, osq⟩, hw''⟩ := hw'
            subst hw''
            have hA := btr hA (below_regrown _ dq osq)
            generalize Sort.grow (redrawn w1 dq) osq = W7 at *
            go_wp2
            go_ret
            exact ⟨ret_bool (by first | rfl | simp), EX.out _ hA⟩
          · have eR : RA = 86400 * D + S + 86399 := by simp at QR; omega
            clear QR
            subst eR
            generalize hLn : l.length = n at *
            generalize hRn : R.length = r at *
            go_wp2_with (first
              | (go_at_call 9; (with_reducible refine (SM.out _ hA).mono ?_; rintro e w1 ⟨rfl, hb1⟩; have hA := btr hA hb1; clear c0 c1 c2 y0 y1 y2; obtain ⟨c0, c1, c2⟩ := TC.out _ hA; obtain ⟨y0, y1, y2⟩ := YL.out _ hA))
              | (go_at_call 10; (with_reducible refine (FE.out _ hA).mono ?_; rintro e w1 ⟨rfl, hb1⟩; have hA := btr hA hb1; clear c0 c1 c2 y0 y1 y2; obtain ⟨c0, c1, c2⟩ := TC.out _ hA; obtain ⟨y0, y1, y2⟩ := YL.out _ hA))
              | (go_at_call 11; (with_reducible refine (RC.out _ hA).mono ?_; rintro e w1 ⟨A2, c9, rfl, hcr, hcl, hb1⟩; have hA := btr hA hb1; clear c0 c1 c2 y0 y1 y2; obtain ⟨c0, c1, c2⟩ := TC.out _ hA; obtain ⟨y0, y1, y2⟩ := YL.out _ hA))
              | (go_at_call 29; (with_reducible refine (TO.out _ hA).mono ?_; rintro e w1 ⟨rfl, hb1⟩; have hA := btr hA hb1; clear c0 c1 c2 y0 y1 y2; obtain ⟨c0, c1, c2⟩ := TC.out _ hA; obtain ⟨y0, y1, y2⟩ := YL.out _ hA; have hcr := hcr.below hb1))
              | (go_at_call 30; (with_reducible refine (LE.out _ hA).mono ?_; rintro e w1 ⟨rfl, hb1⟩; have hA := btr hA hb1; clear c0 c1 c2 y0 y1 y2; obtain ⟨c0, c1, c2⟩ := TC.out _ hA; obtain ⟨y0, y1, y2⟩ := YL.out _ hA; have hcr := hcr.below hb1)))
            obtain ⟨b2, o2, rfl, hb2, hcc⟩ := hcr.2 (by omega)
            have z0 := (hcc k (by omega)).1
            rw [ek] at z0
            clear hcc
            obtain ⟨f1, f2, f3, f4⟩ := HF.out
            have XS := Lib.hid (fun (y z : Int) (hz : rm.sm R y = z) d' os => below_at (w := w1) (T := fun W => Below w1.heap.size w1 W) (f := 24) (args := #[.slice (some ⟨b2, o2, none⟩) r c9, .int .i64 y]) (v := .int .i64 z) (fun W hb => by rw [← hz, ← hRn]; exact sum_at R _ c9 y W (hcr.below hb) hO (by omega)) (fun W hb => hb) d' os)
            have XP := Lib.hid (fun (y z : Int) (hz : sp R y = z) d' os => below_at (w := w1) (T := fun W => Below w1.heap.size w1 W) (f := 26) (args := #[.slice (some ⟨b2, o2, none⟩) r c9, .int .i64 y]) (v := .int .i64 z) (fun W hb => by rw [← hz, ← hRn]; exact step_at R _ c9 y W (hcr.below hb) hO (by omega)) (fun W hb => hb) d' os)
            have cq0 := fun d' os => cell_regrown (w := w1) c0 d' os
            have cq3 := fun d' os => cell_regrown (w := w1) y0 d' os
            have cq4 := fun d' os => cell_regrown (w := w1) y1 d' os
            have cq5 := fun d' os => cell_regrown (w := w1) z0 d' os
            have v1 : IntKind.i64.wrap (86400 * D) = 86400 * D := IntWalk.i64_in _ (by omega)
            have v2 : IntKind.i64.wrap (86400 * D + S) = 86400 * D + S := IntWalk.i64_in _ (by omega)
            have v3 : IntKind.i64.wrap (S + -1) = S + -1 := IntWalk.i64_in _ (by omega)
            have v4 : IntKind.i64.wrap (86400 * D + S + 86399 + 86400) = 86400 * D + S + 86399 + 86400 := IntWalk.i64_in _ (by omega)
            have u1 : (86400 * D + S + 86399 == 86400 * D + S + 86399) = true := by rw [beq_iff_eq]
            have f3' := Lib.hid f3
            have f4' := Lib.hid f4
            have f1' := Lib.hid f1
            have f2' := Lib.hid f2
            clear f1 f2 f3 f4
            refine wp_region_quiet_below (by kernel_rfl) (by kernel_rfl) ?_
            repeat (quiet_step ((first
              | (go_at_call 24; first | with_reducible exact XS.out _ _ f1'.out _ _ | with_reducible exact XS.out _ _ f2'.out _ _)
              | (go_at_call 26; first | with_reducible exact XP.out _ _ f3'.out _ _ | with_reducible exact XP.out _ _ f4'.out _ _))))
            refine wpQuiet_nil ?_
            intro _ hw'
            obtain ⟨⟨dq, osq⟩, hw''⟩ := hw'
            subst hw''
            have hA := btr hA (below_regrown _ dq osq)
            generalize Sort.grow (redrawn w1 dq) osq = W7 at *
            go_wp2
            go_ret
            exact ⟨ret_bool (by first | rfl | simp), EX.out _ hA⟩
        · have RN : Hid (∀ W, Below W0.heap.size W0 W → Calls Tryd.prog 11 #[.agg #[.slice A l.length c, .bool has, .int .i64 x]] W fun e w' => e = .returned (.tuple #[.slice none 0 0, .bool false]) ∧ Below W.heap.size W w') := fun W hb => records_no l A c has x W (T0.below hb) (hl0.below hb) hn (fun a b => hok ⟨a, b⟩)
          have t3 : decide (l.length ≤ k) = false := by simp; omega
          clear T0 hl0 box hok
          generalize l.length = n at *
          go_wp2_with (first
            | (go_at_call 9; (with_reducible refine (SM.out _ hA).mono ?_; rintro e w1 ⟨rfl, hb1⟩; have hA := btr hA hb1; clear c0 c1 c2; obtain ⟨c0, c1, c2⟩ := TC.out _ hA; (try have y0 := YC.out _ hA); (try obtain ⟨y0, y1, y2⟩ := YL.out _ hA)))
            | (go_at_call 10; (with_reducible refine (FE.out _ hA).mono ?_; rintro e w1 ⟨rfl, hb1⟩; have hA := btr hA hb1; clear c0 c1 c2; obtain ⟨c0, c1, c2⟩ := TC.out _ hA; (try have y0 := YC.out _ hA); (try obtain ⟨y0, y1, y2⟩ := YL.out _ hA)))
            | (go_at_call 11; (with_reducible refine (RN.out _ hA).mono ?_; rintro e w1 ⟨rfl, hb1⟩; have hA := btr hA hb1; clear c0 c1 c2; obtain ⟨c0, c1, c2⟩ := TC.out _ hA; (try have y0 := YC.out _ hA); (try obtain ⟨y0, y1, y2⟩ := YL.out _ hA))))
          go_ret
          exact ⟨rfl, EX.out _ hA⟩
  · rw [decide_eq_false g1] at FE
    clear T0 hl0 box g1
    generalize l.length = n at *
    go_wp2_with (first
      | (go_at_call 9; (with_reducible refine (SM.out _ hA).mono ?_; rintro e w1 ⟨rfl, hb1⟩; have hA := btr hA hb1; clear c0 c1 c2; obtain ⟨c0, c1, c2⟩ := TC.out _ hA; (try have y0 := YC.out _ hA); (try obtain ⟨y0, y1, y2⟩ := YL.out _ hA)))
      | (go_at_call 10; (with_reducible refine (FE.out _ hA).mono ?_; rintro e w1 ⟨rfl, hb1⟩; have hA := btr hA hb1; clear c0 c1 c2; obtain ⟨c0, c1, c2⟩ := TC.out _ hA; (try have y0 := YC.out _ hA); (try obtain ⟨y0, y1, y2⟩ := YL.out _ hA))))
    go_ret
    exact ⟨rfl, EX.out _ hA⟩
theorem door_met (os : Os) (args : Array Value) : laidMetH Tryd.prog Rows.recordDaysRow.laid ((World.doorLaid Tryd.prog 400 os).forCall (fun _ _ => 0) ⟨#[], args, []⟩).memory :=
  laidMetH_of_parts3 (fuel := 8) (laidMet_of_run' 8 (by kernel_rfl) (by kernel_rfl)) (by kernel_rfl) (by kernel_rfl)
set_option maxRecDepth 100000 in
theorem lifted (os : Os) (started : os.Started) (H : Type) (enc : TypeId × Value → H) :
    ReturnsInHanded {} Tryd.checked os 6 .any (fun w args => (Rows.recordDaysSpec.pre enc Tryd.prog Tryd.f6 [] false w args ∧ laidMetH Tryd.prog Rows.recordDaysRow.laid w) ∧ sizedMet enc Tryd.prog Tryd.f6 (OpenSpec.ofChange Rows.recordDaysSpec) false w args)
      (Rows.recordDaysSpec.post enc Tryd.prog Tryd.f6 false true false false) := by
  refine returnsInHanded_of_change_and (C := Tryd.checked) (X := fun w _ => laidMetH Tryd.prog Rows.recordDaysRow.laid w) (fun _ _ _ hh h => h.of_heap hh) law.own started (by kernel_rfl) Tryd.func6
    (ChangeSpec.witness_shaped (enc := enc) (C := Tryd.checked) (os := os) (X := fun w _ => laidMetH Tryd.prog Rows.recordDaysRow.laid w) false (World.doorLaid Tryd.prog 400 os) #[.agg #[.slice none 0 0, .bool false, .int .i64 0], .int .i64 0] 8 rfl (World.shaped_of_RefB (by kernel_rfl) (by kernel_rfl)) (by kernel_rfl) (by kernel_rfl) (by kernel_rfl) (door_met os _)) ?_
  intro W base args ds gs before hval0 hW _ _ hL _
  rw [MakeChecks.laidMetH_plain _ _ _ (by kernel_rfl)] at hL
  have T0 := day.tabs_of hL (by repeat first | exact List.Mem.head _ | refine List.Mem.tail _ ?_) (by repeat first | exact List.Mem.head _ | refine List.Mem.tail _ ?_)
  have hval : ∀ (j : Nat) t v, Tryd.f6.params[j]? = some t → args[j]? = some v → Value.okWide Tryd.prog W .any base t v := hval0
  have hW' := hW
  obtain ⟨p, q, hA0, hV, rfl, hfz, hnd⟩ := hW
  have hA : DataW.TrodAll enc Tryd.prog W 0 (fun _ => true) true Tryd.f6.params.toList args.toList ds p := hA0
  rw [Tryd.params6] at hA hval
  obtain ⟨v0, vs0, d0, ds0, p0, q0, hargs, rfl, rfl, h0, r0⟩ := trodAll_cons hA
  obtain ⟨v1, vs1, d1, ds1, p1, q1, rfl, rfl, rfl, h1, r1⟩ := trodAll_cons r0
  obtain ⟨rfl, rfl, rfl⟩ := trodAll_nil r1
  obtain rfl : args = #[v0, v1] := by cases args; simp_all
  obtain ⟨rfl, rfl⟩ := trodVars_none hV
  clear hA0 hval0
  obtain ⟨A0_, k0_, l0_, b0_, x0_, rfl, q0_, n0_, m0_, w0_⟩ := leap.open_table (hval 0 24 v0 rfl rfl) h0
  obtain ⟨a1, rfl, hd1, hp1, w1⟩ := open_int Tryd.underlying3 (hval 1 3 v1 rfl rfl) h1
  refine (Calls.mono (R := fun e w' => e = .returned (.bool true) ∧ Below W.heap.size W w') ?_ fun e W' ⟨he, hb⟩ => ?_)
  · exact walk W l0_ A0_ k0_ b0_ x0_ q0_ n0_ m0_ w0_ a1 (bounds_i64 w1) T0
  · subst he
    exact ⟨_, rfl, law.post law.laidOut (by kernel_rfl) rfl rfl Tryd.underlying4 rfl hW' hb⟩

theorem over : Rows.recordDaysRow.holds Tryd.pinned (OpenSpec.ofChange Rows.recordDaysSpec) :=
  OpenClaim.holds_of_wide 6 Tryd.f6 rfl rfl rfl rfl rfl rfl rfl ⟨rfl, rfl, rfl, rfl, rfl⟩ rfl rfl rfl rfl rfl (by kernel_rfl) Tryd.func6 (by kernel_rfl)
    (of_decide_eq_true (by kernel_rfl)) (by unfold Func.isWrapper; first | (rw [if_pos (by decide +kernel)]; kernel_rfl) | (rw [if_neg (by decide +kernel)]; exact ⟨rfl, rfl⟩))
    (fun os started H enc _ => lifted os started H enc)

theorem proved : Rows.RecordDaysCardSaid :=
  Claim7.holds_tied_plain_at .later [] _ _ _ _ over (fun _ h => by cases h) (by kernel_rfl) (fun _ h => by cases h) recordDays_row_tie rfl ⟨rfl, rfl⟩ (by kernel_rfl) rfl
    (fun f fn hf hfn => by
      obtain rfl : f = 6 := Option.some.inj ((show Tryd.prog.funcNamed "epact/epactlaw12.RecordDays" = some 6 by kernel_rfl).symm.trans hf) |>.symm
      obtain rfl : fn = Tryd.f6 := (Option.some.inj (Tryd.func6.symm.trans hfn)).symm
      exact ⟨by kernel_rfl, fun j t ht => by
        have hall : (Tryd.f6.params.toList.all fun u => !Tryd.prog.wantsStandIn u) = true := by kernel_rfl
        have hm : t ∈ Tryd.f6.params.toList := by rw [Array.mem_toList_iff]; exact Array.mem_of_getElem? ht
        exact (show Tryd.prog.wantsStandIn t = false by simpa using List.all_eq_true.1 hall t hm)⟩)
    (by kernel_rfl)
end Go.Proofs.YtooineinpgiofaaDoor.recordDays
