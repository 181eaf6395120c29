/-
  RecordTells: records of tables, what is wrong of records, and what is found, are as the document's own answers say, for every table, every row of records, every second and every other row. Condition: the row's own (the listed tables hold what their initialisers lay; the card ties that).
-/
import Derived.Test.YtcikcdeihlmbcaaDoorRecLaw
import Derived.Test.YtcikcdeihlmbcaaDoorRef12Check
import Derived.Test.YtcikcdeihlmbcaaDoorRef12Rec
import Derived.Test.YtcikcdeihlmbcaaDoorRef12Tab
import Derived.Test.YtcikcdeihlmbcaaDoorCards
import Derived.Test.YtcikcdeihlmbcaaDoorTie
import Derived.SevenTiedAt
namespace Go.Proofs.YtcikcdeihlmbcaaDoor.recordTells
open Go.ChangeShapes Go.WideShapes Go.ChangeAt Go.RowKit
open rec rm mem
open lm (Lp dy tot ce)
open leap (Lps rl tcs tcs_cells)
set_option linter.unusedVariables false
set_option maxRecDepth 100000

/-- what both answer of Records: is there an answer, and which. -/
noncomputable def okR (l : List Lp) (has : Bool) (x : Int) : Bool := (ce l has x == 0) && !hrB l
noncomputable def valR (l : List Lp) (has : Bool) (x : Int) : List Cr := if okR l has x = true then recs l has x else []
theorem okR_iff {l : List Lp} {has : Bool} {x : Int} : okR l has x = true ↔ ce l has x = 0 ∧ nr l := by
  unfold okR
  by_cases h : nr l
  · rw [hrB_no h]; simp [h]
  · rw [hrB_yes h]; simp [h]
theorem valR_yes {l : List Lp} {has : Bool} {x : Int} (h : ce l has x = 0 ∧ nr l) : okR l has x = true ∧ valR l has x = recs l has x := by
  have e := okR_iff.2 h
  exact ⟨e, by unfold valR; rw [if_pos e]⟩
theorem valR_no {l : List Lp} {has : Bool} {x : Int} (h : ¬ (ce l has x = 0 ∧ nr l)) : okR l has x = false ∧ valR l has x = [] := by
  have e : okR l has x = false := by
    cases q : okR l has x
    · rfl
    · exact absurd (okR_iff.1 q) h
  exact ⟨e, by unfold valR; rw [e]; rfl⟩
noncomputable def valK (m : List Cr) : List Lp := if tb m = true then lk m else []
noncomputable def valH (m : List Cr) : Bool := tb m && hasX m
noncomputable def valX (m : List Cr) : Int := if tb m = true then lkx m else 0
theorem tabled_any {m : List Cr} {W : World} {e : Ending} {w' : World} (h : Tabled m W e w') : ∃ A' c', e = .returned (.tuple #[.agg #[.slice A' (valK m).length c', .bool (valH m), .int .i64 (valX m)], .bool (tb m)]) ∧ Lps w' A' (valK m) ∧ Below W.heap.size W w' := by
  rcases h with ⟨ht, A3, c3, he, hl, _, hb⟩ | ⟨ht, he, hb⟩
  · refine ⟨A3, c3, ?_, ?_, hb⟩
    · unfold valK valH valX; rw [ht]; exact he
    · unfold valK; rw [ht]; exact hl
  · refine ⟨none, 0, ?_, ?_, hb⟩
    · unfold valK valH valX; rw [ht]; exact he
    · unfold valK; rw [ht]; exact fun h => absurd rfl h
set_option maxHeartbeats 16000000 in
theorem walk (w : World) (l : List Lp) (A : Option Addr) (c : Nat) (has : Bool) (x : Int) (hl : Lps w A l) (hn : l.length ≤ 9223372036854775807) (hc : l.length ≤ c) (hx : -9223372036854775808 ≤ x ∧ x ≤ 9223372036854775807)
    (m : List Cr) (B : Option Addr) (d : Nat) (hm : Crs w B m) (hd : m.length ≤ d) (z : Int) (hz : -9223372036854775808 ≤ z ∧ z ≤ 9223372036854775807) (o : List Cr) (B' : Option Addr) (d' : Nat) (ho : Crs w B' o) (hd' : o.length ≤ d') (T : day.Tabs w) :
    Calls Tryd.prog 3 #[.agg #[.slice A l.length c, .bool has, .int .i64 x], .slice B m.length d, .int .i64 z, .slice B' o.length d'] w fun e w' => e = .returned (.bool true) ∧ Below w.heap.size w w' := by
  have hm0 := hm.below (bal (Below.refl w.heap.size w) (.cells #[.slice A l.length c, .bool has, .int .i64 x] 24))
  have ho0 := ho.below (bal (Below.refl w.heap.size w) (.cells #[.slice A l.length c, .bool has, .int .i64 x] 24))
  have hmn := hm.1.2
  have hon := ho.1.2
  have hw0 : Below w.heap.size w (w.alloc (.cells #[.slice A l.length c, .bool has, .int .i64 x] 24)) := bal (Below.refl _ _) _
  have box : (w.alloc (.cells #[.slice A l.length c, .bool has, .int .i64 x] 24)).heap[w.heap.size]? = some (.cells (tcs A l.length c has x) 24) := hp_new w _
  have hl0 := hl.below hw0
  have T0 : day.Tabs _ := T.below hw0
  go_enter Tryd.func3, Tryd.ntmps3
  go_wp2_with fail
  generalize w.alloc (.cells #[.slice A l.length c, .bool has, .int .i64 x] 24) = W0 at *
  have HW := Lib.hid hw0
  clear hw0 hl T
  generalize hN : w.heap.size = N at *
  have hA : Below W0.heap.size W0 W0 := Below.refl _ _
  have SM : Hid (∀ W, Below W0.heap.size W0 W → Calls Tryd.prog 9 #[] W fun e w' => e = .returned (.bool true) ∧ Below W.heap.size W w') := fun W hb => rec.small_at W (T0.below hb)
  have TC := Lib.hid (fun W (hb : Below W0.heap.size W0 W) => tcs_cells (kept box hb))
  have EX : Hid (∀ W, Below W0.heap.size W0 W → Below w.heap.size w W) := fun W hb => by rw [hN]; exact HW.out.trans (hb.mono (by have := HW.out.size; rw [hN] at this; exact this))
  obtain ⟨c0, c1, c2⟩ := TC.out _ hA
  have FE : Hid (∀ W, Below W0.heap.size W0 W → Calls Tryd.prog 10 #[.agg #[.slice A l.length c, .bool has, .int .i64 x]] W fun e w' => e = .returned (.bool (decide (l.length ≤ 300))) ∧ Below W.heap.size W w') := fun W hb => leap.few_at A l.length c has x W hn
  by_cases g1 : l.length ≤ 300
  · rw [decide_eq_true g1] at FE
    by_cases g2 : m.length ≤ 300
    · have t : decide (300 < (m.length : Int)) = false := by simp; omega
      by_cases g3 : o.length ≤ 300
      · have t2 : decide (300 < (o.length : Int)) = false := by simp; omega
        have RC : Hid (∀ W, Below W0.heap.size W0 W → Calls Tryd.prog 11 #[.agg #[.slice A l.length c, .bool has, .int .i64 x]] W fun e w' => ∃ A' c', e = .returned (.tuple #[.slice A' (valR l has x).length c', .bool (okR l has x)]) ∧ Crs w' A' (valR l has x) ∧ Below W.heap.size W w') := fun W hb => by
          by_cases h : ce l has x = 0 ∧ nr l
          · obtain ⟨e1, e2⟩ := valR_yes h
            rw [e1, e2]
            refine (records_yes l A c has x W (T0.below hb) (hl0.below hb) h.1 h.2).mono ?_
            rintro e w' ⟨A', c', a, b, _, f⟩
            exact ⟨A', c', a, b, f⟩
          · obtain ⟨e1, e2⟩ := valR_no h
            rw [e1, e2]
            refine (records_no l A c has x W (T0.below hb) (hl0.below hb) hn (fun a b => h ⟨a, b⟩)).mono ?_
            rintro e w' ⟨a, f⟩
            exact ⟨none, 0, a, crs_nil _, f⟩
        have RD : Hid (∀ W, Below W0.heap.size W0 W → Calls Tryd.prog 12 #[.agg #[.slice A l.length c, .bool has, .int .i64 x]] W fun e w' => ∃ A' c', e = .returned (.tuple #[.slice A' (valR l has x).length c', .bool (okR l has x)]) ∧ Crs w' A' (valR l has x) ∧ Below W.heap.size W w') := fun W hb => by
          refine (ref12.records_at l A c has x W (hl0.below hb) hn).mono ?_
          rintro e w' (⟨h1, h2, A', c', a, b, _, f⟩ | ⟨h, a, f⟩)
          · obtain ⟨e1, e2⟩ := valR_yes ⟨h1, h2⟩
            rw [e1, e2]
            exact ⟨A', c', a, b, f⟩
          · obtain ⟨e1, e2⟩ := valR_no h
            rw [e1, e2]
            exact ⟨none, 0, a, crs_nil _, f⟩
        have CK : Hid (∀ W, Below W0.heap.size W0 W → Calls Tryd.prog 13 #[.slice B m.length d] W fun e w' => e = .returned (.tuple #[.int .i64 (pw m : Nat), .int .i64 (ew m)]) ∧ Below W.heap.size W w') := fun W hb => check_at m B d W (hm0.below hb)
        have CR : Hid (∀ W, Below W0.heap.size W0 W → Calls Tryd.prog 14 #[.slice B m.length d] W fun e w' => e = .returned (.tuple #[.int .i64 (pw m : Nat), .int .i64 (ew m)]) ∧ Below W.heap.size W w') := fun W hb => ref12.check_at m B d W (hm0.below hb)
        have RI : Hid (∀ W, Below W0.heap.size W0 W → Calls Tryd.prog 16 #[.slice B m.length d] W fun e w' => e = .returned (.bool (ew m == 0)) ∧ Below W.heap.size W w') := fun W hb => right_at m B d W (hm0.below hb)
        have RR : Hid (∀ W, Below W0.heap.size W0 W → Calls Tryd.prog 17 #[.slice B m.length d] W fun e w' => e = .returned (.bool (ew m == 0)) ∧ Below W.heap.size W w') := fun W hb => ref12.right_at m B d W (hm0.below hb)
        have SA : Hid (∀ W, Below W0.heap.size W0 W → Calls Tryd.prog 18 #[.slice B m.length d, .slice B' o.length d'] W fun e w' => e = .returned (.bool (decide (m = o))) ∧ Below W.heap.size W w') := fun W hb => same_at m o B B' d d' W (hm0.below hb) (ho0.below hb)
        have SR : Hid (∀ W, Below W0.heap.size W0 W → Calls Tryd.prog 15 #[.slice B m.length d, .slice B' o.length d'] W fun e w' => e = .returned (.bool (decide (m = o))) ∧ Below W.heap.size W w') := fun W hb => ref12.same_at m o B B' d d' W (hm0.below hb) (ho0.below hb)
        have SS : Hid (∀ W A2 c2 A3 c3, Crs W A2 (valR l has x) → Crs W A3 (valR l has x) → Calls Tryd.prog 15 #[.slice A2 (valR l has x).length c2, .slice A3 (valR l has x).length c3] W fun e w' => e = .returned (.bool true) ∧ Below W.heap.size W w') := fun W A2 c2 A3 c3 h1 h2 => by
          have := ref12.same_at (valR l has x) (valR l has x) A2 A3 c2 c3 W h1 h2
          rw [decide_eq_true rfl] at this
          exact this
        have p0 : (okR l has x != okR l has x) = false := by simp
        have p1 : ((pw m : Int) != (pw m : Int)) = false := by simp
        have p2 : (ew m != ew m) = false := by simp
        have p3 : (decide (m = o) != decide (m = o)) = false := by simp
        by_cases g4 : ew m = 0
        · rw [show (ew m == 0) = true by simpa using g4] at RI RR
          have hO := ew_ok.1 g4
          have EI : Hid (∀ W, Below W0.heap.size W0 W → Calls Tryd.prog 19 #[.slice B m.length d] W fun e w' => e = .returned (.tuple #[.int .i64 (xat m), .bool (hasX m)]) ∧ Below W.heap.size W w') := fun W hb => expiry_at m B d W (hm0.below hb)
          have ER : Hid (∀ W, Below W0.heap.size W0 W → Calls Tryd.prog 20 #[.slice B m.length d] W fun e w' => e = .returned (.tuple #[.int .i64 (xat m), .bool (hasX m)]) ∧ Below W.heap.size W w') := fun W hb => ref12.expiry_at m B d W (hm0.below hb)
          have TA : Hid (∀ W, Below W0.heap.size W0 W → Calls Tryd.prog 21 #[.slice B m.length d] W fun e w' => ∃ A' c', e = .returned (.tuple #[.agg #[.slice A' (valK m).length c', .bool (valH m), .int .i64 (valX m)], .bool (tb m)]) ∧ Lps w' A' (valK m) ∧ Below W.heap.size W w') := fun W hb => (table_at m B d W (T0.below hb) (hm0.below hb) hO hd).mono fun e w' h => tabled_any h
          have TB : Hid (∀ W, Below W0.heap.size W0 W → Calls Tryd.prog 22 #[.slice B m.length d] W fun e w' => ∃ A' c', e = .returned (.tuple #[.agg #[.slice A' (valK m).length c', .bool (valH m), .int .i64 (valX m)], .bool (tb m)]) ∧ Lps w' A' (valK m) ∧ Below W.heap.size W w') := fun W hb => (ref12.table_at m B d W (hm0.below hb) hO).mono fun e w' h => tabled_any h
          have SUI : Hid (∀ W, Below W0.heap.size W0 W → Calls Tryd.prog 24 #[.slice B m.length d, .int .i64 z] W fun e w' => e = .returned (.int .i64 (rm.sm m z)) ∧ Below W.heap.size W w') := fun W hb => sum_at m B d z W (hm0.below hb) hO hd
          have SUR : Hid (∀ W, Below W0.heap.size W0 W → Calls Tryd.prog 25 #[.slice B m.length d, .int .i64 z] W fun e w' => e = .returned (.int .i64 (rm.sm m z)) ∧ Below W.heap.size W w') := fun W hb => ref12.sum_at m B d z W (hm0.below hb) hO
          have STI : Hid (∀ W, Below W0.heap.size W0 W → Calls Tryd.prog 26 #[.slice B m.length d, .int .i64 z] W fun e w' => e = .returned (.int .i64 (sp m z)) ∧ Below W.heap.size W w') := fun W hb => step_at m B d z W (hm0.below hb) hO hd
          have STR : Hid (∀ W, Below W0.heap.size W0 W → Calls Tryd.prog 27 #[.slice B m.length d, .int .i64 z] W fun e w' => e = .returned (.int .i64 (sp m z)) ∧ Below W.heap.size W w') := fun W hb => ref12.step_at m B d z W (hm0.below hb) hO
          have hkl : (valK m).length ≤ 9223372036854775807 := by
            have := lk_len m
            have := nl_le m
            unfold valK; split
            · omega
            · simp
          have ST : Hid (∀ W A4 c4 A5 c5, Lps W A4 (valK m) → Lps W A5 (valK m) → Calls Tryd.prog 23 #[.agg #[.slice A4 (valK m).length c4, .bool (valH m), .int .i64 (valX m)], .agg #[.slice A5 (valK m).length c5, .bool (valH m), .int .i64 (valX m)]] W fun e w' => e = .returned (.bool true) ∧ Below W.heap.size W w') := fun W A4 c4 A5 c5 h1 h2 => by
            have := ref09.same_at (valK m) (valK m) A4 A5 c4 c5 (valH m) (valH m) (valX m) (valX m) W h1 h2 hkl hkl
            rw [rec.sm_same] at this
            exact this
          have p4 : (xat m == xat m) = true := by simp
          have p5 : (hasX m == hasX m) = true := by simp
          have p6 : (tb m == tb m) = true := by simp
          have p7 : (rm.sm m z == rm.sm m z) = true := by simp
          have p8 : (sp m z == sp m z) = true := by simp
          clear T0 hl0 box hm0 ho0 hO g4 hm ho hkl
          generalize valR l has x = R at *
          generalize okR l has x = OK at *
          generalize valK m = KK at *
          generalize valH m = HX at *
          generalize valX m = LX at *
          generalize tb m = TT at *
          generalize hasX m = HH at *
          generalize xat m = XX at *
          generalize rm.sm m z = ZS at *
          generalize sp m z = ZT at *
          generalize decide (m = o) = S0 at *
          generalize ew m = E0 at *
          generalize pw m = P0 at *
          generalize hRn : R.length = r at *
          generalize hKn : KK.length = kk at *
          generalize l.length = n at *
          generalize m.length = n' at *
          generalize o.length = n'' at *
          go_wp2_with (first
            | (go_at_call 9; (with_reducible refine (SM.out _ hA).mono ?_; rintro e w1 ⟨rfl, hb1⟩; have hA := btr hA hb1; (try have hcr := hcr.below hb1); (try have hcv := hcv.below hb1); (try have hlp := hlp.below hb1); (try have hu := kept hu hb1); (try have hlv := hlv.below hb1); (try have hv := kept hv hb1); clear c0 c1 c2; obtain ⟨c0, c1, c2⟩ := TC.out _ hA; (try (clear u0 u1 u2; obtain ⟨u0, u1, u2⟩ := tcs_cells hu)); (try (clear v0 v1 v2; obtain ⟨v0, v1, v2⟩ := tcs_cells hv))))
            | (go_at_call 10; (with_reducible refine (FE.out _ hA).mono ?_; rintro e w1 ⟨rfl, hb1⟩; have hA := btr hA hb1; (try have hcr := hcr.below hb1); (try have hcv := hcv.below hb1); (try have hlp := hlp.below hb1); (try have hu := kept hu hb1); (try have hlv := hlv.below hb1); (try have hv := kept hv hb1); clear c0 c1 c2; obtain ⟨c0, c1, c2⟩ := TC.out _ hA; (try (clear u0 u1 u2; obtain ⟨u0, u1, u2⟩ := tcs_cells hu)); (try (clear v0 v1 v2; obtain ⟨v0, v1, v2⟩ := tcs_cells hv))))
            | (go_at_call 11; (with_reducible refine (RC.out _ hA).mono ?_; rintro e w1 ⟨A2, k2, rfl, hcr, hb1⟩; have hA := btr hA hb1; clear c0 c1 c2; obtain ⟨c0, c1, c2⟩ := TC.out _ hA))
            | (go_at_call 12; (with_reducible refine (RD.out _ hA).mono ?_; rintro e w2 ⟨A3, k3, rfl, hcv, hb1⟩; have hcr := hcr.below hb1; have hA := btr hA hb1; clear c0 c1 c2; obtain ⟨c0, c1, c2⟩ := TC.out _ hA))
            | (go_at_call 13; (with_reducible refine (CK.out _ hA).mono ?_; rintro e w1 ⟨rfl, hb1⟩; have hA := btr hA hb1; (try have hcr := hcr.below hb1); (try have hcv := hcv.below hb1); (try have hlp := hlp.below hb1); (try have hu := kept hu hb1); (try have hlv := hlv.below hb1); (try have hv := kept hv hb1); clear c0 c1 c2; obtain ⟨c0, c1, c2⟩ := TC.out _ hA; (try (clear u0 u1 u2; obtain ⟨u0, u1, u2⟩ := tcs_cells hu)); (try (clear v0 v1 v2; obtain ⟨v0, v1, v2⟩ := tcs_cells hv))))
            | (go_at_call 14; (with_reducible refine (CR.out _ hA).mono ?_; rintro e w1 ⟨rfl, hb1⟩; have hA := btr hA hb1; (try have hcr := hcr.below hb1); (try have hcv := hcv.below hb1); (try have hlp := hlp.below hb1); (try have hu := kept hu hb1); (try have hlv := hlv.below hb1); (try have hv := kept hv hb1); clear c0 c1 c2; obtain ⟨c0, c1, c2⟩ := TC.out _ hA; (try (clear u0 u1 u2; obtain ⟨u0, u1, u2⟩ := tcs_cells hu)); (try (clear v0 v1 v2; obtain ⟨v0, v1, v2⟩ := tcs_cells hv))))
            | (go_at_call 15; first | (with_reducible refine (SS.out _ A2 k2 A3 k3 hcr hcv).mono ?_; rintro e w1 ⟨rfl, hb1⟩; have hA := btr hA hb1; (try have hcr := hcr.below hb1); (try have hcv := hcv.below hb1); (try have hlp := hlp.below hb1); (try have hu := kept hu hb1); (try have hlv := hlv.below hb1); (try have hv := kept hv hb1); clear c0 c1 c2; obtain ⟨c0, c1, c2⟩ := TC.out _ hA; (try (clear u0 u1 u2; obtain ⟨u0, u1, u2⟩ := tcs_cells hu)); (try (clear v0 v1 v2; obtain ⟨v0, v1, v2⟩ := tcs_cells hv))) | (with_reducible refine (SR.out _ hA).mono ?_; rintro e w1 ⟨rfl, hb1⟩; have hA := btr hA hb1; (try have hcr := hcr.below hb1); (try have hcv := hcv.below hb1); (try have hlp := hlp.below hb1); (try have hu := kept hu hb1); (try have hlv := hlv.below hb1); (try have hv := kept hv hb1); clear c0 c1 c2; obtain ⟨c0, c1, c2⟩ := TC.out _ hA; (try (clear u0 u1 u2; obtain ⟨u0, u1, u2⟩ := tcs_cells hu)); (try (clear v0 v1 v2; obtain ⟨v0, v1, v2⟩ := tcs_cells hv))))
            | (go_at_call 16; (with_reducible refine (RI.out _ hA).mono ?_; rintro e w1 ⟨rfl, hb1⟩; have hA := btr hA hb1; (try have hcr := hcr.below hb1); (try have hcv := hcv.below hb1); (try have hlp := hlp.below hb1); (try have hu := kept hu hb1); (try have hlv := hlv.below hb1); (try have hv := kept hv hb1); clear c0 c1 c2; obtain ⟨c0, c1, c2⟩ := TC.out _ hA; (try (clear u0 u1 u2; obtain ⟨u0, u1, u2⟩ := tcs_cells hu)); (try (clear v0 v1 v2; obtain ⟨v0, v1, v2⟩ := tcs_cells hv))))
            | (go_at_call 17; (with_reducible refine (RR.out _ hA).mono ?_; rintro e w1 ⟨rfl, hb1⟩; have hA := btr hA hb1; (try have hcr := hcr.below hb1); (try have hcv := hcv.below hb1); (try have hlp := hlp.below hb1); (try have hu := kept hu hb1); (try have hlv := hlv.below hb1); (try have hv := kept hv hb1); clear c0 c1 c2; obtain ⟨c0, c1, c2⟩ := TC.out _ hA; (try (clear u0 u1 u2; obtain ⟨u0, u1, u2⟩ := tcs_cells hu)); (try (clear v0 v1 v2; obtain ⟨v0, v1, v2⟩ := tcs_cells hv))))
            | (go_at_call 18; (with_reducible refine (SA.out _ hA).mono ?_; rintro e w1 ⟨rfl, hb1⟩; have hA := btr hA hb1; (try have hcr := hcr.below hb1); (try have hcv := hcv.below hb1); (try have hlp := hlp.below hb1); (try have hu := kept hu hb1); (try have hlv := hlv.below hb1); (try have hv := kept hv hb1); clear c0 c1 c2; obtain ⟨c0, c1, c2⟩ := TC.out _ hA; (try (clear u0 u1 u2; obtain ⟨u0, u1, u2⟩ := tcs_cells hu)); (try (clear v0 v1 v2; obtain ⟨v0, v1, v2⟩ := tcs_cells hv))))
            | (go_at_call 19; (with_reducible refine (EI.out _ hA).mono ?_; rintro e w1 ⟨rfl, hb1⟩; have hA := btr hA hb1; (try have hcr := hcr.below hb1); (try have hcv := hcv.below hb1); (try have hlp := hlp.below hb1); (try have hu := kept hu hb1); (try have hlv := hlv.below hb1); (try have hv := kept hv hb1); clear c0 c1 c2; obtain ⟨c0, c1, c2⟩ := TC.out _ hA; (try (clear u0 u1 u2; obtain ⟨u0, u1, u2⟩ := tcs_cells hu)); (try (clear v0 v1 v2; obtain ⟨v0, v1, v2⟩ := tcs_cells hv))))
            | (go_at_call 20; (with_reducible refine (ER.out _ hA).mono ?_; rintro e w1 ⟨rfl, hb1⟩; have hA := btr hA hb1; (try have hcr := hcr.below hb1); (try have hcv := hcv.below hb1); (try have hlp := hlp.below hb1); (try have hu := kept hu hb1); (try have hlv := hlv.below hb1); (try have hv := kept hv hb1); clear c0 c1 c2; obtain ⟨c0, c1, c2⟩ := TC.out _ hA; (try (clear u0 u1 u2; obtain ⟨u0, u1, u2⟩ := tcs_cells hu)); (try (clear v0 v1 v2; obtain ⟨v0, v1, v2⟩ := tcs_cells hv))))
            | (go_at_call 21; (with_reducible refine (TA.out _ hA).mono ?_; rintro e w3 ⟨A4, k4, rfl, hlp, hb1⟩; have hu : (w3.alloc (.cells #[.slice A4 kk k4, .bool HX, .int .i64 LX] 24)).heap[w3.heap.size]? = some (.cells (tcs A4 kk k4 HX LX) 24) := hp_new w3 _; have hlp := hlp.below (bal (Below.refl _ _) (.cells #[.slice A4 kk k4, .bool HX, .int .i64 LX] 24)); have hA := btr hA (bal hb1 (.cells #[.slice A4 kk k4, .bool HX, .int .i64 LX] 24)); have hcr := hcr.below (bal hb1 (.cells #[.slice A4 kk k4, .bool HX, .int .i64 LX] 24)); have hcv := hcv.below (bal hb1 (.cells #[.slice A4 kk k4, .bool HX, .int .i64 LX] 24)); clear c0 c1 c2; obtain ⟨c0, c1, c2⟩ := TC.out _ hA; obtain ⟨u0, u1, u2⟩ := tcs_cells hu))
            | (go_at_call 22; (with_reducible refine (TB.out _ hA).mono ?_; rintro e w4 ⟨A5, k5, rfl, hlv, hb1⟩; have hv : (w4.alloc (.cells #[.slice A5 kk k5, .bool HX, .int .i64 LX] 24)).heap[w4.heap.size]? = some (.cells (tcs A5 kk k5 HX LX) 24) := hp_new w4 _; have hlv := hlv.below (bal (Below.refl _ _) (.cells #[.slice A5 kk k5, .bool HX, .int .i64 LX] 24)); have hA := btr hA (bal hb1 (.cells #[.slice A5 kk k5, .bool HX, .int .i64 LX] 24)); have hcr := hcr.below (bal hb1 (.cells #[.slice A5 kk k5, .bool HX, .int .i64 LX] 24)); have hcv := hcv.below (bal hb1 (.cells #[.slice A5 kk k5, .bool HX, .int .i64 LX] 24)); have hlp := hlp.below (bal hb1 (.cells #[.slice A5 kk k5, .bool HX, .int .i64 LX] 24)); have hu := kept hu (bal hb1 (.cells #[.slice A5 kk k5, .bool HX, .int .i64 LX] 24)); clear u0 u1 u2; obtain ⟨u0, u1, u2⟩ := tcs_cells hu; clear c0 c1 c2; obtain ⟨c0, c1, c2⟩ := TC.out _ hA; obtain ⟨v0, v1, v2⟩ := tcs_cells hv))
            | (go_at_call 23; (with_reducible refine (ST.out _ A4 k4 A5 k5 hlp hlv).mono ?_; rintro e w1 ⟨rfl, hb1⟩; have hA := btr hA hb1; (try have hcr := hcr.below hb1); (try have hcv := hcv.below hb1); (try have hlp := hlp.below hb1); (try have hu := kept hu hb1); (try have hlv := hlv.below hb1); (try have hv := kept hv hb1); clear c0 c1 c2; obtain ⟨c0, c1, c2⟩ := TC.out _ hA; (try (clear u0 u1 u2; obtain ⟨u0, u1, u2⟩ := tcs_cells hu)); (try (clear v0 v1 v2; obtain ⟨v0, v1, v2⟩ := tcs_cells hv))))
            | (go_at_call 24; (with_reducible refine (SUI.out _ hA).mono ?_; rintro e w1 ⟨rfl, hb1⟩; have hA := btr hA hb1; (try have hcr := hcr.below hb1); (try have hcv := hcv.below hb1); (try have hlp := hlp.below hb1); (try have hu := kept hu hb1); (try have hlv := hlv.below hb1); (try have hv := kept hv hb1); clear c0 c1 c2; obtain ⟨c0, c1, c2⟩ := TC.out _ hA; (try (clear u0 u1 u2; obtain ⟨u0, u1, u2⟩ := tcs_cells hu)); (try (clear v0 v1 v2; obtain ⟨v0, v1, v2⟩ := tcs_cells hv))))
            | (go_at_call 25; (with_reducible refine (SUR.out _ hA).mono ?_; rintro e w1 ⟨rfl, hb1⟩; have hA := btr hA hb1; (try have hcr := hcr.below hb1); (try have hcv := hcv.below hb1); (try have hlp := hlp.below hb1); (try have hu := kept hu hb1); (try have hlv := hlv.below hb1); (try have hv := kept hv hb1); clear c0 c1 c2; obtain ⟨c0, c1, c2⟩ := TC.out _ hA; (try (clear u0 u1 u2; obtain ⟨u0, u1, u2⟩ := tcs_cells hu)); (try (clear v0 v1 v2; obtain ⟨v0, v1, v2⟩ := tcs_cells hv))))
            | (go_at_call 26; (with_reducible refine (STI.out _ hA).mono ?_; rintro e w1 ⟨rfl, hb1⟩; have hA := btr hA hb1; (try have hcr := hcr.below hb1); (try have hcv := hcv.below hb1); (try have hlp := hlp.below hb1); (try have hu := kept hu hb1); (try have hlv := hlv.below hb1); (try have hv := kept hv hb1); clear c0 c1 c2; obtain ⟨c0, c1, c2⟩ := TC.out _ hA; (try (clear u0 u1 u2; obtain ⟨u0, u1, u2⟩ := tcs_cells hu)); (try (clear v0 v1 v2; obtain ⟨v0, v1, v2⟩ := tcs_cells hv))))
            | (go_at_call 27; (with_reducible refine (STR.out _ hA).mono ?_; rintro e w1 ⟨rfl, hb1⟩; have hA := btr hA hb1; (try have hcr := hcr.below hb1); (try have hcv := hcv.below hb1); (try have hlp := hlp.below hb1); (try have hu := kept hu hb1); (try have hlv := hlv.below hb1); (try have hv := kept hv hb1); clear c0 c1 c2; obtain ⟨c0, c1, c2⟩ := TC.out _ hA; (try (clear u0 u1 u2; obtain ⟨u0, u1, u2⟩ := tcs_cells hu)); (try (clear v0 v1 v2; obtain ⟨v0, v1, v2⟩ := tcs_cells hv)))))
          go_ret
          exact ⟨ret_bool (by first | rfl | simp), EX.out _ hA⟩
        · rw [show (ew m == 0) = false by simpa using g4] at RI RR
          clear T0 hl0 box hm0 ho0 g4 hm ho
          generalize valR l has x = R at *
          generalize okR l has x = OK at *
          generalize decide (m = o) = S0 at *
          generalize ew m = E0 at *
          generalize pw m = P0 at *
          generalize hRn : R.length = r at *
          generalize l.length = n at *
          generalize m.length = n' at *
          generalize o.length = n'' at *
          go_wp2_with (first
            | (go_at_call 9; (with_reducible refine (SM.out _ hA).mono ?_; rintro e w1 ⟨rfl, hb1⟩; have hA := btr hA hb1; (try have hcr := hcr.below hb1); (try have hcv := hcv.below hb1); (try have hlp := hlp.below hb1); (try have hu := kept hu hb1); (try have hlv := hlv.below hb1); (try have hv := kept hv hb1); clear c0 c1 c2; obtain ⟨c0, c1, c2⟩ := TC.out _ hA; (try (clear u0 u1 u2; obtain ⟨u0, u1, u2⟩ := tcs_cells hu)); (try (clear v0 v1 v2; obtain ⟨v0, v1, v2⟩ := tcs_cells hv))))
            | (go_at_call 10; (with_reducible refine (FE.out _ hA).mono ?_; rintro e w1 ⟨rfl, hb1⟩; have hA := btr hA hb1; (try have hcr := hcr.below hb1); (try have hcv := hcv.below hb1); (try have hlp := hlp.below hb1); (try have hu := kept hu hb1); (try have hlv := hlv.below hb1); (try have hv := kept hv hb1); clear c0 c1 c2; obtain ⟨c0, c1, c2⟩ := TC.out _ hA; (try (clear u0 u1 u2; obtain ⟨u0, u1, u2⟩ := tcs_cells hu)); (try (clear v0 v1 v2; obtain ⟨v0, v1, v2⟩ := tcs_cells hv))))
            | (go_at_call 11; (with_reducible refine (RC.out _ hA).mono ?_; rintro e w1 ⟨A2, k2, rfl, hcr, hb1⟩; have hA := btr hA hb1; clear c0 c1 c2; obtain ⟨c0, c1, c2⟩ := TC.out _ hA))
            | (go_at_call 12; (with_reducible refine (RD.out _ hA).mono ?_; rintro e w2 ⟨A3, k3, rfl, hcv, hb1⟩; have hcr := hcr.below hb1; have hA := btr hA hb1; clear c0 c1 c2; obtain ⟨c0, c1, c2⟩ := TC.out _ hA))
            | (go_at_call 13; (with_reducible refine (CK.out _ hA).mono ?_; rintro e w1 ⟨rfl, hb1⟩; have hA := btr hA hb1; (try have hcr := hcr.below hb1); (try have hcv := hcv.below hb1); (try have hlp := hlp.below hb1); (try have hu := kept hu hb1); (try have hlv := hlv.below hb1); (try have hv := kept hv hb1); clear c0 c1 c2; obtain ⟨c0, c1, c2⟩ := TC.out _ hA; (try (clear u0 u1 u2; obtain ⟨u0, u1, u2⟩ := tcs_cells hu)); (try (clear v0 v1 v2; obtain ⟨v0, v1, v2⟩ := tcs_cells hv))))
            | (go_at_call 14; (with_reducible refine (CR.out _ hA).mono ?_; rintro e w1 ⟨rfl, hb1⟩; have hA := btr hA hb1; (try have hcr := hcr.below hb1); (try have hcv := hcv.below hb1); (try have hlp := hlp.below hb1); (try have hu := kept hu hb1); (try have hlv := hlv.below hb1); (try have hv := kept hv hb1); clear c0 c1 c2; obtain ⟨c0, c1, c2⟩ := TC.out _ hA; (try (clear u0 u1 u2; obtain ⟨u0, u1, u2⟩ := tcs_cells hu)); (try (clear v0 v1 v2; obtain ⟨v0, v1, v2⟩ := tcs_cells hv))))
            | (go_at_call 15; first | (with_reducible refine (SS.out _ A2 k2 A3 k3 hcr hcv).mono ?_; rintro e w1 ⟨rfl, hb1⟩; have hA := btr hA hb1; (try have hcr := hcr.below hb1); (try have hcv := hcv.below hb1); (try have hlp := hlp.below hb1); (try have hu := kept hu hb1); (try have hlv := hlv.below hb1); (try have hv := kept hv hb1); clear c0 c1 c2; obtain ⟨c0, c1, c2⟩ := TC.out _ hA; (try (clear u0 u1 u2; obtain ⟨u0, u1, u2⟩ := tcs_cells hu)); (try (clear v0 v1 v2; obtain ⟨v0, v1, v2⟩ := tcs_cells hv))) | (with_reducible refine (SR.out _ hA).mono ?_; rintro e w1 ⟨rfl, hb1⟩; have hA := btr hA hb1; (try have hcr := hcr.below hb1); (try have hcv := hcv.below hb1); (try have hlp := hlp.below hb1); (try have hu := kept hu hb1); (try have hlv := hlv.below hb1); (try have hv := kept hv hb1); clear c0 c1 c2; obtain ⟨c0, c1, c2⟩ := TC.out _ hA; (try (clear u0 u1 u2; obtain ⟨u0, u1, u2⟩ := tcs_cells hu)); (try (clear v0 v1 v2; obtain ⟨v0, v1, v2⟩ := tcs_cells hv))))
            | (go_at_call 16; (with_reducible refine (RI.out _ hA).mono ?_; rintro e w1 ⟨rfl, hb1⟩; have hA := btr hA hb1; (try have hcr := hcr.below hb1); (try have hcv := hcv.below hb1); (try have hlp := hlp.below hb1); (try have hu := kept hu hb1); (try have hlv := hlv.below hb1); (try have hv := kept hv hb1); clear c0 c1 c2; obtain ⟨c0, c1, c2⟩ := TC.out _ hA; (try (clear u0 u1 u2; obtain ⟨u0, u1, u2⟩ := tcs_cells hu)); (try (clear v0 v1 v2; obtain ⟨v0, v1, v2⟩ := tcs_cells hv))))
            | (go_at_call 17; (with_reducible refine (RR.out _ hA).mono ?_; rintro e w1 ⟨rfl, hb1⟩; have hA := btr hA hb1; (try have hcr := hcr.below hb1); (try have hcv := hcv.below hb1); (try have hlp := hlp.below hb1); (try have hu := kept hu hb1); (try have hlv := hlv.below hb1); (try have hv := kept hv hb1); clear c0 c1 c2; obtain ⟨c0, c1, c2⟩ := TC.out _ hA; (try (clear u0 u1 u2; obtain ⟨u0, u1, u2⟩ := tcs_cells hu)); (try (clear v0 v1 v2; obtain ⟨v0, v1, v2⟩ := tcs_cells hv))))
            | (go_at_call 18; (with_reducible refine (SA.out _ hA).mono ?_; rintro e w1 ⟨rfl, hb1⟩; have hA := btr hA hb1; (try have hcr := hcr.below hb1); (try have hcv := hcv.below hb1); (try have hlp := hlp.below hb1); (try have hu := kept hu hb1); (try have hlv := hlv.below hb1); (try have hv := kept hv hb1); clear c0 c1 c2; obtain ⟨c0, c1, c2⟩ := TC.out _ hA; (try (clear u0 u1 u2; obtain ⟨u0, u1, u2⟩ := tcs_cells hu)); (try (clear v0 v1 v2; obtain ⟨v0, v1, v2⟩ := tcs_cells hv)))))
          go_ret
          exact ⟨ret_bool (by first | rfl | simp), EX.out _ hA⟩
      · have t2 : decide (300 < (o.length : Int)) = true := by simp; omega
        clear T0 hl0 box hm0 ho0 g2 g3 hm ho
        generalize l.length = n at *
        generalize m.length = n' at *
        generalize o.length = n'' at *
        go_wp2_with (first
          | (go_at_call 9; (with_reducible refine (SM.out _ hA).mono ?_; rintro e w1 ⟨rfl, hb1⟩; have hA := btr hA hb1; clear c0 c1 c2; obtain ⟨c0, c1, c2⟩ := TC.out _ hA; (try have y0 := YC.out _ hA); (try obtain ⟨y0, y1, y2⟩ := YL.out _ hA)))
          | (go_at_call 10; (with_reducible refine (FE.out _ hA).mono ?_; rintro e w1 ⟨rfl, hb1⟩; have hA := btr hA hb1; clear c0 c1 c2; obtain ⟨c0, c1, c2⟩ := TC.out _ hA; (try have y0 := YC.out _ hA); (try obtain ⟨y0, y1, y2⟩ := YL.out _ hA))))
        go_ret
        exact ⟨rfl, EX.out _ hA⟩
    · have t : decide (300 < (m.length : Int)) = true := by simp; omega
      clear T0 hl0 box hm0 ho0 g2 hm ho
      generalize l.length = n at *
      generalize m.length = n' at *
      generalize o.length = n'' at *
      go_wp2_with (first
        | (go_at_call 9; (with_reducible refine (SM.out _ hA).mono ?_; rintro e w1 ⟨rfl, hb1⟩; have hA := btr hA hb1; clear c0 c1 c2; obtain ⟨c0, c1, c2⟩ := TC.out _ hA; (try have y0 := YC.out _ hA); (try obtain ⟨y0, y1, y2⟩ := YL.out _ hA)))
        | (go_at_call 10; (with_reducible refine (FE.out _ hA).mono ?_; rintro e w1 ⟨rfl, hb1⟩; have hA := btr hA hb1; clear c0 c1 c2; obtain ⟨c0, c1, c2⟩ := TC.out _ hA; (try have y0 := YC.out _ hA); (try obtain ⟨y0, y1, y2⟩ := YL.out _ hA))))
      go_ret
      exact ⟨rfl, EX.out _ hA⟩
  · rw [decide_eq_false g1] at FE
    clear T0 hl0 box g1 hm0 ho0 hm ho
    generalize l.length = n at *
    generalize m.length = n' at *
    generalize o.length = n'' at *
    go_wp2_with (first
      | (go_at_call 9; (with_reducible refine (SM.out _ hA).mono ?_; rintro e w1 ⟨rfl, hb1⟩; have hA := btr hA hb1; clear c0 c1 c2; obtain ⟨c0, c1, c2⟩ := TC.out _ hA; (try have y0 := YC.out _ hA); (try obtain ⟨y0, y1, y2⟩ := YL.out _ hA)))
      | (go_at_call 10; (with_reducible refine (FE.out _ hA).mono ?_; rintro e w1 ⟨rfl, hb1⟩; have hA := btr hA hb1; clear c0 c1 c2; obtain ⟨c0, c1, c2⟩ := TC.out _ hA; (try have y0 := YC.out _ hA); (try obtain ⟨y0, y1, y2⟩ := YL.out _ hA))))
    go_ret
    exact ⟨rfl, EX.out _ hA⟩
theorem door_met (os : Os) (args : Array Value) : laidMetH Tryd.prog Rows.recordTellsRow.laid ((World.doorLaid Tryd.prog 400 os).forCall (fun _ _ => 0) ⟨#[], args, []⟩).memory :=
  laidMetH_of_parts3 (fuel := 8) (laidMet_of_run' 8 (by kernel_rfl) (by kernel_rfl)) (by kernel_rfl) (by kernel_rfl)
set_option maxRecDepth 100000 in
theorem lifted (os : Os) (started : os.Started) (H : Type) (enc : TypeId × Value → H) :
    ReturnsInHanded {} Tryd.checked os 3 .any (fun w args => (Rows.recordTellsSpec.pre enc Tryd.prog Tryd.f3 [] false w args ∧ laidMetH Tryd.prog Rows.recordTellsRow.laid w) ∧ sizedMet enc Tryd.prog Tryd.f3 (OpenSpec.ofChange Rows.recordTellsSpec) false w args)
      (Rows.recordTellsSpec.post enc Tryd.prog Tryd.f3 false true false false) := by
  refine returnsInHanded_of_change_and (C := Tryd.checked) (X := fun w _ => laidMetH Tryd.prog Rows.recordTellsRow.laid w) (fun _ _ _ hh h => h.of_heap hh) law.own started (by kernel_rfl) Tryd.func3
    (ChangeSpec.witness_shaped (enc := enc) (C := Tryd.checked) (os := os) (X := fun w _ => laidMetH Tryd.prog Rows.recordTellsRow.laid w) false (World.doorLaid Tryd.prog 400 os) #[.agg #[.slice none 0 0, .bool false, .int .i64 0], .slice none 0 0, .int .i64 0, .slice none 0 0] 8 rfl (World.shaped_of_RefB (by kernel_rfl) (by kernel_rfl)) (by kernel_rfl) (by kernel_rfl) (by kernel_rfl) (door_met os _)) ?_
  intro W base args ds gs before hval0 hW _ _ hL _
  rw [MakeChecks.laidMetH_plain _ _ _ (by kernel_rfl)] at hL
  have T0 := day.tabs_of hL (by repeat first | exact List.Mem.head _ | refine List.Mem.tail _ ?_) (by repeat first | exact List.Mem.head _ | refine List.Mem.tail _ ?_)
  have hval : ∀ (j : Nat) t v, Tryd.f3.params[j]? = some t → args[j]? = some v → Value.okWide Tryd.prog W .any base t v := hval0
  have hW' := hW
  obtain ⟨p, q, hA0, hV, rfl, hfz, hnd⟩ := hW
  have hA : DataW.TrodAll enc Tryd.prog W 0 (fun _ => true) true Tryd.f3.params.toList args.toList ds p := hA0
  rw [Tryd.params3] at hA hval
  obtain ⟨v0, vs0, d0, ds0, p0, q0, hargs, rfl, rfl, h0, r0⟩ := trodAll_cons hA
  obtain ⟨v1, vs1, d1, ds1, p1, q1, rfl, rfl, rfl, h1, r1⟩ := trodAll_cons r0
  obtain ⟨v2, vs2, d2, ds2, p2, q2, rfl, rfl, rfl, h2, r2⟩ := trodAll_cons r1
  obtain ⟨v3, vs3, d3, ds3, p3, q3, rfl, rfl, rfl, h3, r3⟩ := trodAll_cons r2
  obtain ⟨rfl, rfl, rfl⟩ := trodAll_nil r3
  obtain rfl : args = #[v0, v1, v2, v3] := by cases args; simp_all
  obtain ⟨rfl, rfl⟩ := trodVars_none hV
  clear hA0 hval0
  obtain ⟨A0_, k0_, l0_, b0_, x0_, rfl, q0_, n0_, m0_, w0_⟩ := leap.open_table (hval 0 24 v0 rfl rfl) h0
  obtain ⟨A1_, k1_, l1_, rfl, q1_, n1_⟩ := rec.open_corrs (hval 1 25 v1 rfl rfl) h1
  obtain ⟨a2, rfl, hd2, hp2, w2⟩ := open_int Tryd.underlying3 (hval 2 3 v2 rfl rfl) h2
  obtain ⟨A3_, k3_, l3_, rfl, q3_, n3_⟩ := rec.open_corrs (hval 3 25 v3 rfl rfl) h3
  refine (Calls.mono (R := fun e w' => e = .returned (.bool true) ∧ Below W.heap.size W w') ?_ fun e W' ⟨he, hb⟩ => ?_)
  · exact walk W l0_ A0_ k0_ b0_ x0_ q0_ n0_ m0_ w0_ l1_ A1_ k1_ q1_ n1_ a2 (bounds_i64 w2) l3_ A3_ k3_ q3_ n3_ T0
  · subst he
    exact ⟨_, rfl, law.post law.laidOut (by kernel_rfl) rfl rfl Tryd.underlying4 rfl hW' hb⟩

theorem over : Rows.recordTellsRow.holds Tryd.pinned (OpenSpec.ofChange Rows.recordTellsSpec) :=
  OpenClaim.holds_of_wide 3 Tryd.f3 rfl rfl rfl rfl rfl rfl rfl ⟨rfl, rfl, rfl, rfl, rfl⟩ rfl rfl rfl rfl rfl (by kernel_rfl) Tryd.func3 (by kernel_rfl)
    (of_decide_eq_true (by kernel_rfl)) (by unfold Func.isWrapper; first | (rw [if_pos (by decide +kernel)]; kernel_rfl) | (rw [if_neg (by decide +kernel)]; exact ⟨rfl, rfl⟩))
    (fun os started H enc _ => lifted os started H enc)

theorem proved : Rows.RecordTellsCardSaid :=
  Claim7.holds_tied_plain_at .later [] _ _ _ _ over (fun _ h => by cases h) (by kernel_rfl) (fun _ h => by cases h) recordTells_row_tie rfl ⟨rfl, rfl⟩ (by kernel_rfl) rfl
    (fun f fn hf hfn => by
      obtain rfl : f = 3 := Option.some.inj ((show Tryd.prog.funcNamed "epact/epactlaw12.RecordTells" = some 3 by kernel_rfl).symm.trans hf) |>.symm
      obtain rfl : fn = Tryd.f3 := (Option.some.inj (Tryd.func3.symm.trans hfn)).symm
      exact ⟨by kernel_rfl, fun j t ht => by
        have hall : (Tryd.f3.params.toList.all fun u => !Tryd.prog.wantsStandIn u) = true := by kernel_rfl
        have hm : t ∈ Tryd.f3.params.toList := by rw [Array.mem_toList_iff]; exact Array.mem_of_getElem? ht
        exact (show Tryd.prog.wantsStandIn t = false by simpa using List.all_eq_true.1 hall t hm)⟩)
    (by kernel_rfl)
end Go.Proofs.YtcikcdeihlmbcaaDoor.recordTells
