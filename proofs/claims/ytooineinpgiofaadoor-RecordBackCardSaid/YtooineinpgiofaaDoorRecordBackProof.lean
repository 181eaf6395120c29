/-
  RecordBack: tables of UTC, and their records, are each other's, and these are right, for every table, and every row of records. Condition: the row's own (the listed tables hold what their initialisers lay; the card ties that).
-/
import Derived.Test.YtooineinpgiofaaDoorRecLaw
import Derived.Test.YtooineinpgiofaaDoorCards
import Derived.Test.YtooineinpgiofaaDoorTie
import Derived.SevenTiedAt
namespace Go.Proofs.YtooineinpgiofaaDoor.recordBack
open Go.ChangeShapes Go.WideShapes Go.ChangeAt Go.RowKit
open rec rm mem
open lm (Lp dy tot ce)
open leap (Lps rl tcs tcs_cells)
set_option linter.unusedVariables false
set_option maxRecDepth 100000

set_option maxHeartbeats 8000000 in
theorem walk (w : World) (l : List Lp) (A : Option Addr) (c : Nat) (has : Bool) (x : Int) (hl : Lps w A l) (hn : l.length ≤ 9223372036854775807) (hc : l.length ≤ c) (hx : -9223372036854775808 ≤ x ∧ x ≤ 9223372036854775807)
    (m : List Cr) (B : Option Addr) (d : Nat) (hm : Crs w B m) (hd : m.length ≤ d) (T : day.Tabs w) :
    Calls Tryd.prog 4 #[.agg #[.slice A l.length c, .bool has, .int .i64 x], .slice B m.length d] w fun e w' => e = .returned (.bool true) ∧ Below w.heap.size w w' := by
  have hm0 := hm.below (bal (Below.refl w.heap.size w) (.cells #[.slice A l.length c, .bool has, .int .i64 x] 24))
  have hmn := hm.1.2
  have hw0 : Below w.heap.size w (w.alloc (.cells #[.slice A l.length c, .bool has, .int .i64 x] 24)) := bal (Below.refl _ _) _
  have box : (w.alloc (.cells #[.slice A l.length c, .bool has, .int .i64 x] 24)).heap[w.heap.size]? = some (.cells (tcs A l.length c has x) 24) := hp_new w _
  have hl0 := hl.below hw0
  have T0 : day.Tabs _ := T.below hw0
  go_enter Tryd.func4, Tryd.ntmps4
  go_wp2_with fail
  generalize w.alloc (.cells #[.slice A l.length c, .bool has, .int .i64 x] 24) = W0 at *
  have HW := Lib.hid hw0
  clear hw0 hl T
  generalize hN : w.heap.size = N at *
  have hA : Below W0.heap.size W0 W0 := Below.refl _ _
  have SM : Hid (∀ W, Below W0.heap.size W0 W → Calls Tryd.prog 9 #[] W fun e w' => e = .returned (.bool true) ∧ Below W.heap.size W w') := fun W hb => rec.small_at W (T0.below hb)
  have TC := Lib.hid (fun W (hb : Below W0.heap.size W0 W) => tcs_cells (kept box hb))
  have EX : Hid (∀ W, Below W0.heap.size W0 W → Below w.heap.size w W) := fun W hb => by rw [hN]; exact HW.out.trans (hb.mono (by have := HW.out.size; rw [hN] at this; exact this))
  obtain ⟨c0, c1, c2⟩ := TC.out _ hA
  have FE : Hid (∀ W, Below W0.heap.size W0 W → Calls Tryd.prog 10 #[.agg #[.slice A l.length c, .bool has, .int .i64 x]] W fun e w' => e = .returned (.bool (decide (l.length ≤ 300))) ∧ Below W.heap.size W w') := fun W hb => leap.few_at A l.length c has x W hn
  have RL : Hid (∀ W, Below W0.heap.size W0 W → Calls Tryd.prog 16 #[.slice B m.length d] W fun e w' => e = .returned (.bool (ew m == 0)) ∧ Below W.heap.size W w') := fun W hb => right_at m B d W (hm0.below hb)
  by_cases g1 : l.length ≤ 300
  · rw [decide_eq_true g1] at FE
    by_cases g2 : m.length ≤ 300
    · have t : decide (300 < (m.length : Int)) = false := by simp; omega
      have RC : Hid (ce l has x = 0 ∧ nr l → ∀ W, Below W0.heap.size W0 W → Calls Tryd.prog 11 #[.agg #[.slice A l.length c, .bool has, .int .i64 x]] W fun e w' => ∃ A' c', e = .returned (.tuple #[.slice A' (recs l has x).length c', .bool true]) ∧ Crs w' A' (recs l has x) ∧ (recs l has x).length ≤ c' ∧ Below W.heap.size W w') := fun h W hb => records_yes l A c has x W (T0.below hb) (hl0.below hb) h.1 h.2
      have RN : Hid (¬ (ce l has x = 0 ∧ nr l) → ∀ W, Below W0.heap.size W0 W → Calls Tryd.prog 11 #[.agg #[.slice A l.length c, .bool has, .int .i64 x]] W fun e w' => e = .returned (.tuple #[.slice none 0 0, .bool false]) ∧ Below W.heap.size W w') := fun h W hb => records_no l A c has x W (T0.below hb) (hl0.below hb) hn (fun a b => h ⟨a, b⟩)
      have TA : Hid (ce l has x = 0 ∧ nr l → ∀ W A' c', Below W0.heap.size W0 W → Crs W A' (recs l has x) → (recs l has x).length ≤ c' → Calls Tryd.prog 21 #[.slice A' (recs l has x).length c'] W fun e w' => ∃ A3 c3, e = .returned (.tuple #[.agg #[.slice A3 l.length c3, .bool has, .int .i64 x], .bool true]) ∧ Lps w' A3 l ∧ Below W.heap.size W w') := fun h W A' c' hb hcr hle => by
        refine (table_at (recs l has x) A' c' W (T0.below hb) hcr (recs_ok h.1) hle).mono ?_
        obtain ⟨e1, e2, e3⟩ := lk_recs h.1 h.2
        rintro e w' (⟨_, A3, c3, he, hl, _, hb'⟩ | ⟨k, _⟩)
        · rw [e1, e2, e3] at he
          rw [e1] at hl
          exact ⟨A3, c3, he, hl, hb'⟩
        · rw [tb_recs h.1 h.2] at k; cases k
      have ST : Hid (∀ W A' c', Below W0.heap.size W0 W → Lps W A' l → Calls Tryd.prog 23 #[.agg #[.slice A' l.length c', .bool has, .int .i64 x], .agg #[.slice A l.length c, .bool has, .int .i64 x]] W fun e w' => e = .returned (.bool true) ∧ Below W.heap.size W w') := fun W A' c' hb hlp => by
        have := ref09.same_at l l A' A c' c has has x x W hlp (hl0.below hb) hn hn
        rw [sm_same] at this
        exact this
      have RA : Hid (ce l has x = 0 ∧ nr l → ∀ W A' c', Below W0.heap.size W0 W → Crs W A' (recs l has x) → Calls Tryd.prog 16 #[.slice A' (recs l has x).length c'] W fun e w' => e = .returned (.bool true) ∧ Below W.heap.size W w') := fun h W A' c' hb hcr => by
        have := right_at (recs l has x) A' c' W hcr
        rw [show (ew (recs l has x) == 0) = true by rw [ew_ok.2 (recs_ok h.1)]; rfl] at this
        exact this
      have SZ : Hid (∀ W, Below W0.heap.size W0 W → Calls Tryd.prog 23 #[.agg #[.slice none 0 0, .bool false, .int .i64 0], .agg #[.slice none 0 0, .bool false, .int .i64 0]] W fun e w' => e = .returned (.bool true) ∧ Below W.heap.size W w') := fun W hb => by
        have := ref09.same_at [] [] none none 0 0 false false 0 0 W (fun h => absurd rfl h) (fun h => absurd rfl h) (by decide) (by decide)
        rw [sm_same] at this
        exact this
      by_cases g3 : ew m = 0
      · rw [show (ew m == 0) = true by simpa using g3] at RL
        have hO := ew_ok.1 g3
        cases ht : tb m
        · have TL : Hid (∀ W, Below W0.heap.size W0 W → Calls Tryd.prog 21 #[.slice B m.length d] W fun e w' => e = .returned (.tuple #[.agg #[.slice none 0 0, .bool false, .int .i64 0], .bool false]) ∧ Below W.heap.size W w') := fun W hb => by
            refine (table_at m B d W (T0.below hb) (hm0.below hb) hO hd).mono ?_
            rintro e w' (⟨k, _⟩ | ⟨_, he, hb'⟩)
            · rw [ht] at k; cases k
            · exact ⟨he, hb'⟩
          clear T0 hl0 box hm0 hO g3 ht hm
          by_cases hok : ce l has x = 0 ∧ nr l
          · have RC := Lib.hid (RC.out hok)
            have TA := Lib.hid (TA.out hok)
            have RA := Lib.hid (RA.out hok)
            clear RN hok
            generalize recs l has x = R at *
            generalize hRn : R.length = r at *
            generalize l.length = n at *
            generalize m.length = n' at *
            go_wp2_with (first
              | (go_at_call 9; (with_reducible refine (SM.out _ hA).mono ?_; rintro e w1 ⟨rfl, hb1⟩; have hA := btr hA hb1; (try have hcr := hcr.below hb1); (try have hlp := hlp.below hb1); (try have hu := kept hu hb1); (try have hcv := hcv.below hb1); (try have hlv := hlv.below hb1); (try have hv := kept hv hb1); clear c0 c1 c2; obtain ⟨c0, c1, c2⟩ := TC.out _ hA; (try (clear u0 u1 u2; obtain ⟨u0, u1, u2⟩ := tcs_cells hu)); (try (clear v0 v1 v2; obtain ⟨v0, v1, v2⟩ := tcs_cells hv))))
              | (go_at_call 10; (with_reducible refine (FE.out _ hA).mono ?_; rintro e w1 ⟨rfl, hb1⟩; have hA := btr hA hb1; (try have hcr := hcr.below hb1); (try have hlp := hlp.below hb1); (try have hu := kept hu hb1); (try have hcv := hcv.below hb1); (try have hlv := hlv.below hb1); (try have hv := kept hv hb1); clear c0 c1 c2; obtain ⟨c0, c1, c2⟩ := TC.out _ hA; (try (clear u0 u1 u2; obtain ⟨u0, u1, u2⟩ := tcs_cells hu)); (try (clear v0 v1 v2; obtain ⟨v0, v1, v2⟩ := tcs_cells hv))))
              | (go_at_call 11; (with_reducible refine (RC.out _ hA).mono ?_; rintro e w1 ⟨A2, c9, rfl, hcr, hcl, hb1⟩; have hA := btr hA hb1; clear c0 c1 c2; obtain ⟨c0, c1, c2⟩ := TC.out _ hA))
              | (go_at_call 21; first | (with_reducible refine (TA.out _ _ _ hA hcr hcl).mono ?_; rintro e w1 ⟨A3, c3, rfl, hlp, hb1⟩; have hu : (w1.alloc (.cells #[.slice A3 n c3, .bool has, .int .i64 x] 24)).heap[w1.heap.size]? = some (.cells (tcs A3 n c3 has x) 24) := hp_new w1 _; have hlp := hlp.below (bal (Below.refl _ _) (.cells #[.slice A3 n c3, .bool has, .int .i64 x] 24)); obtain ⟨u0, u1, u2⟩ := tcs_cells hu; have hA := btr hA (bal hb1 (.cells #[.slice A3 n c3, .bool has, .int .i64 x] 24)); have hcr := hcr.below (bal hb1 (.cells #[.slice A3 n c3, .bool has, .int .i64 x] 24)); clear c0 c1 c2; obtain ⟨c0, c1, c2⟩ := TC.out _ hA) | (with_reducible refine (TL.out _ hA).mono ?_; rintro e w1 ⟨rfl, hb1⟩; have hb1 := bal hb1 (.cells #[.slice none 0 0, .bool false, .int .i64 0] 24); have hA := btr hA hb1; (try have hcr := hcr.below hb1); (try have hlp := hlp.below hb1); (try have hu := kept hu hb1); (try have hcv := hcv.below hb1); (try have hlv := hlv.below hb1); (try have hv := kept hv hb1); clear c0 c1 c2; obtain ⟨c0, c1, c2⟩ := TC.out _ hA; (try (clear u0 u1 u2; obtain ⟨u0, u1, u2⟩ := tcs_cells hu)); (try (clear v0 v1 v2; obtain ⟨v0, v1, v2⟩ := tcs_cells hv))))
              | (go_at_call 23; first | (with_reducible refine (ST.out _ _ _ hA hlp).mono ?_; rintro e w1 ⟨rfl, hb1⟩; have hA := btr hA hb1; (try have hcr := hcr.below hb1); (try have hlp := hlp.below hb1); (try have hu := kept hu hb1); (try have hcv := hcv.below hb1); (try have hlv := hlv.below hb1); (try have hv := kept hv hb1); clear c0 c1 c2; obtain ⟨c0, c1, c2⟩ := TC.out _ hA; (try (clear u0 u1 u2; obtain ⟨u0, u1, u2⟩ := tcs_cells hu)); (try (clear v0 v1 v2; obtain ⟨v0, v1, v2⟩ := tcs_cells hv))) | (with_reducible refine (SZ.out _ hA).mono ?_; rintro e w1 ⟨rfl, hb1⟩; have hA := btr hA hb1; (try have hcr := hcr.below hb1); (try have hlp := hlp.below hb1); (try have hu := kept hu hb1); (try have hcv := hcv.below hb1); (try have hlv := hlv.below hb1); (try have hv := kept hv hb1); clear c0 c1 c2; obtain ⟨c0, c1, c2⟩ := TC.out _ hA; (try (clear u0 u1 u2; obtain ⟨u0, u1, u2⟩ := tcs_cells hu)); (try (clear v0 v1 v2; obtain ⟨v0, v1, v2⟩ := tcs_cells hv))))
              | (go_at_call 16; first | (with_reducible refine (RA.out _ _ _ hA hcr).mono ?_; rintro e w1 ⟨rfl, hb1⟩; have hA := btr hA hb1; (try have hcr := hcr.below hb1); (try have hlp := hlp.below hb1); (try have hu := kept hu hb1); (try have hcv := hcv.below hb1); (try have hlv := hlv.below hb1); (try have hv := kept hv hb1); clear c0 c1 c2; obtain ⟨c0, c1, c2⟩ := TC.out _ hA; (try (clear u0 u1 u2; obtain ⟨u0, u1, u2⟩ := tcs_cells hu)); (try (clear v0 v1 v2; obtain ⟨v0, v1, v2⟩ := tcs_cells hv))) | (with_reducible refine (RL.out _ hA).mono ?_; rintro e w1 ⟨rfl, hb1⟩; have hA := btr hA hb1; (try have hcr := hcr.below hb1); (try have hlp := hlp.below hb1); (try have hu := kept hu hb1); (try have hcv := hcv.below hb1); (try have hlv := hlv.below hb1); (try have hv := kept hv hb1); clear c0 c1 c2; obtain ⟨c0, c1, c2⟩ := TC.out _ hA; (try (clear u0 u1 u2; obtain ⟨u0, u1, u2⟩ := tcs_cells hu)); (try (clear v0 v1 v2; obtain ⟨v0, v1, v2⟩ := tcs_cells hv)))))
            go_ret
            exact ⟨ret_bool (by first | rfl | simp), EX.out _ hA⟩
          · have RN := Lib.hid (RN.out hok)
            clear RC TA RA ST hok
            generalize l.length = n at *
            generalize m.length = n' at *
            go_wp2_with (first
              | (go_at_call 9; (with_reducible refine (SM.out _ hA).mono ?_; rintro e w1 ⟨rfl, hb1⟩; have hA := btr hA hb1; (try have hcr := hcr.below hb1); (try have hlp := hlp.below hb1); (try have hu := kept hu hb1); (try have hcv := hcv.below hb1); (try have hlv := hlv.below hb1); (try have hv := kept hv hb1); clear c0 c1 c2; obtain ⟨c0, c1, c2⟩ := TC.out _ hA; (try (clear u0 u1 u2; obtain ⟨u0, u1, u2⟩ := tcs_cells hu)); (try (clear v0 v1 v2; obtain ⟨v0, v1, v2⟩ := tcs_cells hv))))
              | (go_at_call 10; (with_reducible refine (FE.out _ hA).mono ?_; rintro e w1 ⟨rfl, hb1⟩; have hA := btr hA hb1; (try have hcr := hcr.below hb1); (try have hlp := hlp.below hb1); (try have hu := kept hu hb1); (try have hcv := hcv.below hb1); (try have hlv := hlv.below hb1); (try have hv := kept hv hb1); clear c0 c1 c2; obtain ⟨c0, c1, c2⟩ := TC.out _ hA; (try (clear u0 u1 u2; obtain ⟨u0, u1, u2⟩ := tcs_cells hu)); (try (clear v0 v1 v2; obtain ⟨v0, v1, v2⟩ := tcs_cells hv))))
              | (go_at_call 11; (with_reducible refine (RN.out _ hA).mono ?_; rintro e w1 ⟨rfl, hb1⟩; have hA := btr hA hb1; (try have hcr := hcr.below hb1); (try have hlp := hlp.below hb1); (try have hu := kept hu hb1); (try have hcv := hcv.below hb1); (try have hlv := hlv.below hb1); (try have hv := kept hv hb1); clear c0 c1 c2; obtain ⟨c0, c1, c2⟩ := TC.out _ hA; (try (clear u0 u1 u2; obtain ⟨u0, u1, u2⟩ := tcs_cells hu)); (try (clear v0 v1 v2; obtain ⟨v0, v1, v2⟩ := tcs_cells hv))))
              | (go_at_call 21; (with_reducible refine (TL.out _ hA).mono ?_; rintro e w1 ⟨rfl, hb1⟩; have hb1 := bal hb1 (.cells #[.slice none 0 0, .bool false, .int .i64 0] 24); have hA := btr hA hb1; (try have hcr := hcr.below hb1); (try have hlp := hlp.below hb1); (try have hu := kept hu hb1); (try have hcv := hcv.below hb1); (try have hlv := hlv.below hb1); (try have hv := kept hv hb1); clear c0 c1 c2; obtain ⟨c0, c1, c2⟩ := TC.out _ hA; (try (clear u0 u1 u2; obtain ⟨u0, u1, u2⟩ := tcs_cells hu)); (try (clear v0 v1 v2; obtain ⟨v0, v1, v2⟩ := tcs_cells hv))))
              | (go_at_call 23; (with_reducible refine (SZ.out _ hA).mono ?_; rintro e w1 ⟨rfl, hb1⟩; have hA := btr hA hb1; (try have hcr := hcr.below hb1); (try have hlp := hlp.below hb1); (try have hu := kept hu hb1); (try have hcv := hcv.below hb1); (try have hlv := hlv.below hb1); (try have hv := kept hv hb1); clear c0 c1 c2; obtain ⟨c0, c1, c2⟩ := TC.out _ hA; (try (clear u0 u1 u2; obtain ⟨u0, u1, u2⟩ := tcs_cells hu)); (try (clear v0 v1 v2; obtain ⟨v0, v1, v2⟩ := tcs_cells hv))))
              | (go_at_call 16; (with_reducible refine (RL.out _ hA).mono ?_; rintro e w1 ⟨rfl, hb1⟩; have hA := btr hA hb1; (try have hcr := hcr.below hb1); (try have hlp := hlp.below hb1); (try have hu := kept hu hb1); (try have hcv := hcv.below hb1); (try have hlv := hlv.below hb1); (try have hv := kept hv hb1); clear c0 c1 c2; obtain ⟨c0, c1, c2⟩ := TC.out _ hA; (try (clear u0 u1 u2; obtain ⟨u0, u1, u2⟩ := tcs_cells hu)); (try (clear v0 v1 v2; obtain ⟨v0, v1, v2⟩ := tcs_cells hv)))))
            go_ret
            exact ⟨ret_bool (by first | rfl | simp), EX.out _ hA⟩
        · obtain ⟨t1, t2⟩ := tb_iff.1 ht
          have TL : Hid (∀ W, Below W0.heap.size W0 W → Calls Tryd.prog 21 #[.slice B m.length d] W fun e w' => ∃ A3 c3, e = .returned (.tuple #[.agg #[.slice A3 (lk m).length c3, .bool (hasX m), .int .i64 (lkx m)], .bool true]) ∧ Lps w' A3 (lk m) ∧ Below W.heap.size W w') := fun W hb => by
            refine (table_at m B d W (T0.below hb) (hm0.below hb) hO hd).mono ?_
            rintro e w' (⟨_, A3, c3, he, hl, _, hb'⟩ | ⟨k, _⟩)
            · exact ⟨A3, c3, he, hl, hb'⟩
            · rw [ht] at k; cases k
          have RU : Hid (∀ W A' c', Below W0.heap.size W0 W → Lps W A' (lk m) → Calls Tryd.prog 11 #[.agg #[.slice A' (lk m).length c', .bool (hasX m), .int .i64 (lkx m)]] W fun e w' => ∃ A5 c5, e = .returned (.tuple #[.slice A5 m.length c5, .bool true]) ∧ Crs w' A5 m ∧ Below W.heap.size W w') := fun W A' c' hb hlp => by
            refine (records_yes (lk m) A' c' (hasX m) (lkx m) W (T0.below hb) hlp t1 (lk_nr m)).mono ?_
            rintro e w' ⟨A5, c5, he, hcr, _, hb'⟩
            rw [t2] at he hcr
            exact ⟨A5, c5, he, hcr, hb'⟩
          have SB : Hid (∀ W A' c', Below W0.heap.size W0 W → Crs W A' m → Calls Tryd.prog 18 #[.slice A' m.length c', .slice B m.length d] W fun e w' => e = .returned (.bool true) ∧ Below W.heap.size W w') := fun W A' c' hb hcr => by
            have := same_at m m A' B c' d W hcr (hm0.below hb)
            rw [decide_eq_true rfl] at this
            exact this
          have RW : Hid (∀ W A' c', Below W0.heap.size W0 W → Lps W A' (lk m) → Calls Tryd.prog 28 #[.agg #[.slice A' (lk m).length c', .bool (hasX m), .int .i64 (lkx m)]] W fun e w' => e = .returned (.bool true) ∧ Below W.heap.size W w') := fun W A' c' hb hlp => by
            have := leap.right_at (lk m) A' c' (hasX m) (lkx m) W (T0.below hb) hlp (by rw [lk_len]; have := nl_le m; omega)
            rw [show (ce (lk m) (hasX m) (lkx m) == 0) = true by rw [t1]; rfl] at this
            exact this
          clear T0 hl0 box hm0 hO g3 ht hm t1 t2
          by_cases hok : ce l has x = 0 ∧ nr l
          · have RC := Lib.hid (RC.out hok)
            have TA := Lib.hid (TA.out hok)
            have RA := Lib.hid (RA.out hok)
            clear RN hok
            generalize recs l has x = R at *
            generalize hRn : R.length = r at *
            generalize hasX m = I at *
            generalize lkx m = LX at *
            generalize (lk m).length = q at *
            generalize l.length = n at *
            generalize m.length = n' at *
            go_wp2_with (first
              | (go_at_call 9; (with_reducible refine (SM.out _ hA).mono ?_; rintro e w1 ⟨rfl, hb1⟩; have hA := btr hA hb1; (try have hcr := hcr.below hb1); (try have hlp := hlp.below hb1); (try have hu := kept hu hb1); (try have hcv := hcv.below hb1); (try have hlv := hlv.below hb1); (try have hv := kept hv hb1); clear c0 c1 c2; obtain ⟨c0, c1, c2⟩ := TC.out _ hA; (try (clear u0 u1 u2; obtain ⟨u0, u1, u2⟩ := tcs_cells hu)); (try (clear v0 v1 v2; obtain ⟨v0, v1, v2⟩ := tcs_cells hv))))
              | (go_at_call 10; (with_reducible refine (FE.out _ hA).mono ?_; rintro e w1 ⟨rfl, hb1⟩; have hA := btr hA hb1; (try have hcr := hcr.below hb1); (try have hlp := hlp.below hb1); (try have hu := kept hu hb1); (try have hcv := hcv.below hb1); (try have hlv := hlv.below hb1); (try have hv := kept hv hb1); clear c0 c1 c2; obtain ⟨c0, c1, c2⟩ := TC.out _ hA; (try (clear u0 u1 u2; obtain ⟨u0, u1, u2⟩ := tcs_cells hu)); (try (clear v0 v1 v2; obtain ⟨v0, v1, v2⟩ := tcs_cells hv))))
              | (go_at_call 11; first | (with_reducible refine (RC.out _ hA).mono ?_; rintro e w1 ⟨A2, c9, rfl, hcr, hcl, hb1⟩; have hA := btr hA hb1; clear c0 c1 c2; obtain ⟨c0, c1, c2⟩ := TC.out _ hA) | (with_reducible refine (RU.out _ _ _ hA hlv).mono ?_; rintro e w1 ⟨A5, c5, rfl, hcv, hb1⟩; have hA := btr hA hb1; have hlv := hlv.below hb1; have hv := kept hv hb1; clear c0 c1 c2 v0 v1 v2; obtain ⟨c0, c1, c2⟩ := TC.out _ hA; obtain ⟨v0, v1, v2⟩ := tcs_cells hv))
              | (go_at_call 21; first | (with_reducible refine (TA.out _ _ _ hA hcr hcl).mono ?_; rintro e w1 ⟨A3, c3, rfl, hlp, hb1⟩; have hu : (w1.alloc (.cells #[.slice A3 n c3, .bool has, .int .i64 x] 24)).heap[w1.heap.size]? = some (.cells (tcs A3 n c3 has x) 24) := hp_new w1 _; have hlp := hlp.below (bal (Below.refl _ _) (.cells #[.slice A3 n c3, .bool has, .int .i64 x] 24)); obtain ⟨u0, u1, u2⟩ := tcs_cells hu; have hA := btr hA (bal hb1 (.cells #[.slice A3 n c3, .bool has, .int .i64 x] 24)); have hcr := hcr.below (bal hb1 (.cells #[.slice A3 n c3, .bool has, .int .i64 x] 24)); clear c0 c1 c2; obtain ⟨c0, c1, c2⟩ := TC.out _ hA) | (with_reducible refine (TL.out _ hA).mono ?_; rintro e w1 ⟨A4, c4, rfl, hlv, hb1⟩; have hv : (w1.alloc (.cells #[.slice A4 q c4, .bool I, .int .i64 LX] 24)).heap[w1.heap.size]? = some (.cells (tcs A4 q c4 I LX) 24) := hp_new w1 _; have hlv := hlv.below (bal (Below.refl _ _) (.cells #[.slice A4 q c4, .bool I, .int .i64 LX] 24)); obtain ⟨v0, v1, v2⟩ := tcs_cells hv; have hA := btr hA (bal hb1 (.cells #[.slice A4 q c4, .bool I, .int .i64 LX] 24)); clear c0 c1 c2; obtain ⟨c0, c1, c2⟩ := TC.out _ hA))
              | (go_at_call 23; (with_reducible refine (ST.out _ _ _ hA hlp).mono ?_; rintro e w1 ⟨rfl, hb1⟩; have hA := btr hA hb1; (try have hcr := hcr.below hb1); (try have hlp := hlp.below hb1); (try have hu := kept hu hb1); (try have hcv := hcv.below hb1); (try have hlv := hlv.below hb1); (try have hv := kept hv hb1); clear c0 c1 c2; obtain ⟨c0, c1, c2⟩ := TC.out _ hA; (try (clear u0 u1 u2; obtain ⟨u0, u1, u2⟩ := tcs_cells hu)); (try (clear v0 v1 v2; obtain ⟨v0, v1, v2⟩ := tcs_cells hv))))
              | (go_at_call 16; first | (with_reducible refine (RA.out _ _ _ hA hcr).mono ?_; rintro e w1 ⟨rfl, hb1⟩; have hA := btr hA hb1; (try have hcr := hcr.below hb1); (try have hlp := hlp.below hb1); (try have hu := kept hu hb1); (try have hcv := hcv.below hb1); (try have hlv := hlv.below hb1); (try have hv := kept hv hb1); clear c0 c1 c2; obtain ⟨c0, c1, c2⟩ := TC.out _ hA; (try (clear u0 u1 u2; obtain ⟨u0, u1, u2⟩ := tcs_cells hu)); (try (clear v0 v1 v2; obtain ⟨v0, v1, v2⟩ := tcs_cells hv))) | (with_reducible refine (RL.out _ hA).mono ?_; rintro e w1 ⟨rfl, hb1⟩; have hA := btr hA hb1; (try have hcr := hcr.below hb1); (try have hlp := hlp.below hb1); (try have hu := kept hu hb1); (try have hcv := hcv.below hb1); (try have hlv := hlv.below hb1); (try have hv := kept hv hb1); clear c0 c1 c2; obtain ⟨c0, c1, c2⟩ := TC.out _ hA; (try (clear u0 u1 u2; obtain ⟨u0, u1, u2⟩ := tcs_cells hu)); (try (clear v0 v1 v2; obtain ⟨v0, v1, v2⟩ := tcs_cells hv))))
              | (go_at_call 18; (with_reducible refine (SB.out _ _ _ hA hcv).mono ?_; rintro e w1 ⟨rfl, hb1⟩; have hA := btr hA hb1; (try have hcr := hcr.below hb1); (try have hlp := hlp.below hb1); (try have hu := kept hu hb1); (try have hcv := hcv.below hb1); (try have hlv := hlv.below hb1); (try have hv := kept hv hb1); clear c0 c1 c2; obtain ⟨c0, c1, c2⟩ := TC.out _ hA; (try (clear u0 u1 u2; obtain ⟨u0, u1, u2⟩ := tcs_cells hu)); (try (clear v0 v1 v2; obtain ⟨v0, v1, v2⟩ := tcs_cells hv))))
              | (go_at_call 28; (with_reducible refine (RW.out _ _ _ hA hlv).mono ?_; rintro e w1 ⟨rfl, hb1⟩; have hA := btr hA hb1; (try have hcr := hcr.below hb1); (try have hlp := hlp.below hb1); (try have hu := kept hu hb1); (try have hcv := hcv.below hb1); (try have hlv := hlv.below hb1); (try have hv := kept hv hb1); clear c0 c1 c2; obtain ⟨c0, c1, c2⟩ := TC.out _ hA; (try (clear u0 u1 u2; obtain ⟨u0, u1, u2⟩ := tcs_cells hu)); (try (clear v0 v1 v2; obtain ⟨v0, v1, v2⟩ := tcs_cells hv)))))
            go_ret
            exact ⟨ret_bool (by first | rfl | simp), EX.out _ hA⟩
          · have RN := Lib.hid (RN.out hok)
            clear RC TA RA ST hok
            generalize hasX m = I at *
            generalize lkx m = LX at *
            generalize (lk m).length = q at *
            generalize l.length = n at *
            generalize m.length = n' at *
            go_wp2_with (first
              | (go_at_call 9; (with_reducible refine (SM.out _ hA).mono ?_; rintro e w1 ⟨rfl, hb1⟩; have hA := btr hA hb1; (try have hcr := hcr.below hb1); (try have hlp := hlp.below hb1); (try have hu := kept hu hb1); (try have hcv := hcv.below hb1); (try have hlv := hlv.below hb1); (try have hv := kept hv hb1); clear c0 c1 c2; obtain ⟨c0, c1, c2⟩ := TC.out _ hA; (try (clear u0 u1 u2; obtain ⟨u0, u1, u2⟩ := tcs_cells hu)); (try (clear v0 v1 v2; obtain ⟨v0, v1, v2⟩ := tcs_cells hv))))
              | (go_at_call 10; (with_reducible refine (FE.out _ hA).mono ?_; rintro e w1 ⟨rfl, hb1⟩; have hA := btr hA hb1; (try have hcr := hcr.below hb1); (try have hlp := hlp.below hb1); (try have hu := kept hu hb1); (try have hcv := hcv.below hb1); (try have hlv := hlv.below hb1); (try have hv := kept hv hb1); clear c0 c1 c2; obtain ⟨c0, c1, c2⟩ := TC.out _ hA; (try (clear u0 u1 u2; obtain ⟨u0, u1, u2⟩ := tcs_cells hu)); (try (clear v0 v1 v2; obtain ⟨v0, v1, v2⟩ := tcs_cells hv))))
              | (go_at_call 11; first | (with_reducible refine (RN.out _ hA).mono ?_; rintro e w1 ⟨rfl, hb1⟩; have hA := btr hA hb1; (try have hcr := hcr.below hb1); (try have hlp := hlp.below hb1); (try have hu := kept hu hb1); (try have hcv := hcv.below hb1); (try have hlv := hlv.below hb1); (try have hv := kept hv hb1); clear c0 c1 c2; obtain ⟨c0, c1, c2⟩ := TC.out _ hA; (try (clear u0 u1 u2; obtain ⟨u0, u1, u2⟩ := tcs_cells hu)); (try (clear v0 v1 v2; obtain ⟨v0, v1, v2⟩ := tcs_cells hv))) | (with_reducible refine (RU.out _ _ _ hA hlv).mono ?_; rintro e w1 ⟨A5, c5, rfl, hcv, hb1⟩; have hA := btr hA hb1; have hlv := hlv.below hb1; have hv := kept hv hb1; clear c0 c1 c2 v0 v1 v2; obtain ⟨c0, c1, c2⟩ := TC.out _ hA; obtain ⟨v0, v1, v2⟩ := tcs_cells hv))
              | (go_at_call 21; (with_reducible refine (TL.out _ hA).mono ?_; rintro e w1 ⟨A4, c4, rfl, hlv, hb1⟩; have hv : (w1.alloc (.cells #[.slice A4 q c4, .bool I, .int .i64 LX] 24)).heap[w1.heap.size]? = some (.cells (tcs A4 q c4 I LX) 24) := hp_new w1 _; have hlv := hlv.below (bal (Below.refl _ _) (.cells #[.slice A4 q c4, .bool I, .int .i64 LX] 24)); obtain ⟨v0, v1, v2⟩ := tcs_cells hv; have hA := btr hA (bal hb1 (.cells #[.slice A4 q c4, .bool I, .int .i64 LX] 24)); clear c0 c1 c2; obtain ⟨c0, c1, c2⟩ := TC.out _ hA))
              | (go_at_call 16; (with_reducible refine (RL.out _ hA).mono ?_; rintro e w1 ⟨rfl, hb1⟩; have hA := btr hA hb1; (try have hcr := hcr.below hb1); (try have hlp := hlp.below hb1); (try have hu := kept hu hb1); (try have hcv := hcv.below hb1); (try have hlv := hlv.below hb1); (try have hv := kept hv hb1); clear c0 c1 c2; obtain ⟨c0, c1, c2⟩ := TC.out _ hA; (try (clear u0 u1 u2; obtain ⟨u0, u1, u2⟩ := tcs_cells hu)); (try (clear v0 v1 v2; obtain ⟨v0, v1, v2⟩ := tcs_cells hv))))
              | (go_at_call 18; (with_reducible refine (SB.out _ _ _ hA hcv).mono ?_; rintro e w1 ⟨rfl, hb1⟩; have hA := btr hA hb1; (try have hcr := hcr.below hb1); (try have hlp := hlp.below hb1); (try have hu := kept hu hb1); (try have hcv := hcv.below hb1); (try have hlv := hlv.below hb1); (try have hv := kept hv hb1); clear c0 c1 c2; obtain ⟨c0, c1, c2⟩ := TC.out _ hA; (try (clear u0 u1 u2; obtain ⟨u0, u1, u2⟩ := tcs_cells hu)); (try (clear v0 v1 v2; obtain ⟨v0, v1, v2⟩ := tcs_cells hv))))
              | (go_at_call 28; (with_reducible refine (RW.out _ _ _ hA hlv).mono ?_; rintro e w1 ⟨rfl, hb1⟩; have hA := btr hA hb1; (try have hcr := hcr.below hb1); (try have hlp := hlp.below hb1); (try have hu := kept hu hb1); (try have hcv := hcv.below hb1); (try have hlv := hlv.below hb1); (try have hv := kept hv hb1); clear c0 c1 c2; obtain ⟨c0, c1, c2⟩ := TC.out _ hA; (try (clear u0 u1 u2; obtain ⟨u0, u1, u2⟩ := tcs_cells hu)); (try (clear v0 v1 v2; obtain ⟨v0, v1, v2⟩ := tcs_cells hv)))))
            go_ret
            exact ⟨ret_bool (by first | rfl | simp), EX.out _ hA⟩
      · rw [show (ew m == 0) = false by simpa using g3] at RL
        clear T0 hl0 box hm0 g3 hm
        by_cases hok : ce l has x = 0 ∧ nr l
        · have RC := Lib.hid (RC.out hok)
          have TA := Lib.hid (TA.out hok)
          have RA := Lib.hid (RA.out hok)
          clear RN hok
          generalize recs l has x = R at *
          generalize hRn : R.length = r at *
          generalize l.length = n at *
          generalize m.length = n' at *
          go_wp2_with (first
            | (go_at_call 9; (with_reducible refine (SM.out _ hA).mono ?_; rintro e w1 ⟨rfl, hb1⟩; have hA := btr hA hb1; (try have hcr := hcr.below hb1); (try have hlp := hlp.below hb1); (try have hu := kept hu hb1); (try have hcv := hcv.below hb1); (try have hlv := hlv.below hb1); (try have hv := kept hv hb1); clear c0 c1 c2; obtain ⟨c0, c1, c2⟩ := TC.out _ hA; (try (clear u0 u1 u2; obtain ⟨u0, u1, u2⟩ := tcs_cells hu)); (try (clear v0 v1 v2; obtain ⟨v0, v1, v2⟩ := tcs_cells hv))))
            | (go_at_call 10; (with_reducible refine (FE.out _ hA).mono ?_; rintro e w1 ⟨rfl, hb1⟩; have hA := btr hA hb1; (try have hcr := hcr.below hb1); (try have hlp := hlp.below hb1); (try have hu := kept hu hb1); (try have hcv := hcv.below hb1); (try have hlv := hlv.below hb1); (try have hv := kept hv hb1); clear c0 c1 c2; obtain ⟨c0, c1, c2⟩ := TC.out _ hA; (try (clear u0 u1 u2; obtain ⟨u0, u1, u2⟩ := tcs_cells hu)); (try (clear v0 v1 v2; obtain ⟨v0, v1, v2⟩ := tcs_cells hv))))
            | (go_at_call 11; (with_reducible refine (RC.out _ hA).mono ?_; rintro e w1 ⟨A2, c9, rfl, hcr, hcl, hb1⟩; have hA := btr hA hb1; clear c0 c1 c2; obtain ⟨c0, c1, c2⟩ := TC.out _ hA))
            | (go_at_call 21; (with_reducible refine (TA.out _ _ _ hA hcr hcl).mono ?_; rintro e w1 ⟨A3, c3, rfl, hlp, hb1⟩; have hu : (w1.alloc (.cells #[.slice A3 n c3, .bool has, .int .i64 x] 24)).heap[w1.heap.size]? = some (.cells (tcs A3 n c3 has x) 24) := hp_new w1 _; have hlp := hlp.below (bal (Below.refl _ _) (.cells #[.slice A3 n c3, .bool has, .int .i64 x] 24)); obtain ⟨u0, u1, u2⟩ := tcs_cells hu; have hA := btr hA (bal hb1 (.cells #[.slice A3 n c3, .bool has, .int .i64 x] 24)); have hcr := hcr.below (bal hb1 (.cells #[.slice A3 n c3, .bool has, .int .i64 x] 24)); clear c0 c1 c2; obtain ⟨c0, c1, c2⟩ := TC.out _ hA))
            | (go_at_call 23; (with_reducible refine (ST.out _ _ _ hA hlp).mono ?_; rintro e w1 ⟨rfl, hb1⟩; have hA := btr hA hb1; (try have hcr := hcr.below hb1); (try have hlp := hlp.below hb1); (try have hu := kept hu hb1); (try have hcv := hcv.below hb1); (try have hlv := hlv.below hb1); (try have hv := kept hv hb1); clear c0 c1 c2; obtain ⟨c0, c1, c2⟩ := TC.out _ hA; (try (clear u0 u1 u2; obtain ⟨u0, u1, u2⟩ := tcs_cells hu)); (try (clear v0 v1 v2; obtain ⟨v0, v1, v2⟩ := tcs_cells hv))))
            | (go_at_call 16; first | (with_reducible refine (RA.out _ _ _ hA hcr).mono ?_; rintro e w1 ⟨rfl, hb1⟩; have hA := btr hA hb1; (try have hcr := hcr.below hb1); (try have hlp := hlp.below hb1); (try have hu := kept hu hb1); (try have hcv := hcv.below hb1); (try have hlv := hlv.below hb1); (try have hv := kept hv hb1); clear c0 c1 c2; obtain ⟨c0, c1, c2⟩ := TC.out _ hA; (try (clear u0 u1 u2; obtain ⟨u0, u1, u2⟩ := tcs_cells hu)); (try (clear v0 v1 v2; obtain ⟨v0, v1, v2⟩ := tcs_cells hv))) | (with_reducible refine (RL.out _ hA).mono ?_; rintro e w1 ⟨rfl, hb1⟩; have hA := btr hA hb1; (try have hcr := hcr.below hb1); (try have hlp := hlp.below hb1); (try have hu := kept hu hb1); (try have hcv := hcv.below hb1); (try have hlv := hlv.below hb1); (try have hv := kept hv hb1); clear c0 c1 c2; obtain ⟨c0, c1, c2⟩ := TC.out _ hA; (try (clear u0 u1 u2; obtain ⟨u0, u1, u2⟩ := tcs_cells hu)); (try (clear v0 v1 v2; obtain ⟨v0, v1, v2⟩ := tcs_cells hv)))))
          go_ret
          exact ⟨ret_bool (by first | rfl | simp), EX.out _ hA⟩
        · have RN := Lib.hid (RN.out hok)
          clear RC TA RA ST hok
          generalize l.length = n at *
          generalize m.length = n' at *
          go_wp2_with (first
            | (go_at_call 9; (with_reducible refine (SM.out _ hA).mono ?_; rintro e w1 ⟨rfl, hb1⟩; have hA := btr hA hb1; (try have hcr := hcr.below hb1); (try have hlp := hlp.below hb1); (try have hu := kept hu hb1); (try have hcv := hcv.below hb1); (try have hlv := hlv.below hb1); (try have hv := kept hv hb1); clear c0 c1 c2; obtain ⟨c0, c1, c2⟩ := TC.out _ hA; (try (clear u0 u1 u2; obtain ⟨u0, u1, u2⟩ := tcs_cells hu)); (try (clear v0 v1 v2; obtain ⟨v0, v1, v2⟩ := tcs_cells hv))))
            | (go_at_call 10; (with_reducible refine (FE.out _ hA).mono ?_; rintro e w1 ⟨rfl, hb1⟩; have hA := btr hA hb1; (try have hcr := hcr.below hb1); (try have hlp := hlp.below hb1); (try have hu := kept hu hb1); (try have hcv := hcv.below hb1); (try have hlv := hlv.below hb1); (try have hv := kept hv hb1); clear c0 c1 c2; obtain ⟨c0, c1, c2⟩ := TC.out _ hA; (try (clear u0 u1 u2; obtain ⟨u0, u1, u2⟩ := tcs_cells hu)); (try (clear v0 v1 v2; obtain ⟨v0, v1, v2⟩ := tcs_cells hv))))
            | (go_at_call 11; (with_reducible refine (RN.out _ hA).mono ?_; rintro e w1 ⟨rfl, hb1⟩; have hA := btr hA hb1; (try have hcr := hcr.below hb1); (try have hlp := hlp.below hb1); (try have hu := kept hu hb1); (try have hcv := hcv.below hb1); (try have hlv := hlv.below hb1); (try have hv := kept hv hb1); clear c0 c1 c2; obtain ⟨c0, c1, c2⟩ := TC.out _ hA; (try (clear u0 u1 u2; obtain ⟨u0, u1, u2⟩ := tcs_cells hu)); (try (clear v0 v1 v2; obtain ⟨v0, v1, v2⟩ := tcs_cells hv))))
            | (go_at_call 16; (with_reducible refine (RL.out _ hA).mono ?_; rintro e w1 ⟨rfl, hb1⟩; have hA := btr hA hb1; (try have hcr := hcr.below hb1); (try have hlp := hlp.below hb1); (try have hu := kept hu hb1); (try have hcv := hcv.below hb1); (try have hlv := hlv.below hb1); (try have hv := kept hv hb1); clear c0 c1 c2; obtain ⟨c0, c1, c2⟩ := TC.out _ hA; (try (clear u0 u1 u2; obtain ⟨u0, u1, u2⟩ := tcs_cells hu)); (try (clear v0 v1 v2; obtain ⟨v0, v1, v2⟩ := tcs_cells hv)))))
          go_ret
          exact ⟨ret_bool (by first | rfl | simp), EX.out _ hA⟩
    · have t : decide (300 < (m.length : Int)) = true := by simp; omega
      clear T0 hl0 box hm0 g2 hm RL
      generalize l.length = n at *
      generalize m.length = n' at *
      go_wp2_with (first
        | (go_at_call 9; (with_reducible refine (SM.out _ hA).mono ?_; rintro e w1 ⟨rfl, hb1⟩; have hA := btr hA hb1; clear c0 c1 c2; obtain ⟨c0, c1, c2⟩ := TC.out _ hA; (try have y0 := YC.out _ hA); (try obtain ⟨y0, y1, y2⟩ := YL.out _ hA)))
        | (go_at_call 10; (with_reducible refine (FE.out _ hA).mono ?_; rintro e w1 ⟨rfl, hb1⟩; have hA := btr hA hb1; clear c0 c1 c2; obtain ⟨c0, c1, c2⟩ := TC.out _ hA; (try have y0 := YC.out _ hA); (try obtain ⟨y0, y1, y2⟩ := YL.out _ hA))))
      go_ret
      exact ⟨rfl, EX.out _ hA⟩
  · rw [decide_eq_false g1] at FE
    clear T0 hl0 box g1 RL hm0 hm
    generalize l.length = n at *
    generalize m.length = n' at *
    go_wp2_with (first
      | (go_at_call 9; (with_reducible refine (SM.out _ hA).mono ?_; rintro e w1 ⟨rfl, hb1⟩; have hA := btr hA hb1; clear c0 c1 c2; obtain ⟨c0, c1, c2⟩ := TC.out _ hA; (try have y0 := YC.out _ hA); (try obtain ⟨y0, y1, y2⟩ := YL.out _ hA)))
      | (go_at_call 10; (with_reducible refine (FE.out _ hA).mono ?_; rintro e w1 ⟨rfl, hb1⟩; have hA := btr hA hb1; clear c0 c1 c2; obtain ⟨c0, c1, c2⟩ := TC.out _ hA; (try have y0 := YC.out _ hA); (try obtain ⟨y0, y1, y2⟩ := YL.out _ hA))))
    go_ret
    exact ⟨rfl, EX.out _ hA⟩
theorem door_met (os : Os) (args : Array Value) : laidMetH Tryd.prog Rows.recordBackRow.laid ((World.doorLaid Tryd.prog 400 os).forCall (fun _ _ => 0) ⟨#[], args, []⟩).memory :=
  laidMetH_of_parts3 (fuel := 8) (laidMet_of_run' 8 (by kernel_rfl) (by kernel_rfl)) (by kernel_rfl) (by kernel_rfl)
set_option maxRecDepth 100000 in
theorem lifted (os : Os) (started : os.Started) (H : Type) (enc : TypeId × Value → H) :
    ReturnsInHanded {} Tryd.checked os 4 .any (fun w args => (Rows.recordBackSpec.pre enc Tryd.prog Tryd.f4 [] false w args ∧ laidMetH Tryd.prog Rows.recordBackRow.laid w) ∧ sizedMet enc Tryd.prog Tryd.f4 (OpenSpec.ofChange Rows.recordBackSpec) false w args)
      (Rows.recordBackSpec.post enc Tryd.prog Tryd.f4 false true false false) := by
  refine returnsInHanded_of_change_and (C := Tryd.checked) (X := fun w _ => laidMetH Tryd.prog Rows.recordBackRow.laid w) (fun _ _ _ hh h => h.of_heap hh) law.own started (by kernel_rfl) Tryd.func4
    (ChangeSpec.witness_shaped (enc := enc) (C := Tryd.checked) (os := os) (X := fun w _ => laidMetH Tryd.prog Rows.recordBackRow.laid w) false (World.doorLaid Tryd.prog 400 os) #[.agg #[.slice none 0 0, .bool false, .int .i64 0], .slice none 0 0] 8 rfl (World.shaped_of_RefB (by kernel_rfl) (by kernel_rfl)) (by kernel_rfl) (by kernel_rfl) (by kernel_rfl) (door_met os _)) ?_
  intro W base args ds gs before hval0 hW _ _ hL _
  rw [MakeChecks.laidMetH_plain _ _ _ (by kernel_rfl)] at hL
  have T0 := day.tabs_of hL (by repeat first | exact List.Mem.head _ | refine List.Mem.tail _ ?_) (by repeat first | exact List.Mem.head _ | refine List.Mem.tail _ ?_)
  have hval : ∀ (j : Nat) t v, Tryd.f4.params[j]? = some t → args[j]? = some v → Value.okWide Tryd.prog W .any base t v := hval0
  have hW' := hW
  obtain ⟨p, q, hA0, hV, rfl, hfz, hnd⟩ := hW
  have hA : DataW.TrodAll enc Tryd.prog W 0 (fun _ => true) true Tryd.f4.params.toList args.toList ds p := hA0
  rw [Tryd.params4] at hA hval
  obtain ⟨v0, vs0, d0, ds0, p0, q0, hargs, rfl, rfl, h0, r0⟩ := trodAll_cons hA
  obtain ⟨v1, vs1, d1, ds1, p1, q1, rfl, rfl, rfl, h1, r1⟩ := trodAll_cons r0
  obtain ⟨rfl, rfl, rfl⟩ := trodAll_nil r1
  obtain rfl : args = #[v0, v1] := by cases args; simp_all
  obtain ⟨rfl, rfl⟩ := trodVars_none hV
  clear hA0 hval0
  obtain ⟨A0_, k0_, l0_, b0_, x0_, rfl, q0_, n0_, m0_, w0_⟩ := leap.open_table (hval 0 24 v0 rfl rfl) h0
  obtain ⟨A1_, k1_, l1_, rfl, q1_, n1_⟩ := rec.open_corrs (hval 1 25 v1 rfl rfl) h1
  refine (Calls.mono (R := fun e w' => e = .returned (.bool true) ∧ Below W.heap.size W w') ?_ fun e W' ⟨he, hb⟩ => ?_)
  · exact walk W l0_ A0_ k0_ b0_ x0_ q0_ n0_ m0_ w0_ l1_ A1_ k1_ q1_ n1_ T0
  · subst he
    exact ⟨_, rfl, law.post law.laidOut (by kernel_rfl) rfl rfl Tryd.underlying4 rfl hW' hb⟩

theorem over : Rows.recordBackRow.holds Tryd.pinned (OpenSpec.ofChange Rows.recordBackSpec) :=
  OpenClaim.holds_of_wide 4 Tryd.f4 rfl rfl rfl rfl rfl rfl rfl ⟨rfl, rfl, rfl, rfl, rfl⟩ rfl rfl rfl rfl rfl (by kernel_rfl) Tryd.func4 (by kernel_rfl)
    (of_decide_eq_true (by kernel_rfl)) (by unfold Func.isWrapper; first | (rw [if_pos (by decide +kernel)]; kernel_rfl) | (rw [if_neg (by decide +kernel)]; exact ⟨rfl, rfl⟩))
    (fun os started H enc _ => lifted os started H enc)

theorem proved : Rows.RecordBackCardSaid :=
  Claim7.holds_tied_plain_at .later [] _ _ _ _ over (fun _ h => by cases h) (by kernel_rfl) (fun _ h => by cases h) recordBack_row_tie rfl ⟨rfl, rfl⟩ (by kernel_rfl) rfl
    (fun f fn hf hfn => by
      obtain rfl : f = 4 := Option.some.inj ((show Tryd.prog.funcNamed "epact/epactlaw12.RecordBack" = some 4 by kernel_rfl).symm.trans hf) |>.symm
      obtain rfl : fn = Tryd.f4 := (Option.some.inj (Tryd.func4.symm.trans hfn)).symm
      exact ⟨by kernel_rfl, fun j t ht => by
        have hall : (Tryd.f4.params.toList.all fun u => !Tryd.prog.wantsStandIn u) = true := by kernel_rfl
        have hm : t ∈ Tryd.f4.params.toList := by rw [Array.mem_toList_iff]; exact Array.mem_of_getElem? ht
        exact (show Tryd.prog.wantsStandIn t = false by simpa using List.all_eq_true.1 hall t hm)⟩)
    (by kernel_rfl)
end Go.Proofs.YtooineinpgiofaaDoor.recordBack
