/-
  The small case of layer 12's statements comes out true. Conditions: the tables of package day hold what their initialisers lay.
-/
import Derived.Test.YtcikcdeihlmbcaaDoorRecTable
import Derived.Test.YtcikcdeihlmbcaaDoorRecFind
import Derived.Test.YtcikcdeihlmbcaaDoorRefSame
namespace Go.Proofs.YtcikcdeihlmbcaaDoor.rec
open Go.ChangeShapes Go.WideShapes Go.ChangeAt Go.RowKit
open rm mem
open lm (Lp dy tot ce wr_ok end_911 end_1095 Good)
open leap (Lps rl tcs tcs_cells Own pcs)
set_option linter.unusedVariables false
set_option maxRecDepth 100000

def t3 : List Lp := [(911, 1, false), (1095, 1, false), (1460, -1, false)]
theorem end_1460 : lm.endB 1460 = true := lm.end_yes (y := 1973) (m := 12) (d := 31) (by decide) (by decide) (by decide)
theorem good3 : lm.Good t3 := by
  intro i hi
  match i, hi with
  | 0, _ => exact wr_ok.2 ⟨by decide, by decide, by decide, end_911, by decide, by decide⟩
  | 1, _ => exact wr_ok.2 ⟨by decide, by decide, by decide, end_1095, by decide, by decide⟩
  | 2, _ => exact wr_ok.2 ⟨by decide, by decide, by decide, end_1460, by decide, by decide⟩
theorem ce3 : ce t3 true 200000000 = 0 := (lm.ce_end (l := t3) (has := true) (x := 200000000) good3).2.trans (by decide)
theorem nr3 : nr t3 := by
  intro k hk
  match k, hk with
  | 0, _ => rfl
  | 1, _ => rfl
  | 2, _ => rfl
def t1r : List Lp := [(911, 1, true)]
theorem nr1 : ¬ nr t1r := fun h => by have := h 0 (by decide); cases this
def l4 : List Cr := [(78796800, 1), (94694401, 2), (126230401, 1), (200000001, 1)]
theorem recs3 : recs t3 true 200000000 = l4 := by decide +kernel
theorem ok4 : rm.Ok l4 := by rw [← recs3]; exact recs_ok ce3
theorem tb4 : tb l4 = true ∧ lk l4 = t3 ∧ hasX l4 = true ∧ lkx l4 = 200000000 := by
  obtain ⟨a, b, c⟩ := lk_recs ce3 nr3
  rw [recs3] at a b c
  exact ⟨by rw [← recs3]; exact tb_recs ce3 nr3, a, b, c⟩
def l2 : List Cr := [(5, 1), (6, 2)]
def l1 : List Cr := [(5, 2)]
def lb : List Cr := [(78796801, 1)]
theorem chk2 : pw l2 = 1 ∧ ew l2 = 7 := by decide +kernel
theorem chk1 : pw l1 = 0 ∧ ew l1 = 6 := by decide +kernel
theorem okb : rm.Ok lb := ew_ok.1 (by decide +kernel)
theorem tbb : tb lb = false := by
  cases h : tb lb
  · rfl
  · exact absurd (tb_iff.1 h).2 (by decide +kernel)
theorem x4 : xat l4 = 200000001 ∧ hasX (l4.take 3) = false := by decide +kernel
theorem xn : xat (l4.take 3) = 0 := by decide +kernel
theorem sums4 : sm l4 78796799 = 0 ∧ sm l4 78796800 = 1 ∧ sm l4 9223372036854775807 = 1 ∧ sp l4 126230401 = -1 ∧ sp l4 200000001 = 0 := by decide +kernel
theorem ew4 : (ew l4 == 0) = true := by rw [ew_ok.2 ok4]; rfl
/-- rows that are written out: what may be read of a new block. -/
theorem lit_fit : ∀ l : List Cr, (∀ z ∈ l, (-9223372036854775808 ≤ z.1 ∧ z.1 ≤ 9223372036854775807) ∧ (-9223372036854775808 ≤ z.2 ∧ z.2 ≤ 9223372036854775807)) → Fit l := by
  intro l h k
  by_cases hk : k < l.length
  · have e : l.getD k z2 = l[k] := by rw [List.getD_eq_getElem?_getD, List.getElem?_eq_getElem hk]; rfl
    unfold ra rc
    rw [e]
    exact h _ (List.getElem_mem hk)
  · have e : l.getD k z2 = z2 := by rw [List.getD_eq_getElem?_getD, List.getElem?_eq_none (by omega)]; rfl
    unfold ra rc
    rw [e]
    decide
theorem lit_crs (W : World) (l : List Cr) (cs : Array Value) (hcs : cs = (ccs l).toArray) (hf : Fit l) (hn : l.length ≤ 9223372036854775807) : Crs (W.alloc (.cells cs 44)) (some ⟨W.heap.size, 0, none⟩) l := by
  subst hcs
  refine ⟨⟨hf, hn⟩, fun _ => ⟨W.heap.size, 0, rfl, by simp, fun k hk => ?_⟩⟩
  obtain ⟨a, b⟩ := ccs_at l k hk
  rw [Nat.zero_add, row_cell (hp_new W _), row_cell (hp_new W _)]
  simp only [List.getElem?_toArray]
  exact ⟨a, b⟩
theorem own_lit (W : World) (cs : Array Value) (l : List Lp) (h : cs.toList.take (l.length * 3) = pcs l) : Own (W.alloc (.cells cs 47)) W.heap.size l := ⟨cs, hp_new _ _, h⟩
theorem crs_nil (W : World) : Crs W none [] := ⟨⟨lit_fit [] (fun z h => by cases h), by decide⟩, fun h => absurd rfl h⟩
theorem sm_same {l : List Lp} {h : Bool} {x : Int} : leap.sm l l h h x x = true := leap.sm_iff.2 ⟨rfl, rfl, rfl⟩
set_option maxHeartbeats 4000000 in
theorem small_at (w : World) (T : day.Tabs w) : Calls Tryd.prog 9 #[] w fun e w' => e = .returned (.bool true) ∧ Below w.heap.size w w' := by
  have own := own_lit w #[.int .i64 911, .int .i64 1, .bool false, .int .i64 1095, .int .i64 1, .bool false, .int .i64 1460, .int .i64 (-1), .bool false] t3 rfl
  have hbx := hp_new1 w (.cells #[.int .i64 911, .int .i64 1, .bool false, .int .i64 1095, .int .i64 1, .bool false, .int .i64 1460, .int .i64 (-1), .bool false] 47) (.cells #[.slice (some ⟨w.heap.size, 0, none⟩) 3 3, .bool true, .int .i64 200000000] 24)
  have hw2 : Below w.heap.size w ((w.alloc (.cells #[.int .i64 911, .int .i64 1, .bool false, .int .i64 1095, .int .i64 1, .bool false, .int .i64 1460, .int .i64 (-1), .bool false] 47)).alloc (.cells #[.slice (some ⟨w.heap.size, 0, none⟩) 3 3, .bool true, .int .i64 200000000] 24)) := bal (bal (Below.refl _ _) _) _
  have own2 := own.kept (bal (Below.refl _ _) (.cells #[.slice (some ⟨w.heap.size, 0, none⟩) 3 3, .bool true, .int .i64 200000000] 24))
  have hsz : ((w.alloc (.cells #[.int .i64 911, .int .i64 1, .bool false, .int .i64 1095, .int .i64 1, .bool false, .int .i64 1460, .int .i64 (-1), .bool false] 47)).alloc (.cells #[.slice (some ⟨w.heap.size, 0, none⟩) 3 3, .bool true, .int .i64 200000000] 24)).heap.size = w.heap.size + 1 + 1 := by simp
  go_enter Tryd.func9, Tryd.ntmps9
  go_wp2_with fail
  generalize ((w.alloc (.cells #[.int .i64 911, .int .i64 1, .bool false, .int .i64 1095, .int .i64 1, .bool false, .int .i64 1460, .int .i64 (-1), .bool false] 47)).alloc (.cells #[.slice (some ⟨w.heap.size, 0, none⟩) 3 3, .bool true, .int .i64 200000000] 24)) = W2 at *
  have crs := lit_crs W2 l4 #[.int .i64 78796800, .int .i64 1, .int .i64 94694401, .int .i64 2, .int .i64 126230401, .int .i64 1, .int .i64 200000001, .int .i64 1] rfl (lit_fit _ (by decide)) (by decide)
  have box := hp_old hbx (.cells #[.int .i64 78796800, .int .i64 1, .int .i64 94694401, .int .i64 2, .int .i64 126230401, .int .i64 1, .int .i64 200000001, .int .i64 1] 44)
  have own3 := own2.kept (bal (Below.refl _ _) (.cells #[.int .i64 78796800, .int .i64 1, .int .i64 94694401, .int .i64 2, .int .i64 126230401, .int .i64 1, .int .i64 200000001, .int .i64 1] 44))
  have hw0 := bal hw2 (.cells #[.int .i64 78796800, .int .i64 1, .int .i64 94694401, .int .i64 2, .int .i64 126230401, .int .i64 1, .int .i64 200000001, .int .i64 1] 44)
  rw [hsz] at crs
  generalize (W2.alloc (.cells #[.int .i64 78796800, .int .i64 1, .int .i64 94694401, .int .i64 2, .int .i64 126230401, .int .i64 1, .int .i64 200000001, .int .i64 1] 44)) = W0 at *
  replace box : W0.heap[w.heap.size + 1]? = some (.cells (tcs (some ⟨w.heap.size, 0, none⟩) 3 3 true 200000000) 24) := box
  have T0 : day.Tabs W0 := T.below hw0
  have HW := Lib.hid hw0
  clear hw0 own own2 hbx hw2 T hsz
  generalize hN : w.heap.size = N at *
  have hA : Below W0.heap.size W0 W0 := Below.refl _ _
  have RC : Hid (∀ W, Below W0.heap.size W0 W → Calls Tryd.prog 11 #[.agg #[.slice (some ⟨N, 0, none⟩) 3 3, .bool true, .int .i64 200000000]] W fun e w' => ∃ A' c', e = .returned (.tuple #[.slice A' 4 c', .bool true]) ∧ Crs w' A' l4 ∧ Below W.heap.size W w') := fun W hb => by
    have := records_yes t3 (some ⟨N, 0, none⟩) 3 true 200000000 W (T0.below hb) (own3.lps.below hb) ce3 nr3
    unfold Recd at this
    rw [recs3] at this
    exact this.mono fun e w' ⟨A', c', a, b, _, d⟩ => ⟨A', c', a, b, d⟩
  have RN : Hid (∀ W, Below W0.heap.size W0 W → Calls Tryd.prog 11 #[.agg #[.slice (some ⟨W.heap.size, 0, none⟩) 1 1, .bool false, .int .i64 0]] (W.alloc (.cells #[.int .i64 911, .int .i64 1, .bool true] 47)) fun e w' => e = .returned (.tuple #[.slice none 0 0, .bool false]) ∧ Below W.heap.size W w') := fun W hb => by
    have := records_no t1r (some ⟨W.heap.size, 0, none⟩) 1 false 0 _ (T0.below (bal hb _)) (own_lit W #[.int .i64 911, .int .i64 1, .bool true] t1r rfl).lps (by decide) (fun _ => nr1)
    exact this.mono fun e w' ⟨a, b⟩ => ⟨a, btr (bal (Below.refl _ _) _) b⟩
  have TY : Hid (∀ W, Below W0.heap.size W0 W → Calls Tryd.prog 21 #[.slice (some ⟨N + 1 + 1, 0, none⟩) 4 4] W fun e w' => ∃ A' c', e = .returned (.tuple #[.agg #[.slice A' 3 c', .bool true, .int .i64 200000000], .bool true]) ∧ Lps w' A' t3 ∧ Below W.heap.size W w') := fun W hb => by
    have := table_at l4 (some ⟨N + 1 + 1, 0, none⟩) 4 W (T0.below hb) (crs.below hb) ok4 (by decide)
    refine this.mono ?_
    rintro e w' (⟨_, A', c', he, hl, _, hb'⟩ | ⟨h, _⟩)
    · rw [tb4.2.1, tb4.2.2.1, tb4.2.2.2] at he
      rw [tb4.2.1] at hl
      exact ⟨A', c', he, hl, hb'⟩
    · rw [tb4.1] at h; cases h
  have TN : Hid (∀ W, Below W0.heap.size W0 W → Calls Tryd.prog 21 #[.slice (some ⟨W.heap.size, 0, none⟩) 1 1] (W.alloc (.cells #[.int .i64 78796801, .int .i64 1] 44)) fun e w' => e = .returned (.tuple #[.agg #[.slice none 0 0, .bool false, .int .i64 0], .bool false]) ∧ Below W.heap.size W w') := fun W hb => by
    have := table_at lb (some ⟨W.heap.size, 0, none⟩) 1 _ (T0.below (bal hb _)) (lit_crs W lb #[.int .i64 78796801, .int .i64 1] rfl (lit_fit _ (by decide)) (by decide)) okb (by decide)
    refine this.mono ?_
    rintro e w' (⟨h, _⟩ | ⟨_, he, hb'⟩)
    · rw [tbb] at h; cases h
    · exact ⟨he, btr (bal (Below.refl _ _) _) hb'⟩
  have E1 : Hid (∀ W, Below W0.heap.size W0 W → Calls Tryd.prog 19 #[.slice (some ⟨N + 1 + 1, 0, none⟩) 4 4] W fun e w' => e = .returned (.tuple #[.int .i64 200000001, .bool true]) ∧ Below W.heap.size W w') := fun W hb => by
    have := expiry_at l4 (some ⟨N + 1 + 1, 0, none⟩) 4 W (crs.below hb)
    rw [x4.1, tb4.2.2.1] at this
    exact this
  have E2 : Hid (∀ W, Below W0.heap.size W0 W → Calls Tryd.prog 19 #[.slice (some ⟨N + 1 + 1, 0, none⟩) 3 4] W fun e w' => e = .returned (.tuple #[.int .i64 0, .bool false]) ∧ Below W.heap.size W w') := fun W hb => by
    have := expiry_at (l4.take 3) (some ⟨N + 1 + 1, 0, none⟩) 4 W ((crs.below hb).take 3 (by decide))
    rw [xn, x4.2] at this
    exact this
  have C2 : Hid (∀ W, Below W0.heap.size W0 W → Calls Tryd.prog 13 #[.slice (some ⟨W.heap.size, 0, none⟩) 2 2] (W.alloc (.cells #[.int .i64 5, .int .i64 1, .int .i64 6, .int .i64 2] 44)) fun e w' => e = .returned (.tuple #[.int .i64 1, .int .i64 7]) ∧ Below W.heap.size W w') := fun W hb => by
    have := check_at l2 (some ⟨W.heap.size, 0, none⟩) 2 _ (lit_crs W l2 #[.int .i64 5, .int .i64 1, .int .i64 6, .int .i64 2] rfl (lit_fit _ (by decide)) (by decide))
    unfold Checked at this
    rw [chk2.1, chk2.2] at this
    exact this.mono fun e w' ⟨a, b⟩ => ⟨a, btr (bal (Below.refl _ _) _) b⟩
  have C1 : Hid (∀ W, Below W0.heap.size W0 W → Calls Tryd.prog 13 #[.slice (some ⟨W.heap.size, 0, none⟩) 1 1] (W.alloc (.cells #[.int .i64 5, .int .i64 2] 44)) fun e w' => e = .returned (.tuple #[.int .i64 0, .int .i64 6]) ∧ Below W.heap.size W w') := fun W hb => by
    have := check_at l1 (some ⟨W.heap.size, 0, none⟩) 1 _ (lit_crs W l1 #[.int .i64 5, .int .i64 2] rfl (lit_fit _ (by decide)) (by decide))
    unfold Checked at this
    rw [chk1.1, chk1.2] at this
    exact this.mono fun e w' ⟨a, b⟩ => ⟨a, btr (bal (Below.refl _ _) _) b⟩
  have SC : Hid (∀ W A c, Below W0.heap.size W0 W → Crs W A l4 → Calls Tryd.prog 18 #[.slice A 4 c, .slice (some ⟨N + 1 + 1, 0, none⟩) 4 4] W fun e w' => e = .returned (.bool true) ∧ Below W.heap.size W w') := fun W A c hb hcr => by
    have := same_at l4 l4 A (some ⟨N + 1 + 1, 0, none⟩) c 4 W hcr (crs.below hb)
    rw [decide_eq_true rfl] at this
    exact this
  have ST : Hid (∀ W A c, Below W0.heap.size W0 W → Lps W A t3 → Calls Tryd.prog 23 #[.agg #[.slice A 3 c, .bool true, .int .i64 200000000], .agg #[.slice (some ⟨N, 0, none⟩) 3 3, .bool true, .int .i64 200000000]] W fun e w' => e = .returned (.bool true) ∧ Below W.heap.size W w') := fun W A c hb hl => by
    have := ref09.same_at t3 t3 A (some ⟨N, 0, none⟩) c 3 true true 200000000 200000000 W hl (own3.lps.below hb) (by decide) (by decide)
    rw [sm_same] at this
    exact this
  have U : Hid (∀ d z W, sm l4 d = z → Below W0.heap.size W0 W → Calls Tryd.prog 24 #[.slice (some ⟨N + 1 + 1, 0, none⟩) 4 4, .int .i64 d] W fun e w' => e = .returned (.int .i64 z) ∧ Below W.heap.size W w') := fun d z W hz hb => by
    subst hz
    exact sum_at l4 (some ⟨N + 1 + 1, 0, none⟩) 4 d W (crs.below hb) ok4 (by decide)
  have V : Hid (∀ d z W, sp l4 d = z → Below W0.heap.size W0 W → Calls Tryd.prog 26 #[.slice (some ⟨N + 1 + 1, 0, none⟩) 4 4, .int .i64 d] W fun e w' => e = .returned (.int .i64 z) ∧ Below W.heap.size W w') := fun d z W hz hb => by
    subst hz
    exact step_at l4 (some ⟨N + 1 + 1, 0, none⟩) 4 d W (crs.below hb) ok4 (by decide)
  obtain ⟨s1, s2, s3, s4, s5⟩ := sums4
  have U1 := Lib.hid (fun W hb => U.out 78796799 0 W s1 hb)
  have U2 := Lib.hid (fun W hb => U.out 78796800 1 W s2 hb)
  have U3 := Lib.hid (fun W hb => U.out 9223372036854775807 1 W s3 hb)
  have V1 := Lib.hid (fun W hb => V.out 126230401 (-1) W s4 hb)
  have V2 := Lib.hid (fun W hb => V.out 200000001 0 W s5 hb)
  have R4 : Hid (∀ W, Below W0.heap.size W0 W → Calls Tryd.prog 16 #[.slice (some ⟨N + 1 + 1, 0, none⟩) 4 4] W fun e w' => e = .returned (.bool true) ∧ Below W.heap.size W w') := fun W hb => by
    have := right_at l4 (some ⟨N + 1 + 1, 0, none⟩) 4 W (crs.below hb)
    rw [ew4] at this
    exact this
  have R0 : Hid (∀ W, Below W0.heap.size W0 W → Calls Tryd.prog 16 #[.slice none 0 0] W fun e w' => e = .returned (.bool true) ∧ Below W.heap.size W w') := fun W hb => right_at [] none 0 W (crs_nil W)
  have q : ∀ W, (Instr.slice 25 (.slice (some ⟨N + 1 + 1, 0, none⟩) 4 4) none (some (.int .i64 3)) none).run Tryd.prog W = .ok (.slice (some ⟨N + 1 + 1, 0, none⟩) 3 4) W := fun W => cutR (some ⟨N + 1 + 1, 0, none⟩) 4 4 3 (by decide) W
  have TC := Lib.hid (fun W (hb : Below W0.heap.size W0 W) => tcs_cells (kept box hb))
  clear T0 own3 box crs U V s1 s2 s3 s4 s5
  obtain ⟨c0, c1, c2⟩ := TC.out _ hA
  go_wp2_with (first
    | (go_at_call 11; first | (with_reducible refine (RC.out _ hA).mono ?_; rintro e w1 ⟨A2, c3, rfl, hcr, hb1⟩; have hA := btr hA hb1; clear c0 c1 c2; obtain ⟨c0, c1, c2⟩ := TC.out _ hA) | (with_reducible refine (RN.out _ hA).mono ?_; rintro e w1 ⟨rfl, hb1⟩; have hA := btr hA hb1; (try have hcr := hcr.below hb1); (try have hlp := hlp.below hb1); (try have hu := kept hu hb1); clear c0 c1 c2; obtain ⟨c0, c1, c2⟩ := TC.out _ hA; (try (clear u0 u1 u2; obtain ⟨u0, u1, u2⟩ := tcs_cells hu))))
    | (go_at_call 21; first | (with_reducible refine (TY.out _ hA).mono ?_; rintro e w1 ⟨A3, c3, rfl, hlp, hb1⟩; have hA := bal (btr hA hb1) (.cells #[.slice A3 3 c3, .bool true, .int .i64 200000000] 24); have hu : (w1.alloc (.cells #[.slice A3 3 c3, .bool true, .int .i64 200000000] 24)).heap[w1.heap.size]? = some (.cells (tcs A3 3 c3 true 200000000) 24) := hp_new w1 _; have hlp := hlp.below (bal (Below.refl _ _) (.cells #[.slice A3 3 c3, .bool true, .int .i64 200000000] 24)); have hcr := hcr.below (bal hb1 (.cells #[.slice A3 3 c3, .bool true, .int .i64 200000000] 24)); clear c0 c1 c2; obtain ⟨c0, c1, c2⟩ := TC.out _ hA; obtain ⟨u0, u1, u2⟩ := tcs_cells hu) | (with_reducible refine (TN.out _ hA).mono ?_; rintro e w1 ⟨rfl, hb1⟩; have hb1 := bal hb1 (.cells #[.slice none 0 0, .bool false, .int .i64 0] 24); have hA := btr hA hb1; (try have hcr := hcr.below hb1); (try have hlp := hlp.below hb1); (try have hu := kept hu hb1); clear c0 c1 c2; obtain ⟨c0, c1, c2⟩ := TC.out _ hA; (try (clear u0 u1 u2; obtain ⟨u0, u1, u2⟩ := tcs_cells hu))))
    | (go_at_call 19; first | (with_reducible refine (E1.out _ hA).mono ?_; rintro e w1 ⟨rfl, hb1⟩; have hA := btr hA hb1; (try have hcr := hcr.below hb1); (try have hlp := hlp.below hb1); (try have hu := kept hu hb1); clear c0 c1 c2; obtain ⟨c0, c1, c2⟩ := TC.out _ hA; (try (clear u0 u1 u2; obtain ⟨u0, u1, u2⟩ := tcs_cells hu))) | (with_reducible refine (E2.out _ hA).mono ?_; rintro e w1 ⟨rfl, hb1⟩; have hA := btr hA hb1; (try have hcr := hcr.below hb1); (try have hlp := hlp.below hb1); (try have hu := kept hu hb1); clear c0 c1 c2; obtain ⟨c0, c1, c2⟩ := TC.out _ hA; (try (clear u0 u1 u2; obtain ⟨u0, u1, u2⟩ := tcs_cells hu))))
    | (go_at_call 13; first | (with_reducible refine (C2.out _ hA).mono ?_; rintro e w1 ⟨rfl, hb1⟩; have hA := btr hA hb1; (try have hcr := hcr.below hb1); (try have hlp := hlp.below hb1); (try have hu := kept hu hb1); clear c0 c1 c2; obtain ⟨c0, c1, c2⟩ := TC.out _ hA; (try (clear u0 u1 u2; obtain ⟨u0, u1, u2⟩ := tcs_cells hu))) | (with_reducible refine (C1.out _ hA).mono ?_; rintro e w1 ⟨rfl, hb1⟩; have hA := btr hA hb1; (try have hcr := hcr.below hb1); (try have hlp := hlp.below hb1); (try have hu := kept hu hb1); clear c0 c1 c2; obtain ⟨c0, c1, c2⟩ := TC.out _ hA; (try (clear u0 u1 u2; obtain ⟨u0, u1, u2⟩ := tcs_cells hu))))
    | (go_at_call 18; (with_reducible refine (SC.out _ _ _ hA hcr).mono ?_; rintro e w1 ⟨rfl, hb1⟩; have hA := btr hA hb1; (try have hcr := hcr.below hb1); (try have hlp := hlp.below hb1); (try have hu := kept hu hb1); clear c0 c1 c2; obtain ⟨c0, c1, c2⟩ := TC.out _ hA; (try (clear u0 u1 u2; obtain ⟨u0, u1, u2⟩ := tcs_cells hu))))
    | (go_at_call 23; (with_reducible refine (ST.out _ _ _ hA hlp).mono ?_; rintro e w1 ⟨rfl, hb1⟩; have hA := btr hA hb1; (try have hcr := hcr.below hb1); (try have hlp := hlp.below hb1); (try have hu := kept hu hb1); clear c0 c1 c2; obtain ⟨c0, c1, c2⟩ := TC.out _ hA; (try (clear u0 u1 u2; obtain ⟨u0, u1, u2⟩ := tcs_cells hu))))
    | (go_at_call 24; first | (with_reducible refine (U1.out _ hA).mono ?_; rintro e w1 ⟨rfl, hb1⟩; have hA := btr hA hb1; (try have hcr := hcr.below hb1); (try have hlp := hlp.below hb1); (try have hu := kept hu hb1); clear c0 c1 c2; obtain ⟨c0, c1, c2⟩ := TC.out _ hA; (try (clear u0 u1 u2; obtain ⟨u0, u1, u2⟩ := tcs_cells hu))) | (with_reducible refine (U2.out _ hA).mono ?_; rintro e w1 ⟨rfl, hb1⟩; have hA := btr hA hb1; (try have hcr := hcr.below hb1); (try have hlp := hlp.below hb1); (try have hu := kept hu hb1); clear c0 c1 c2; obtain ⟨c0, c1, c2⟩ := TC.out _ hA; (try (clear u0 u1 u2; obtain ⟨u0, u1, u2⟩ := tcs_cells hu))) | (with_reducible refine (U3.out _ hA).mono ?_; rintro e w1 ⟨rfl, hb1⟩; have hA := btr hA hb1; (try have hcr := hcr.below hb1); (try have hlp := hlp.below hb1); (try have hu := kept hu hb1); clear c0 c1 c2; obtain ⟨c0, c1, c2⟩ := TC.out _ hA; (try (clear u0 u1 u2; obtain ⟨u0, u1, u2⟩ := tcs_cells hu))))
    | (go_at_call 26; first | (with_reducible refine (V1.out _ hA).mono ?_; rintro e w1 ⟨rfl, hb1⟩; have hA := btr hA hb1; (try have hcr := hcr.below hb1); (try have hlp := hlp.below hb1); (try have hu := kept hu hb1); clear c0 c1 c2; obtain ⟨c0, c1, c2⟩ := TC.out _ hA; (try (clear u0 u1 u2; obtain ⟨u0, u1, u2⟩ := tcs_cells hu))) | (with_reducible refine (V2.out _ hA).mono ?_; rintro e w1 ⟨rfl, hb1⟩; have hA := btr hA hb1; (try have hcr := hcr.below hb1); (try have hlp := hlp.below hb1); (try have hu := kept hu hb1); clear c0 c1 c2; obtain ⟨c0, c1, c2⟩ := TC.out _ hA; (try (clear u0 u1 u2; obtain ⟨u0, u1, u2⟩ := tcs_cells hu))))
    | (go_at_call 16; first | (with_reducible refine (R4.out _ hA).mono ?_; rintro e w1 ⟨rfl, hb1⟩; have hA := btr hA hb1; (try have hcr := hcr.below hb1); (try have hlp := hlp.below hb1); (try have hu := kept hu hb1); clear c0 c1 c2; obtain ⟨c0, c1, c2⟩ := TC.out _ hA; (try (clear u0 u1 u2; obtain ⟨u0, u1, u2⟩ := tcs_cells hu))) | (with_reducible refine (R0.out _ hA).mono ?_; rintro e w1 ⟨rfl, hb1⟩; have hA := btr hA hb1; (try have hcr := hcr.below hb1); (try have hlp := hlp.below hb1); (try have hu := kept hu hb1); clear c0 c1 c2; obtain ⟨c0, c1, c2⟩ := TC.out _ hA; (try (clear u0 u1 u2; obtain ⟨u0, u1, u2⟩ := tcs_cells hu)))))
  go_ret
  exact ⟨rfl, by rw [hN]; exact HW.out.trans (hA.mono (by have := HW.out.size; rw [hN] at this; exact this))⟩
end Go.Proofs.YtcikcdeihlmbcaaDoor.rec
