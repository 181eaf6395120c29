/-
  The small case of layer 9's statements comes out true, and what Few answers. Conditions: the tables of package day hold what their initialisers lay.
-/
import Derived.Test.YtefnlnehdogiaaaDoorLeapAdd
namespace Go.Proofs.YtefnlnehdogiaaaDoor.leap
open Go.ChangeShapes Go.WideShapes Go.ChangeAt Go.RowKit
open lm mem
set_option linter.unusedVariables false

theorem few_at (A : Option Addr) (n c : Nat) (has : Bool) (x : Int) (w : World) (hn : n ≤ 9223372036854775807) : Calls Tryd.prog 10 #[.agg #[.slice A n c, .bool has, .int .i64 x]] w fun e w' => e = .returned (.bool (decide (n ≤ 300))) ∧ Below w.heap.size w w' := by
  have hb := bal (Below.refl w.heap.size w) (.cells #[.slice A n c, .bool has, .int .i64 x] 24)
  by_cases h : n ≤ 300
  · rw [decide_eq_true h]
    have t : decide ((n : Int) ≤ 300) = true := by simp; omega
    go_enter Tryd.func10, Tryd.ntmps10
    go_wp2
    go_ret
    exact ⟨rfl, hb⟩
  · rw [decide_eq_false h]
    have t : decide ((n : Int) ≤ 300) = false := by simp; omega
    go_enter Tryd.func10, Tryd.ntmps10
    go_wp2
    go_ret
    exact ⟨rfl, hb⟩

def l2 : List Lp := [(911, 1, false), (1095, -1, false)]
theorem wr2_0 : lm.wr l2 0 = 0 := wr_ok.2 ⟨by decide, by decide, by decide, end_911, by decide, by decide⟩
theorem wr2_1 : lm.wr l2 1 = 0 := wr_ok.2 ⟨by decide, by decide, by decide, end_1095, by decide, by decide⟩
theorem good2 : lm.Good l2 := by
  intro i hi
  match i, hi with
  | 0, _ => exact wr2_0
  | 1, _ => exact wr2_1
theorem c_2 : cp l2 = 2 ∧ ce l2 true 100000000 = 0 := by
  obtain ⟨a, b⟩ := ce_end (l := l2) (has := true) (x := 100000000) good2
  exact ⟨a, b.trans (by decide)⟩
def l12 : List Lp := [(911, 1, false), (912, 1, false)]
theorem c_12 : cp l12 = 1 ∧ ce l12 false 0 = 5 := by
  have h0 : lm.wr l12 0 = 0 := wr_ok.2 ⟨by decide, by decide, by decide, end_911, by decide, by decide⟩
  have h1 : lm.wr l12 1 = 5 := by
    unfold lm.wr
    rw [if_neg (by decide), if_neg (by decide), if_pos (by exact end_912)]
  obtain ⟨a, b⟩ := ce_at (l := l12) (has := false) (x := 0) (k := 1) (fun i hi => by obtain rfl : i = 0 := (by omega); exact h0) (by decide) (by rw [h1]; decide)
  exact ⟨a, b.trans h1⟩
def l1s : List Lp := [(911, 2, false)]
theorem c_1s : cp l1s = 0 ∧ ce l1s false 0 = 6 := by
  have h1 : lm.wr l1s 0 = 6 := by
    unfold lm.wr
    rw [if_neg (by decide), if_neg (by decide), if_neg (by rw [show dy l1s 0 = 911 from rfl, end_911]; decide), if_pos (by decide)]
  obtain ⟨a, b⟩ := ce_at (l := l1s) (has := false) (x := 0) (k := 0) (fun i hi => by omega) (by decide) (by rw [h1]; decide)
  exact ⟨a, b.trans h1⟩
def l1 : List Lp := [(911, 1, false)]
theorem c_1 : cp l1 = 1 ∧ ce l1 true 78796799 = 9 := by
  have h0 : lm.wr l1 0 = 0 := wr_ok.2 ⟨by decide, by decide, by decide, end_911, by decide, by decide⟩
  obtain ⟨a, b⟩ := ce_end (l := l1) (has := true) (x := 78796799) (fun i hi => by obtain rfl : i = 0 := (by simpa [l1] using hi); exact h0)
  exact ⟨a, b.trans (by decide)⟩
theorem c_0 : ce [] false 0 = 0 := (ce_end (l := []) (has := false) (x := 0) (fun i hi => by simp at hi)).2.trans (by decide)
theorem c_3 : ce (l2 ++ [(911, 1, false)]) true 100000000 = 4 := by
  have h0 : ∀ i, i < 2 → lm.wr (l2 ++ [(911, 1, false)]) i = 0 := by
    intro i hi
    match i, hi with
    | 0, _ => exact wr_ok.2 ⟨by decide, by decide, by decide, end_911, by decide, by decide⟩
    | 1, _ => exact wr_ok.2 ⟨by decide, by decide, by decide, end_1095, by decide, by decide⟩
  have h1 : lm.wr (l2 ++ [(911, 1, false)]) 2 = 4 := by
    unfold lm.wr
    rw [if_neg (by decide), if_neg (by decide), if_neg (by rw [show dy (l2 ++ [(911, 1, false)]) 2 = 911 from rfl, end_911]; decide), if_neg (by decide), if_pos (by decide)]
  exact (ce_at (has := true) (x := 100000000) h0 (by decide) (by rw [h1]; decide)).2.trans h1
theorem nx_3 : nx l2 (911, 1, false) true 100000000 = l2 := by
  unfold nx
  rw [if_neg (by rw [c_3]; decide)]

theorem own_lit (W : World) (cs : Array Value) (l : List Lp) (h : cs.toList.take (l.length * 3) = pcs l) : Own (W.alloc (.cells cs 26)) W.heap.size l := ⟨cs, hp_new _ _, h⟩
theorem sm_same {l : List Lp} {h : Bool} {x : Int} : sm l l h h x x = true := sm_iff.2 ⟨rfl, rfl, rfl⟩
set_option maxHeartbeats 4000000 in
set_option maxRecDepth 100000 in
theorem small_at (w : World) (T : day.Tabs w) : Calls Tryd.prog 9 #[] w fun e w' => e = .returned (.bool true) ∧ Below w.heap.size w w' := by
  have row : Own (w.alloc (.cells #[.int .i64 911, .int .i64 1, .bool false, .int .i64 1095, .int .i64 (-1), .bool false] 26)) w.heap.size l2 := own_lit w _ l2 rfl
  have hw0 : Below w.heap.size w ((w.alloc (.cells #[.int .i64 911, .int .i64 1, .bool false, .int .i64 1095, .int .i64 (-1), .bool false] 26)).alloc (.cells #[.slice (some ⟨w.heap.size, 0, none⟩) 2 2, .bool true, .int .i64 100000000] 24)) := bal (bal (Below.refl _ _) _) _
  have own := row.kept (bal (Below.refl _ _) (.cells #[.slice (some ⟨w.heap.size, 0, none⟩) 2 2, .bool true, .int .i64 100000000] 24))
  have box := hp_new1 w (.cells #[.int .i64 911, .int .i64 1, .bool false, .int .i64 1095, .int .i64 (-1), .bool false] 26) (.cells #[.slice (some ⟨w.heap.size, 0, none⟩) 2 2, .bool true, .int .i64 100000000] 24)
  go_enter Tryd.func9, Tryd.ntmps9
  go_wp2_with fail
  have T0 : day.Tabs _ := T.below hw0
  generalize ((w.alloc (.cells #[.int .i64 911, .int .i64 1, .bool false, .int .i64 1095, .int .i64 (-1), .bool false] 26)).alloc (.cells #[.slice (some ⟨w.heap.size, 0, none⟩) 2 2, .bool true, .int .i64 100000000] 24)) = W0 at *
  replace box : W0.heap[w.heap.size + 1]? = some (.cells (tcs (some ⟨w.heap.size, 0, none⟩) 2 2 true 100000000) 24) := box
  have HW := Lib.hid hw0
  clear hw0 row
  generalize hN : w.heap.size = N at *
  have hA : Below W0.heap.size W0 W0 := Below.refl _ _
  have C1 : Hid (∀ W, Below W0.heap.size W0 W → Calls Tryd.prog 11 #[.agg #[.slice (some ⟨N, 0, none⟩) 2 2, .bool true, .int .i64 100000000]] W fun e w' => e = .returned (.tuple #[.int .i64 2, .int .i64 0]) ∧ Below W.heap.size W w') := fun W hb => by
    have := check_at l2 (some ⟨N, 0, none⟩) 2 true 100000000 W (T0.below hb) (own.lps.below hb) (by decide)
    unfold Checked at this
    rw [c_2.1, c_2.2] at this
    exact this
  have C2 : Hid (∀ W, Below W0.heap.size W0 W → Calls Tryd.prog 11 #[.agg #[.slice (some ⟨W.heap.size, 0, none⟩) 2 2, .bool false, .int .i64 0]] (W.alloc (.cells #[.int .i64 911, .int .i64 1, .bool false, .int .i64 912, .int .i64 1, .bool false] 26)) fun e w' => e = .returned (.tuple #[.int .i64 1, .int .i64 5]) ∧ Below W.heap.size W w') := fun W hb => by
    have := check_at l12 (some ⟨W.heap.size, 0, none⟩) 2 false 0 _ (T0.below (bal hb _)) (own_lit W #[.int .i64 911, .int .i64 1, .bool false, .int .i64 912, .int .i64 1, .bool false] l12 rfl).lps (by decide)
    unfold Checked at this
    rw [c_12.1, c_12.2] at this
    exact this.mono fun e w' ⟨a, b⟩ => ⟨a, btr (bal (Below.refl _ _) _) b⟩
  have C3 : Hid (∀ W, Below W0.heap.size W0 W → Calls Tryd.prog 11 #[.agg #[.slice (some ⟨W.heap.size, 0, none⟩) 1 1, .bool false, .int .i64 0]] (W.alloc (.cells #[.int .i64 911, .int .i64 2, .bool false] 26)) fun e w' => e = .returned (.tuple #[.int .i64 0, .int .i64 6]) ∧ Below W.heap.size W w') := fun W hb => by
    have := check_at l1s (some ⟨W.heap.size, 0, none⟩) 1 false 0 _ (T0.below (bal hb _)) (own_lit W #[.int .i64 911, .int .i64 2, .bool false] l1s rfl).lps (by decide)
    unfold Checked at this
    rw [c_1s.1, c_1s.2] at this
    exact this.mono fun e w' ⟨a, b⟩ => ⟨a, btr (bal (Below.refl _ _) _) b⟩
  have C4 : Hid (∀ W, Below W0.heap.size W0 W → Calls Tryd.prog 11 #[.agg #[.slice (some ⟨W.heap.size, 0, none⟩) 1 1, .bool true, .int .i64 78796799]] (W.alloc (.cells #[.int .i64 911, .int .i64 1, .bool false] 26)) fun e w' => e = .returned (.tuple #[.int .i64 1, .int .i64 9]) ∧ Below W.heap.size W w') := fun W hb => by
    have := check_at l1 (some ⟨W.heap.size, 0, none⟩) 1 true 78796799 _ (T0.below (bal hb _)) (own_lit W #[.int .i64 911, .int .i64 1, .bool false] l1 rfl).lps (by decide)
    unfold Checked at this
    rw [c_1.1, c_1.2] at this
    exact this.mono fun e w' ⟨a, b⟩ => ⟨a, btr (bal (Below.refl _ _) _) b⟩
  have AD : Hid (∀ W, Below W0.heap.size W0 W → Calls Tryd.prog 18 #[.agg #[.slice (some ⟨N, 0, none⟩) 2 2, .bool true, .int .i64 100000000], .agg #[.int .i64 911, .int .i64 1, .bool false]] W fun e w' => ∃ N' c', e = .returned (.tuple #[.agg #[.slice (some ⟨N', 0, none⟩) 2 c', .bool true, .int .i64 100000000], .int .i64 4]) ∧ Own w' N' l2 ∧ Below W.heap.size W w') := fun W hb => by
    refine (add_at l2 (911, 1, false) (some ⟨N, 0, none⟩) 2 true 100000000 W (T0.below hb) (own.lps.below hb) (by decide) (by decide)).mono ?_
    rintro e w' ⟨N', c', _, he, _, ho, hb'⟩
    rw [nx_3, c_3] at he
    rw [nx_3] at ho
    exact ⟨N', c', he, ho, hb'⟩
  have RI : Hid (∀ W, Below W0.heap.size W0 W → Calls Tryd.prog 13 #[.agg #[.slice (some ⟨N, 0, none⟩) 2 2, .bool true, .int .i64 100000000]] W fun e w' => e = .returned (.bool true) ∧ Below W.heap.size W w') := fun W hb => by
    have := right_at l2 (some ⟨N, 0, none⟩) 2 true 100000000 W (T0.below hb) (own.lps.below hb) (by decide)
    rw [c_2.2] at this
    exact this
  have R0 : Hid (∀ W, Below W0.heap.size W0 W → Calls Tryd.prog 13 #[.agg #[.slice none 0 0, .bool false, .int .i64 0]] W fun e w' => e = .returned (.bool true) ∧ Below W.heap.size W w') := fun W hb => by
    have := right_at [] none 0 false 0 W (T0.below hb) (fun h => absurd rfl h) (by decide)
    rw [c_0] at this
    exact this
  have FI : Hid (∀ W, Below W0.heap.size W0 W → Calls Tryd.prog 20 #[.agg #[.slice (some ⟨N, 0, none⟩) 2 2, .bool true, .int .i64 100000000], .int .i64 912] W fun e w' => e = .returned (.int .i64 1) ∧ Below W.heap.size W w') := fun W hb =>
    find_at l2 (some ⟨N, 0, none⟩) 2 true 100000000 912 W (own.lps.below hb) good2
  have TO : Hid (∀ d W, Below W0.heap.size W0 W → Calls Tryd.prog 22 #[.agg #[.slice (some ⟨N, 0, none⟩) 2 2, .bool true, .int .i64 100000000], .int .i64 d] W fun e w' => e = .returned (.int .i64 (tot l2 (fnd l2 d))) ∧ Below W.heap.size W w') := fun d W hb =>
    total_at l2 (some ⟨N, 0, none⟩) 2 true 100000000 d W (own.lps.below hb) good2 (by decide)
  have ST : Hid (∀ d W, Below W0.heap.size W0 W → Calls Tryd.prog 24 #[.agg #[.slice (some ⟨N, 0, none⟩) 2 2, .bool true, .int .i64 100000000], .int .i64 d] W fun e w' => e = .returned (.int .i64 (stp l2 d)) ∧ Below W.heap.size W w') := fun d W hb =>
    step_at l2 (some ⟨N, 0, none⟩) 2 true 100000000 d W (own.lps.below hb) good2
  have LE : Hid (∀ W, Below W0.heap.size W0 W → Calls Tryd.prog 26 #[.agg #[.slice (some ⟨N, 0, none⟩) 2 2, .bool true, .int .i64 100000000], .int .i64 911] W fun e w' => e = .returned (.int .i64 86401) ∧ Below W.heap.size W w') := fun W hb =>
    length_at l2 (some ⟨N, 0, none⟩) 2 true 100000000 911 W (own.lps.below hb) good2
  have T1 : Hid (∀ W, Below W0.heap.size W0 W → Calls Tryd.prog 22 #[.agg #[.slice (some ⟨N, 0, none⟩) 2 2, .bool true, .int .i64 100000000], .int .i64 911] W fun e w' => e = .returned (.int .i64 0) ∧ Below W.heap.size W w') := TO.out 911
  have T2 : Hid (∀ W, Below W0.heap.size W0 W → Calls Tryd.prog 22 #[.agg #[.slice (some ⟨N, 0, none⟩) 2 2, .bool true, .int .i64 100000000], .int .i64 912] W fun e w' => e = .returned (.int .i64 1) ∧ Below W.heap.size W w') := TO.out 912
  have T3 : Hid (∀ W, Below W0.heap.size W0 W → Calls Tryd.prog 22 #[.agg #[.slice (some ⟨N, 0, none⟩) 2 2, .bool true, .int .i64 100000000], .int .i64 2000] W fun e w' => e = .returned (.int .i64 0) ∧ Below W.heap.size W w') := TO.out 2000
  have S1 : Hid (∀ W, Below W0.heap.size W0 W → Calls Tryd.prog 24 #[.agg #[.slice (some ⟨N, 0, none⟩) 2 2, .bool true, .int .i64 100000000], .int .i64 1095] W fun e w' => e = .returned (.int .i64 (-1)) ∧ Below W.heap.size W w') := ST.out 1095
  have S2 : Hid (∀ W, Below W0.heap.size W0 W → Calls Tryd.prog 24 #[.agg #[.slice (some ⟨N, 0, none⟩) 2 2, .bool true, .int .i64 100000000], .int .i64 5] W fun e w' => e = .returned (.int .i64 0) ∧ Below W.heap.size W w') := ST.out 5
  have SA : Hid (∀ W, Below W0.heap.size W0 W → ∀ N' c', Own W N' l2 → Calls Tryd.prog 15 #[.agg #[.slice (some ⟨N', 0, none⟩) 2 c', .bool true, .int .i64 100000000], .agg #[.slice (some ⟨N, 0, none⟩) 2 2, .bool true, .int .i64 100000000]] W fun e w' => e = .returned (.bool true) ∧ Below W.heap.size W w') := fun W hb N' c' ho => by
    have := same_at l2 l2 (some ⟨N', 0, none⟩) (some ⟨N, 0, none⟩) c' 2 true true 100000000 100000000 W ho.lps (own.lps.below hb) (by decide) (by decide)
    rw [sm_same] at this
    exact this
  have TC := Lib.hid (fun W (hb : Below W0.heap.size W0 W) => tcs_cells (kept box hb))
  clear T T0 own box TO ST
  obtain ⟨c0, c1, c2⟩ := TC.out _ hA
  go_wp2_with (first
    | (go_at_call 11; first
      | (with_reducible refine (C1.out _ hA).mono ?_; rintro e w1 ⟨rfl, hb1⟩; have hA := btr hA hb1; clear c0 c1 c2; obtain ⟨c0, c1, c2⟩ := TC.out _ hA)
      | (with_reducible refine (C2.out _ hA).mono ?_; rintro e w1 ⟨rfl, hb1⟩; have hA := btr hA hb1; clear c0 c1 c2; obtain ⟨c0, c1, c2⟩ := TC.out _ hA)
      | (with_reducible refine (C3.out _ hA).mono ?_; rintro e w1 ⟨rfl, hb1⟩; have hA := btr hA hb1; clear c0 c1 c2; obtain ⟨c0, c1, c2⟩ := TC.out _ hA)
      | (with_reducible refine (C4.out _ hA).mono ?_; rintro e w1 ⟨rfl, hb1⟩; have hA := btr hA hb1; clear c0 c1 c2; obtain ⟨c0, c1, c2⟩ := TC.out _ hA))
    | (go_at_call 18; with_reducible refine (AD.out _ hA).mono ?_; rintro e w1 ⟨N', c', rfl, hown, hb1⟩; have hA := bal (btr hA hb1) (.cells #[.slice (some ⟨N', 0, none⟩) 2 c', .bool true, .int .i64 100000000] 24); have hu : (w1.alloc (.cells #[.slice (some ⟨N', 0, none⟩) 2 c', .bool true, .int .i64 100000000] 24)).heap[w1.heap.size]? = some (.cells (tcs (some ⟨N', 0, none⟩) 2 c' true 100000000) 24) := hp_new w1 _; have hown := hown.kept (bal (Below.refl _ _) (.cells #[.slice (some ⟨N', 0, none⟩) 2 c', .bool true, .int .i64 100000000] 24)); clear c0 c1 c2; obtain ⟨c0, c1, c2⟩ := TC.out _ hA; obtain ⟨u0, u1, u2⟩ := tcs_cells hu)
    | (go_at_call 13; first | (with_reducible refine (RI.out _ hA).mono ?_; rintro e w1 ⟨rfl, hb1⟩; have hA := btr hA hb1; have hu := kept hu hb1; have hown := hown.kept hb1; clear c0 c1 c2 u0 u1 u2; obtain ⟨c0, c1, c2⟩ := TC.out _ hA; obtain ⟨u0, u1, u2⟩ := tcs_cells hu) | (with_reducible refine (R0.out _ hA).mono ?_; rintro e w1 ⟨rfl, hb1⟩; have hA := btr hA hb1; have hu := kept hu hb1; have hown := hown.kept hb1; clear c0 c1 c2 u0 u1 u2; obtain ⟨c0, c1, c2⟩ := TC.out _ hA; obtain ⟨u0, u1, u2⟩ := tcs_cells hu))
    | (go_at_call 20; with_reducible refine (FI.out _ hA).mono ?_; rintro e w1 ⟨rfl, hb1⟩; have hA := btr hA hb1; have hu := kept hu hb1; have hown := hown.kept hb1; clear c0 c1 c2 u0 u1 u2; obtain ⟨c0, c1, c2⟩ := TC.out _ hA; obtain ⟨u0, u1, u2⟩ := tcs_cells hu)
    | (go_at_call 22; first | (with_reducible refine (T1.out _ hA).mono ?_; rintro e w1 ⟨rfl, hb1⟩; have hA := btr hA hb1; have hu := kept hu hb1; have hown := hown.kept hb1; clear c0 c1 c2 u0 u1 u2; obtain ⟨c0, c1, c2⟩ := TC.out _ hA; obtain ⟨u0, u1, u2⟩ := tcs_cells hu) | (with_reducible refine (T2.out _ hA).mono ?_; rintro e w1 ⟨rfl, hb1⟩; have hA := btr hA hb1; have hu := kept hu hb1; have hown := hown.kept hb1; clear c0 c1 c2 u0 u1 u2; obtain ⟨c0, c1, c2⟩ := TC.out _ hA; obtain ⟨u0, u1, u2⟩ := tcs_cells hu) | (with_reducible refine (T3.out _ hA).mono ?_; rintro e w1 ⟨rfl, hb1⟩; have hA := btr hA hb1; have hu := kept hu hb1; have hown := hown.kept hb1; clear c0 c1 c2 u0 u1 u2; obtain ⟨c0, c1, c2⟩ := TC.out _ hA; obtain ⟨u0, u1, u2⟩ := tcs_cells hu))
    | (go_at_call 24; first | (with_reducible refine (S1.out _ hA).mono ?_; rintro e w1 ⟨rfl, hb1⟩; have hA := btr hA hb1; have hu := kept hu hb1; have hown := hown.kept hb1; clear c0 c1 c2 u0 u1 u2; obtain ⟨c0, c1, c2⟩ := TC.out _ hA; obtain ⟨u0, u1, u2⟩ := tcs_cells hu) | (with_reducible refine (S2.out _ hA).mono ?_; rintro e w1 ⟨rfl, hb1⟩; have hA := btr hA hb1; have hu := kept hu hb1; have hown := hown.kept hb1; clear c0 c1 c2 u0 u1 u2; obtain ⟨c0, c1, c2⟩ := TC.out _ hA; obtain ⟨u0, u1, u2⟩ := tcs_cells hu))
    | (go_at_call 26; with_reducible refine (LE.out _ hA).mono ?_; rintro e w1 ⟨rfl, hb1⟩; have hA := btr hA hb1; have hu := kept hu hb1; have hown := hown.kept hb1; clear c0 c1 c2 u0 u1 u2; obtain ⟨c0, c1, c2⟩ := TC.out _ hA; obtain ⟨u0, u1, u2⟩ := tcs_cells hu)
    | (go_at_call 15; with_reducible refine (SA.out _ hA _ _ hown).mono ?_; rintro e w1 ⟨rfl, hb1⟩; have hA := btr hA hb1; have hu := kept hu hb1; have hown := hown.kept hb1; clear c0 c1 c2 u0 u1 u2; obtain ⟨c0, c1, c2⟩ := TC.out _ hA; obtain ⟨u0, u1, u2⟩ := tcs_cells hu))
  go_ret
  exact ⟨rfl, by rw [hN]; exact HW.out.trans (hA.mono (by have := HW.out.size; rw [hN] at this; exact this))⟩
end Go.Proofs.YtefnlnehdogiaaaDoor.leap
