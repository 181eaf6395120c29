/-
  LeapTells: what is wrong of tables, and what is found, is as the document's own answers say, for every table, every day, every leap and every other table, of at most 300 leaps. Condition: the row's own (the listed tables hold what their initialisers lay; the card ties that).
-/
import Derived.Test.YtefnlnehdogiaaaDoorLeapSmall
import Derived.Test.YtefnlnehdogiaaaDoorLeapLaw
import Derived.Test.YtefnlnehdogiaaaDoorRef09Add
import Derived.Test.YtefnlnehdogiaaaDoorRef09Same
import Derived.Test.YtefnlnehdogiaaaDoorCards
import Derived.Test.YtefnlnehdogiaaaDoorTie
import Derived.SevenTiedAt
namespace Go.Proofs.YtefnlnehdogiaaaDoor.leapTells
open Go.ChangeShapes Go.WideShapes Go.ChangeAt Go.RowKit
open leap lm mem
set_option linter.unusedVariables false

/-- the cells of a leap's box. -/
theorem leap_cells {W : World} {g : Nat} {a b : Int} {r : Bool} (h : W.heap[g]? = some (.cells #[.int .i64 a, .int .i64 b, .bool r] 26)) :
    W.cell? ⟨g, 0, none⟩ = some (.int .i64 a) ∧ W.cell? ⟨g, 1, none⟩ = some (.int .i64 b) ∧ W.cell? ⟨g, 2, none⟩ = some (.bool r) := ⟨row_cell h 0, row_cell h 1, row_cell h 2⟩
/-- at the head of a round: what lay below stands, u's box too, and u's row has room. -/
def UHead (m : Nat) (W4 : World) (M N' : Nat) (bx : Obj) (i : Value) (W : World) : Prop :=
  ∃ k : Nat, k ≤ m ∧ i = .int .i64 (k : Nat) ∧ Below W4.heap.size W4 W ∧ W.heap[M]? = some bx ∧ ∃ cs : Array Value, W.heap[N']? = some (.cells cs 26 (0, 0)) ∧ m * 3 ≤ cs.size
theorem own_room {W : World} {N : Nat} {l : List Lp} (h : Own W N l) : ∃ cs : Array Value, W.heap[N]? = some (.cells cs 26 (0, 0)) ∧ l.length * 3 ≤ cs.size := by
  obtain ⟨cs, h, e⟩ := h
  refine ⟨cs, h, ?_⟩
  have := congrArg List.length e
  simp only [List.length_take, pcs_len] at this
  have e2 : cs.toList.length = cs.size := Array.length_toList
  omega
set_option maxHeartbeats 4000000 in
set_option maxRecDepth 100000 in
theorem walk (w : World) (l : List Lp) (A : Option Addr) (c : Nat) (has : Bool) (x : Int) (hl : Lps w A l) (hn : l.length ≤ 9223372036854775807) (hc : l.length ≤ c) (hx : -9223372036854775808 ≤ x ∧ x ≤ 9223372036854775807) (d : Int) (hd : -9223372036854775808 ≤ d ∧ d ≤ 9223372036854775807) (z : Lp)
    (l' : List Lp) (A' : Option Addr) (c' : Nat) (has' : Bool) (x' : Int) (hl' : Lps w A' l') (hn' : l'.length ≤ 9223372036854775807) (hc' : l'.length ≤ c') (hx' : -9223372036854775808 ≤ x' ∧ x' ≤ 9223372036854775807) (T : day.Tabs w) :
    Calls Tryd.prog 3 #[.agg #[.slice A l.length c, .bool has, .int .i64 x], .int .i64 d, .agg #[.int .i64 z.1, .int .i64 z.2.1, .bool z.2.2], .agg #[.slice A' l'.length c', .bool has', .int .i64 x']] w fun e w' => e = .returned (.bool true) ∧ Below w.heap.size w w' := by
  obtain ⟨z0, z1, z2⟩ := z
  have hw0 : Below w.heap.size w (((w.alloc (.cells #[.slice A l.length c, .bool has, .int .i64 x] 24)).alloc (.cells #[.int .i64 z0, .int .i64 z1, .bool z2] 26)).alloc (.cells #[.slice A' l'.length c', .bool has', .int .i64 x'] 24)) := bal (bal (bal (Below.refl _ _) _) _) _
  have box : (((w.alloc (.cells #[.slice A l.length c, .bool has, .int .i64 x] 24)).alloc (.cells #[.int .i64 z0, .int .i64 z1, .bool z2] 26)).alloc (.cells #[.slice A' l'.length c', .bool has', .int .i64 x'] 24)).heap[w.heap.size]? = some (.cells (tcs A l.length c has x) 24) := hp_old (hp_old (hp_new w _) _) _
  have boxL : (((w.alloc (.cells #[.slice A l.length c, .bool has, .int .i64 x] 24)).alloc (.cells #[.int .i64 z0, .int .i64 z1, .bool z2] 26)).alloc (.cells #[.slice A' l'.length c', .bool has', .int .i64 x'] 24)).heap[w.heap.size + 1]? = some (.cells #[.int .i64 z0, .int .i64 z1, .bool z2] 26) := hp_old (hp_new1 w _ _) _
  have boxO : (((w.alloc (.cells #[.slice A l.length c, .bool has, .int .i64 x] 24)).alloc (.cells #[.int .i64 z0, .int .i64 z1, .bool z2] 26)).alloc (.cells #[.slice A' l'.length c', .bool has', .int .i64 x'] 24)).heap[w.heap.size + 1 + 1]? = some (.cells (tcs A' l'.length c' has' x') 24) := by
    have := hp_new1 (w.alloc (.cells #[.slice A l.length c, .bool has, .int .i64 x] 24)) (.cells #[.int .i64 z0, .int .i64 z1, .bool z2] 26) (.cells #[.slice A' l'.length c', .bool has', .int .i64 x'] 24)
    simp only [World.size_alloc] at this
    exact this
  have hl0 := hl.below hw0
  have hl0' := hl'.below hw0
  have T0 : day.Tabs _ := T.below hw0
  go_enter Tryd.func3, Tryd.ntmps3
  go_wp2_with fail
  generalize ((w.alloc (.cells #[.slice A l.length c, .bool has, .int .i64 x] 24)).alloc (.cells #[.int .i64 z0, .int .i64 z1, .bool z2] 26)).alloc (.cells #[.slice A' l'.length c', .bool has', .int .i64 x'] 24) = W0 at *
  have HW := Lib.hid hw0
  clear hw0 hl hl' T
  generalize hN : w.heap.size = N at *
  have hA : Below W0.heap.size W0 W0 := Below.refl _ _
  have SM : Hid (∀ W, Below W0.heap.size W0 W → Calls Tryd.prog 9 #[] W fun e w' => e = .returned (.bool true) ∧ Below W.heap.size W w') := fun W hb => small_at W (T0.below hb)
  have FE : Hid (∀ W, Below W0.heap.size W0 W → Calls Tryd.prog 10 #[.agg #[.slice A l.length c, .bool has, .int .i64 x]] W fun e w' => e = .returned (.bool (decide (l.length ≤ 300))) ∧ Below W.heap.size W w') := fun W hb => few_at A l.length c has x W hn
  have FO : Hid (∀ W, Below W0.heap.size W0 W → Calls Tryd.prog 10 #[.agg #[.slice A' l'.length c', .bool has', .int .i64 x']] W fun e w' => e = .returned (.bool (decide (l'.length ≤ 300))) ∧ Below W.heap.size W w') := fun W hb => few_at A' l'.length c' has' x' W hn'
  have CK : Hid (∀ W, Below W0.heap.size W0 W → Calls Tryd.prog 11 #[.agg #[.slice A l.length c, .bool has, .int .i64 x]] W fun e w' => e = .returned (.tuple #[.int .i64 (cp l : Nat), .int .i64 (ce l has x)]) ∧ Below W.heap.size W w') := fun W hb => leap.check_at l A c has x W (T0.below hb) (hl0.below hb) hn
  have CR : Hid (∀ W, Below W0.heap.size W0 W → Calls Tryd.prog 12 #[.agg #[.slice A l.length c, .bool has, .int .i64 x]] W fun e w' => e = .returned (.tuple #[.int .i64 (cp l : Nat), .int .i64 (ce l has x)]) ∧ Below W.heap.size W w') := fun W hb => ref09.check_at l A c has x W (hl0.below hb) hn
  have RI : Hid (∀ W, Below W0.heap.size W0 W → Calls Tryd.prog 13 #[.agg #[.slice A l.length c, .bool has, .int .i64 x]] W fun e w' => e = .returned (.bool (ce l has x == 0)) ∧ Below W.heap.size W w') := fun W hb => leap.right_at l A c has x W (T0.below hb) (hl0.below hb) hn
  have RR : Hid (∀ W, Below W0.heap.size W0 W → Calls Tryd.prog 14 #[.agg #[.slice A l.length c, .bool has, .int .i64 x]] W fun e w' => e = .returned (.bool (ce l has x == 0)) ∧ Below W.heap.size W w') := fun W hb => ref09.right_at l A c has x W (hl0.below hb) hn
  have SA : Hid (∀ W, Below W0.heap.size W0 W → Calls Tryd.prog 15 #[.agg #[.slice A l.length c, .bool has, .int .i64 x], .agg #[.slice A' l'.length c', .bool has', .int .i64 x']] W fun e w' => e = .returned (.bool (sm l l' has has' x x')) ∧ Below W.heap.size W w') := fun W hb => leap.same_at l l' A A' c c' has has' x x' W (hl0.below hb) (hl0'.below hb) hn hn'
  have SR : Hid (∀ W, Below W0.heap.size W0 W → Calls Tryd.prog 16 #[.agg #[.slice A l.length c, .bool has, .int .i64 x], .agg #[.slice A' l'.length c', .bool has', .int .i64 x']] W fun e w' => e = .returned (.bool (sm l l' has has' x x')) ∧ Below W.heap.size W w') := fun W hb => ref09.same_at l l' A A' c c' has has' x x' W (hl0.below hb) (hl0'.below hb) hn hn'
  have TC := Lib.hid (fun W (hb : Below W0.heap.size W0 W) => tcs_cells (kept box hb))
  have TO := Lib.hid (fun W (hb : Below W0.heap.size W0 W) => tcs_cells (kept boxO hb))
  have YL := Lib.hid (fun W (hb : Below W0.heap.size W0 W) => leapTells.leap_cells (kept boxL hb))
  have EX : Hid (∀ W, Below W0.heap.size W0 W → Below w.heap.size w W) := fun W hb => by rw [hN]; exact HW.out.trans (hb.mono (by have := HW.out.size; rw [hN] at this; exact this))
  obtain ⟨c0, c1, c2⟩ := TC.out _ hA
  obtain ⟨o0, o1, o2⟩ := TO.out _ hA
  obtain ⟨y0, y1, y2⟩ := YL.out _ hA
  clear boxL boxO hl0'
  by_cases g1 : l.length ≤ 300
  · rw [decide_eq_true g1] at FE
    by_cases g1' : l'.length ≤ 300
    · rw [decide_eq_true g1'] at FO
      have p1 : ((cp l : Int) != (cp l : Int)) = false := by simp
      have p2 : (ce l has x != ce l has x) = false := by simp
      have p3 : (sm l l' has has' x x' != sm l l' has has' x x') = false := by simp
      by_cases g2 : ce l has x = 0
      · have hg := good_of g2
        have g2' : (ce l has x == 0) = true := by simpa using g2
        rw [g2'] at RI RR
        have hcl := hg.len
        have hl300 : l.length ≤ 1000000 := by omega
        have bd := tot_bd hg (fnd l d) (fnd_le l d)
        have bs := stp_bd hg d
        have CP : Hid (∀ W, Below W0.heap.size W0 W → Calls Tryd.prog 17 #[.agg #[.slice A l.length c, .bool has, .int .i64 x]] W (ref09.Copied l has x W)) := fun W hb => ref09.copy_at l A c has x W (hl0.below hb) hl300
        unfold ref09.Copied at CP
        have AD : Hid (∀ W, Below W0.heap.size W0 W → Calls Tryd.prog 18 #[.agg #[.slice A l.length c, .bool has, .int .i64 x], .agg #[.int .i64 z0, .int .i64 z1, .bool z2]] W fun e w' => ∃ N' c3, W.heap.size ≤ N' ∧ e = .returned (.tuple #[.agg #[.slice (some ⟨N', 0, none⟩) (nx l (z0, z1, z2) has x).length c3, .bool has, .int .i64 x], .int .i64 (ce (l ++ [(z0, z1, z2)]) has x)]) ∧ Own w' N' (nx l (z0, z1, z2) has x) ∧ Below W.heap.size W w') := fun W hb => by
          refine (leap.add_at l (z0, z1, z2) A c has x W (T0.below hb) (hl0.below hb) hl300 hc).mono ?_
          rintro e w' ⟨N', c3, a, b, _, d, f⟩
          exact ⟨N', c3, a, b, d, f⟩
        have AR : Hid (∀ W, Below W0.heap.size W0 W → Calls Tryd.prog 19 #[.agg #[.slice A l.length c, .bool has, .int .i64 x], .agg #[.int .i64 z0, .int .i64 z1, .bool z2]] W (ref09.RAdded l (z0, z1, z2) has x W)) := fun W hb => ref09.add_at l (z0, z1, z2) A c has x W (hl0.below hb) hl300
        unfold ref09.RAdded at AR
        have hnx : (nx l (z0, z1, z2) has x).length ≤ 9223372036854775807 := by unfold nx; split <;> first | omega | (simp; omega)
        have SV : Hid (∀ W N' c3 A4 c4, Lps W (some ⟨N', 0, none⟩) (nx l (z0, z1, z2) has x) → Lps W A4 (nx l (z0, z1, z2) has x) → Calls Tryd.prog 16 #[.agg #[.slice (some ⟨N', 0, none⟩) (nx l (z0, z1, z2) has x).length c3, .bool has, .int .i64 x], .agg #[.slice A4 (nx l (z0, z1, z2) has x).length c4, .bool has, .int .i64 x]] W fun e w' => e = .returned (.bool true) ∧ Below W.heap.size W w') := fun W N' c3 A4 c4 a b => by
          have := ref09.same_at _ _ (some ⟨N', 0, none⟩) A4 c3 c4 has has x x W a b hnx hnx
          rw [sm_same] at this
          exact this
        have SW : Hid (∀ W, Below W0.heap.size W0 W → ∀ B A2 c2, ref09.Row W B (.slice A2 l.length c2) l → Calls Tryd.prog 16 #[.agg #[.slice A l.length c, .bool has, .int .i64 x], .agg #[.slice A2 l.length c2, .bool has, .int .i64 x]] W fun e w' => e = .returned (.bool true) ∧ Below W.heap.size W w') := fun W hb B A2 c2 hr => by
          have := ref09.same_at l l A A2 c c2 has has x x W (hl0.below hb) hr.lps hn hn
          rw [sm_same] at this
          exact this
        have FI : Hid (∀ W, Below W0.heap.size W0 W → Calls Tryd.prog 20 #[.agg #[.slice A l.length c, .bool has, .int .i64 x], .int .i64 d] W fun e w' => e = .returned (.int .i64 (fnd l d : Nat)) ∧ Below W.heap.size W w') := fun W hb => leap.find_at l A c has x d W (hl0.below hb) hg
        have FR : Hid (∀ W, Below W0.heap.size W0 W → Calls Tryd.prog 21 #[.agg #[.slice A l.length c, .bool has, .int .i64 x], .int .i64 d] W fun e w' => e = .returned (.int .i64 (fnd l d : Nat)) ∧ Below W.heap.size W w') := fun W hb => ref09.find_at l A c has x d W (hl0.below hb) hn
        have TI : Hid (∀ W, Below W0.heap.size W0 W → Calls Tryd.prog 22 #[.agg #[.slice A l.length c, .bool has, .int .i64 x], .int .i64 d] W fun e w' => e = .returned (.int .i64 (tot l (fnd l d))) ∧ Below W.heap.size W w') := fun W hb => leap.total_at l A c has x d W (hl0.below hb) hg hc
        have TR : Hid (∀ W, Below W0.heap.size W0 W → Calls Tryd.prog 23 #[.agg #[.slice A l.length c, .bool has, .int .i64 x], .int .i64 d] W fun e w' => e = .returned (.int .i64 (tot l (fnd l d))) ∧ Below W.heap.size W w') := fun W hb => ref09.total_at l A c has x d W (hl0.below hb) hg
        have SI : Hid (∀ W, Below W0.heap.size W0 W → Calls Tryd.prog 24 #[.agg #[.slice A l.length c, .bool has, .int .i64 x], .int .i64 d] W fun e w' => e = .returned (.int .i64 (stp l d)) ∧ Below W.heap.size W w') := fun W hb => leap.step_at l A c has x d W (hl0.below hb) hg
        have SS : Hid (∀ W, Below W0.heap.size W0 W → Calls Tryd.prog 25 #[.agg #[.slice A l.length c, .bool has, .int .i64 x], .int .i64 d] W fun e w' => e = .returned (.int .i64 (stp l d)) ∧ Below W.heap.size W w') := fun W hb => ref09.step_at l A c has x d W (hl0.below hb) hg
        have LI : Hid (∀ W, Below W0.heap.size W0 W → Calls Tryd.prog 26 #[.agg #[.slice A l.length c, .bool has, .int .i64 x], .int .i64 d] W fun e w' => e = .returned (.int .i64 (86400 + stp l d)) ∧ Below W.heap.size W w') := fun W hb => leap.length_at l A c has x d W (hl0.below hb) hg
        have LR : Hid (∀ W, Below W0.heap.size W0 W → Calls Tryd.prog 27 #[.agg #[.slice A l.length c, .bool has, .int .i64 x], .int .i64 d] W fun e w' => e = .returned (.int .i64 (86400 + stp l d)) ∧ Below W.heap.size W w') := fun W hb => ref09.length_at l A c has x d W (hl0.below hb) hg
        have p4 : (ce (l ++ [(z0, z1, z2)]) has x != ce (l ++ [(z0, z1, z2)]) has x) = false := by simp
        clear T0 hl0 box g2 g2' hg hcl hl300
        generalize ce l has x = E0 at *
        generalize ce (l ++ [(z0, z1, z2)]) has x = E1 at *
        generalize cp l = P0 at *
        generalize sm l l' has has' x x' = S0 at *
        generalize nx l (z0, z1, z2) has x = L at *
        generalize tot l (fnd l d) = S at *
        generalize fnd l d = f at *
        generalize 86400 + stp l d = h at *
        generalize stp l d = t at *
        have p5 : (S == S) = true := by simp
        have p6 : (t == t) = true := by simp
        have p7 : (h == h) = true := by simp
        have p8 : ((f : Int) == (f : Int)) = true := by simp
        generalize hL0 : l.length = n at *
        generalize hL1 : L.length = m at *
        generalize l'.length = n' at *
        go_wp2_with (first
          | (go_at_call 9; with_reducible refine (SM.out _ hA).mono ?_; rintro e w1 ⟨rfl, hb1⟩; have hA := btr hA hb1; clear c0 c1 c2 o0 o1 o2 y0 y1 y2; obtain ⟨c0, c1, c2⟩ := TC.out _ hA; obtain ⟨o0, o1, o2⟩ := TO.out _ hA; obtain ⟨y0, y1, y2⟩ := YL.out _ hA)
          | (go_at_call 10; first | (with_reducible refine (FE.out _ hA).mono ?_; rintro e w1 ⟨rfl, hb1⟩; have hA := btr hA hb1; clear c0 c1 c2 o0 o1 o2 y0 y1 y2; obtain ⟨c0, c1, c2⟩ := TC.out _ hA; obtain ⟨o0, o1, o2⟩ := TO.out _ hA; obtain ⟨y0, y1, y2⟩ := YL.out _ hA) | (with_reducible refine (FO.out _ hA).mono ?_; rintro e w1 ⟨rfl, hb1⟩; have hA := btr hA hb1; clear c0 c1 c2 o0 o1 o2 y0 y1 y2; obtain ⟨c0, c1, c2⟩ := TC.out _ hA; obtain ⟨o0, o1, o2⟩ := TO.out _ hA; obtain ⟨y0, y1, y2⟩ := YL.out _ hA))
          | (go_at_call 11; with_reducible refine (CK.out _ hA).mono ?_; rintro e w1 ⟨rfl, hb1⟩; have hA := btr hA hb1; clear c0 c1 c2 o0 o1 o2 y0 y1 y2; obtain ⟨c0, c1, c2⟩ := TC.out _ hA; obtain ⟨o0, o1, o2⟩ := TO.out _ hA; obtain ⟨y0, y1, y2⟩ := YL.out _ hA)
          | (go_at_call 12; with_reducible refine (CR.out _ hA).mono ?_; rintro e w1 ⟨rfl, hb1⟩; have hA := btr hA hb1; clear c0 c1 c2 o0 o1 o2 y0 y1 y2; obtain ⟨c0, c1, c2⟩ := TC.out _ hA; obtain ⟨o0, o1, o2⟩ := TO.out _ hA; obtain ⟨y0, y1, y2⟩ := YL.out _ hA))
        have cq0 := fun d' os => cell_regrown c0 d' os
        have cq1 := fun d' os => cell_regrown c1 d' os
        have cq2 := fun d' os => cell_regrown c2 d' os
        have oq0 := fun d' os => cell_regrown o0 d' os
        have oq1 := fun d' os => cell_regrown o1 d' os
        have oq2 := fun d' os => cell_regrown o2 d' os
        have X0 := Lib.hid (fun d' os => below_at (T := fun W => Below W0.heap.size W0 W) RI.out (fun W hb => btr hA hb) d' os)
        have X1 := Lib.hid (fun d' os => below_at (T := fun W => Below W0.heap.size W0 W) RR.out (fun W hb => btr hA hb) d' os)
        have X2 := Lib.hid (fun d' os => below_at (T := fun W => Below W0.heap.size W0 W) SA.out (fun W hb => btr hA hb) d' os)
        have X3 := Lib.hid (fun d' os => below_at (T := fun W => Below W0.heap.size W0 W) SR.out (fun W hb => btr hA hb) d' os)
        refine wp_region_quiet_below (by kernel_rfl) (by kernel_rfl) ?_
        repeat (quiet_step (first
          | (go_at_call 13; with_reducible exact X0.out _ _)
          | (go_at_call 14; with_reducible exact X1.out _ _)
          | (go_at_call 15; with_reducible exact X2.out _ _)
          | (go_at_call 16; with_reducible exact X3.out _ _)))
        refine wpQuiet_nil ?_
        intro _ hw'
        obtain ⟨⟨dq, osq⟩, hw''⟩ := hw'
        subst hw''
        have hA := btr hA (below_regrown _ dq osq)
        clear cq0 cq1 cq2 oq0 oq1 oq2 X0 X1 X2 X3
        clear c0 c1 c2 o0 o1 o2 y0 y1 y2; obtain ⟨c0, c1, c2⟩ := TC.out _ hA; obtain ⟨o0, o1, o2⟩ := TO.out _ hA; obtain ⟨y0, y1, y2⟩ := YL.out _ hA
        generalize Sort.grow (redrawn w1 dq) osq = W7 at *
        go_wp2_with (first
          | (go_at_call 14; with_reducible refine (RR.out _ hA).mono ?_; rintro e w1 ⟨rfl, hb1⟩; have hA := btr hA hb1; clear c0 c1 c2 o0 o1 o2 y0 y1 y2; obtain ⟨c0, c1, c2⟩ := TC.out _ hA; obtain ⟨o0, o1, o2⟩ := TO.out _ hA; obtain ⟨y0, y1, y2⟩ := YL.out _ hA)
          | (go_at_call 17; with_reducible refine (CP.out _ hA).mono ?_; rintro e w2 ⟨A2, k2, rfl, hcw, hrw0, hb2⟩; have hrw := hrw0.below (bal (Below.refl w2.heap.size w2) (.cells #[.slice A2 n k2, .bool has, .int .i64 x] 24)); have hwas : (w2.alloc (.cells #[.slice A2 n k2, .bool has, .int .i64 x] 24)).heap[w2.heap.size]? = some (.cells (tcs A2 n k2 has x) 24) := hp_new w2 _; have hA := bal (btr hA hb2) (.cells #[.slice A2 n k2, .bool has, .int .i64 x] 24); have hA2 := hA; have hB : Below (w2.alloc (.cells #[.slice A2 n k2, .bool has, .int .i64 x] 24)).heap.size (w2.alloc (.cells #[.slice A2 n k2, .bool has, .int .i64 x] 24)) (w2.alloc (.cells #[.slice A2 n k2, .bool has, .int .i64 x] 24)) := Below.refl _ _; clear hrw0 hcw; clear c0 c1 c2 o0 o1 o2 y0 y1 y2; obtain ⟨c0, c1, c2⟩ := TC.out _ hA; obtain ⟨o0, o1, o2⟩ := TO.out _ hA; obtain ⟨y0, y1, y2⟩ := YL.out _ hA)
          | (go_at_call 18; with_reducible refine (AD.out _ hA).mono ?_; rintro e w3 ⟨N', k3, hN', rfl, hown0, hb3⟩; have hown := hown0.kept (bal (Below.refl w3.heap.size w3) (.cells #[.slice (some ⟨N', 0, none⟩) m k3, .bool has, .int .i64 x] 24)); have hMN : N' < w3.heap.size := hown0.lt; have hu : (w3.alloc (.cells #[.slice (some ⟨N', 0, none⟩) m k3, .bool has, .int .i64 x] 24)).heap[w3.heap.size]? = some (.cells (tcs (some ⟨N', 0, none⟩) m k3 has x) 24) := hp_new w3 _; have hA := bal (btr hA hb3) (.cells #[.slice (some ⟨N', 0, none⟩) m k3, .bool has, .int .i64 x] 24); have hB := bal (btr hB hb3) (.cells #[.slice (some ⟨N', 0, none⟩) m k3, .bool has, .int .i64 x] 24); clear hown0; clear c0 c1 c2 o0 o1 o2 y0 y1 y2; obtain ⟨c0, c1, c2⟩ := TC.out _ hA; obtain ⟨o0, o1, o2⟩ := TO.out _ hA; obtain ⟨y0, y1, y2⟩ := YL.out _ hA; obtain ⟨u0, u1, u2⟩ := tcs_cells hu)
          | (go_at_call 19; with_reducible refine (AR.out _ hA).mono ?_; rintro e w4 ⟨A4, k4, rfl, hL4, hb4⟩; have hLv := hL4.below (bal (Below.refl w4.heap.size w4) (.cells #[.slice A4 m k4, .bool has, .int .i64 x] 24)); have hown := (hown.kept hb4).kept (bal (Below.refl w4.heap.size w4) (.cells #[.slice A4 m k4, .bool has, .int .i64 x] 24)); have hu := hp_old (kept hu hb4) (.cells #[.slice A4 m k4, .bool has, .int .i64 x] 24); have hv : (w4.alloc (.cells #[.slice A4 m k4, .bool has, .int .i64 x] 24)).heap[w4.heap.size]? = some (.cells (tcs A4 m k4 has x) 24) := hp_new w4 _; have hA := bal (btr hA hb4) (.cells #[.slice A4 m k4, .bool has, .int .i64 x] 24); have hB := bal (btr hB hb4) (.cells #[.slice A4 m k4, .bool has, .int .i64 x] 24); clear hL4; clear c0 c1 c2 o0 o1 o2 y0 y1 y2; obtain ⟨c0, c1, c2⟩ := TC.out _ hA; obtain ⟨o0, o1, o2⟩ := TO.out _ hA; obtain ⟨y0, y1, y2⟩ := YL.out _ hA; obtain ⟨u0, u1, u2⟩ := tcs_cells hu; obtain ⟨v0, v1, v2⟩ := tcs_cells hv)
          | (go_at_call 16; with_reducible refine (SV.out _ _ _ _ _ hown.lps hLv).mono ?_; rintro e w5 ⟨rfl, hb5⟩; have hown := hown.kept hb5; have hu := kept hu hb5; have hA := btr hA hb5; have hB := btr hB hb5; clear u0 u1 u2 v0 v1 v2; clear c0 c1 c2 o0 o1 o2 y0 y1 y2; obtain ⟨c0, c1, c2⟩ := TC.out _ hA; obtain ⟨o0, o1, o2⟩ := TO.out _ hA; obtain ⟨y0, y1, y2⟩ := YL.out _ hA; obtain ⟨u0, u1, u2⟩ := tcs_cells hu))
        clear CK CR RI RR SA SR FE FO SM CP AD AR SV
        have hroom := own_room hown
        rw [hL1] at hroom
        go_loopw [19] (fun i W => UHead m (w2.alloc (.cells #[.slice A2 n k2, .bool has, .int .i64 x] 24)) w3.heap.size N' (.cells (tcs (some ⟨N', 0, none⟩) m k3 has x) 24) i W) (fun i _ => m - (intOf i).toNat)
        case atStart => exact ⟨0, Nat.zero_le _, rfl, hB, hu, hroom⟩
        case round =>
          clear c0 c1 c2 o0 o1 o2 y0 y1 y2 u0 u1 u2 hroom hu hown
          obtain ⟨k, hk, rfl, hBr, hur, cs, hrr, hsz⟩ := hrel
          obtain ⟨u0, u1, u2⟩ := tcs_cells hur
          by_cases hlt : k < m
          · obtain ⟨q0, hq0⟩ : ∃ v, cs[k * 3]? = some v := ⟨cs[k * 3]'(by omega), Array.getElem?_eq_getElem (by omega)⟩
            have x0 : wr.cell? ⟨N', k * 3, none⟩ = some q0 := (row_cell hrr (k * 3)).trans hq0
            have fz : wr.frozen? ⟨N', k * 3, none⟩ = false := by simp [World.frozen?, hrr]
            have R : Hid (UHead m (w2.alloc (.cells #[.slice A2 n k2, .bool has, .int .i64 x] 24)) w3.heap.size N' (.cells (tcs (some ⟨N', 0, none⟩) m k3 has x) 24) (.int .i64 ((k : Int) + 1)) (wr.setCell ⟨N', k * 3, none⟩ (.int .i64 77))) :=
              ⟨k + 1, by omega, rfl, hBr.setCell hN' _, (heap_setCell_other _ ⟨N', k * 3, none⟩ _ _ (by show w3.heap.size ≠ N'; omega)).trans hur, _, heap_setCell_same wr N' (k * 3) cs _ _ hrr, by simpa using hsz⟩
            clear hrr hur hsz hBr hq0
            go_wp2
            go_roundw
            case rel => exact R.out
            case measure => simp [intOf]; omega
          · obtain rfl : k = m := by omega
            have hA := btr hA2 hBr
            have hrw := hrw.below hBr
            have hwas := kept hwas hBr
            obtain ⟨c0, c1, c2⟩ := TC.out _ hA
            obtain ⟨g0, g1, g2⟩ := tcs_cells hwas
            go_wp2_with fail
            have cq0 := fun d' os => cell_regrown c0 d' os
            have cq1 := fun d' os => cell_regrown c1 d' os
            have cq2 := fun d' os => cell_regrown c2 d' os
            have gq0 := fun d' os => cell_regrown g0 d' os
            have gq1 := fun d' os => cell_regrown g1 d' os
            have gq2 := fun d' os => cell_regrown g2 d' os
            have X0 := Lib.hid (fun d' os => below_at (w := wr) (T := fun W => Below W0.heap.size W0 W) FI.out (fun W hb => btr hA hb) d' os)
            have X1 := Lib.hid (fun d' os => below_at (w := wr) (T := fun W => Below W0.heap.size W0 W) FR.out (fun W hb => btr hA hb) d' os)
            have X2 := Lib.hid (fun d' os => below_at (w := wr) (T := fun W => Below W0.heap.size W0 W) TI.out (fun W hb => btr hA hb) d' os)
            have X3 := Lib.hid (fun d' os => below_at (w := wr) (T := fun W => Below W0.heap.size W0 W) TR.out (fun W hb => btr hA hb) d' os)
            have X4 := Lib.hid (fun d' os => below_at (w := wr) (T := fun W => Below W0.heap.size W0 W) SI.out (fun W hb => btr hA hb) d' os)
            have X5 := Lib.hid (fun d' os => below_at (w := wr) (T := fun W => Below W0.heap.size W0 W) SS.out (fun W hb => btr hA hb) d' os)
            have X6 := Lib.hid (fun d' os => below_at (w := wr) (T := fun W => Below W0.heap.size W0 W) LI.out (fun W hb => btr hA hb) d' os)
            have X7 := Lib.hid (fun d' os => below_at (w := wr) (T := fun W => Below W0.heap.size W0 W) LR.out (fun W hb => btr hA hb) d' os)
            have X8 := Lib.hid (fun d' os => below_at (w := wr) (T := fun W => Below W0.heap.size W0 W ∧ ref09.Row W _ (.slice A2 n k2) l) (fun W hb => SW.out W hb.1 _ A2 k2 hb.2) (fun W hb => ⟨btr hA hb, hrw.below hb⟩) d' os)
            clear c0 c1 c2 g0 g1 g2 u0 u1 u2
            refine wp_region_quiet_below (by kernel_rfl) (by kernel_rfl) ?_
            repeat (quiet_step (first
              | (go_at_call 20; with_reducible exact X0.out _ _)
              | (go_at_call 21; with_reducible exact X1.out _ _)
              | (go_at_call 22; with_reducible exact X2.out _ _)
              | (go_at_call 23; with_reducible exact X3.out _ _)
              | (go_at_call 24; with_reducible exact X4.out _ _)
              | (go_at_call 25; with_reducible exact X5.out _ _)
              | (go_at_call 26; with_reducible exact X6.out _ _)
              | (go_at_call 27; with_reducible exact X7.out _ _)
              | (go_at_call 16; with_reducible exact X8.out _ _)))
            refine wpQuiet_nil ?_
            intro _ hw'
            obtain ⟨⟨dq, osq⟩, hw''⟩ := hw'
            subst hw''
            have hA := btr hA (below_regrown _ dq osq)
            generalize Sort.grow (redrawn wr dq) osq = W9 at *
            go_wp2
            go_ret
            exact ⟨ret_bool (by first | rfl | simp), EX.out _ hA⟩
      · have g2' : (ce l has x == 0) = false := by simpa using g2
        rw [g2'] at RI RR
        clear T0 hl0 box g2 g2'
        generalize ce l has x = E0 at *
        generalize cp l = P0 at *
        generalize sm l l' has has' x x' = S0 at *
        generalize l.length = n at *
        generalize l'.length = n' at *
        go_wp2_with (first
          | (go_at_call 9; with_reducible refine (SM.out _ hA).mono ?_; rintro e w1 ⟨rfl, hb1⟩; have hA := btr hA hb1; clear c0 c1 c2 o0 o1 o2 y0 y1 y2; obtain ⟨c0, c1, c2⟩ := TC.out _ hA; obtain ⟨o0, o1, o2⟩ := TO.out _ hA; obtain ⟨y0, y1, y2⟩ := YL.out _ hA)
          | (go_at_call 10; first | (with_reducible refine (FE.out _ hA).mono ?_; rintro e w1 ⟨rfl, hb1⟩; have hA := btr hA hb1; clear c0 c1 c2 o0 o1 o2 y0 y1 y2; obtain ⟨c0, c1, c2⟩ := TC.out _ hA; obtain ⟨o0, o1, o2⟩ := TO.out _ hA; obtain ⟨y0, y1, y2⟩ := YL.out _ hA) | (with_reducible refine (FO.out _ hA).mono ?_; rintro e w1 ⟨rfl, hb1⟩; have hA := btr hA hb1; clear c0 c1 c2 o0 o1 o2 y0 y1 y2; obtain ⟨c0, c1, c2⟩ := TC.out _ hA; obtain ⟨o0, o1, o2⟩ := TO.out _ hA; obtain ⟨y0, y1, y2⟩ := YL.out _ hA))
          | (go_at_call 11; with_reducible refine (CK.out _ hA).mono ?_; rintro e w1 ⟨rfl, hb1⟩; have hA := btr hA hb1; clear c0 c1 c2 o0 o1 o2 y0 y1 y2; obtain ⟨c0, c1, c2⟩ := TC.out _ hA; obtain ⟨o0, o1, o2⟩ := TO.out _ hA; obtain ⟨y0, y1, y2⟩ := YL.out _ hA)
          | (go_at_call 12; with_reducible refine (CR.out _ hA).mono ?_; rintro e w1 ⟨rfl, hb1⟩; have hA := btr hA hb1; clear c0 c1 c2 o0 o1 o2 y0 y1 y2; obtain ⟨c0, c1, c2⟩ := TC.out _ hA; obtain ⟨o0, o1, o2⟩ := TO.out _ hA; obtain ⟨y0, y1, y2⟩ := YL.out _ hA))
        have cq0 := fun d' os => cell_regrown c0 d' os
        have cq1 := fun d' os => cell_regrown c1 d' os
        have cq2 := fun d' os => cell_regrown c2 d' os
        have oq0 := fun d' os => cell_regrown o0 d' os
        have oq1 := fun d' os => cell_regrown o1 d' os
        have oq2 := fun d' os => cell_regrown o2 d' os
        have X0 := Lib.hid (fun d' os => below_at (T := fun W => Below W0.heap.size W0 W) RI.out (fun W hb => btr hA hb) d' os)
        have X1 := Lib.hid (fun d' os => below_at (T := fun W => Below W0.heap.size W0 W) RR.out (fun W hb => btr hA hb) d' os)
        have X2 := Lib.hid (fun d' os => below_at (T := fun W => Below W0.heap.size W0 W) SA.out (fun W hb => btr hA hb) d' os)
        have X3 := Lib.hid (fun d' os => below_at (T := fun W => Below W0.heap.size W0 W) SR.out (fun W hb => btr hA hb) d' os)
        refine wp_region_quiet_below (by kernel_rfl) (by kernel_rfl) ?_
        repeat (quiet_step (first
          | (go_at_call 13; with_reducible exact X0.out _ _)
          | (go_at_call 14; with_reducible exact X1.out _ _)
          | (go_at_call 15; with_reducible exact X2.out _ _)
          | (go_at_call 16; with_reducible exact X3.out _ _)))
        refine wpQuiet_nil ?_
        intro _ hw'
        obtain ⟨⟨dq, osq⟩, hw''⟩ := hw'
        subst hw''
        have hA := btr hA (below_regrown _ dq osq)
        clear cq0 cq1 cq2 oq0 oq1 oq2 X0 X1 X2 X3
        clear c0 c1 c2 o0 o1 o2 y0 y1 y2; obtain ⟨c0, c1, c2⟩ := TC.out _ hA; obtain ⟨o0, o1, o2⟩ := TO.out _ hA; obtain ⟨y0, y1, y2⟩ := YL.out _ hA
        generalize Sort.grow (redrawn w1 dq) osq = W7 at *
        go_wp2_with (first
          | (go_at_call 14; with_reducible refine (RR.out _ hA).mono ?_; rintro e w1 ⟨rfl, hb1⟩; have hA := btr hA hb1; clear c0 c1 c2 o0 o1 o2 y0 y1 y2; obtain ⟨c0, c1, c2⟩ := TC.out _ hA; obtain ⟨o0, o1, o2⟩ := TO.out _ hA; obtain ⟨y0, y1, y2⟩ := YL.out _ hA))
        go_ret
        exact ⟨rfl, EX.out _ hA⟩
    · rw [decide_eq_false g1'] at FO
      clear T0 hl0 box RI RR CK CR SA SR g1 g1'
      generalize l.length = n at *
      generalize l'.length = n' at *
      go_wp2_with (first
        | (go_at_call 9; with_reducible refine (SM.out _ hA).mono ?_; rintro e w1 ⟨rfl, hb1⟩; have hA := btr hA hb1; clear c0 c1 c2 o0 o1 o2 y0 y1 y2; obtain ⟨c0, c1, c2⟩ := TC.out _ hA; obtain ⟨o0, o1, o2⟩ := TO.out _ hA; obtain ⟨y0, y1, y2⟩ := YL.out _ hA)
        | (go_at_call 10; first | (with_reducible refine (FE.out _ hA).mono ?_; rintro e w1 ⟨rfl, hb1⟩; have hA := btr hA hb1; clear c0 c1 c2 o0 o1 o2 y0 y1 y2; obtain ⟨c0, c1, c2⟩ := TC.out _ hA; obtain ⟨o0, o1, o2⟩ := TO.out _ hA; obtain ⟨y0, y1, y2⟩ := YL.out _ hA) | (with_reducible refine (FO.out _ hA).mono ?_; rintro e w1 ⟨rfl, hb1⟩; have hA := btr hA hb1; clear c0 c1 c2 o0 o1 o2 y0 y1 y2; obtain ⟨c0, c1, c2⟩ := TC.out _ hA; obtain ⟨o0, o1, o2⟩ := TO.out _ hA; obtain ⟨y0, y1, y2⟩ := YL.out _ hA)))
      go_ret
      exact ⟨rfl, EX.out _ hA⟩
  · rw [decide_eq_false g1] at FE
    clear T0 hl0 box RI RR CK CR SA SR FO g1
    generalize l.length = n at *
    generalize l'.length = n' at *
    go_wp2_with (first
      | (go_at_call 9; with_reducible refine (SM.out _ hA).mono ?_; rintro e w1 ⟨rfl, hb1⟩; have hA := btr hA hb1; clear c0 c1 c2 o0 o1 o2 y0 y1 y2; obtain ⟨c0, c1, c2⟩ := TC.out _ hA; obtain ⟨o0, o1, o2⟩ := TO.out _ hA; obtain ⟨y0, y1, y2⟩ := YL.out _ hA)
      | (go_at_call 10; first | (with_reducible refine (FE.out _ hA).mono ?_; rintro e w1 ⟨rfl, hb1⟩; have hA := btr hA hb1; clear c0 c1 c2 o0 o1 o2 y0 y1 y2; obtain ⟨c0, c1, c2⟩ := TC.out _ hA; obtain ⟨o0, o1, o2⟩ := TO.out _ hA; obtain ⟨y0, y1, y2⟩ := YL.out _ hA) | (with_reducible refine (FO.out _ hA).mono ?_; rintro e w1 ⟨rfl, hb1⟩; have hA := btr hA hb1; clear c0 c1 c2 o0 o1 o2 y0 y1 y2; obtain ⟨c0, c1, c2⟩ := TC.out _ hA; obtain ⟨o0, o1, o2⟩ := TO.out _ hA; obtain ⟨y0, y1, y2⟩ := YL.out _ hA)))
    go_ret
    exact ⟨rfl, EX.out _ hA⟩
theorem door_met (os : Os) (args : Array Value) : laidMetH Tryd.prog Rows.leapTellsRow.laid ((World.doorLaid Tryd.prog 400 os).forCall (fun _ _ => 0) ⟨#[], args, []⟩).memory :=
  laidMetH_of_parts3 (fuel := 8) (laidMet_of_run' 8 (by kernel_rfl) (by kernel_rfl)) (by kernel_rfl) (by kernel_rfl)
set_option maxRecDepth 100000 in
theorem lifted (os : Os) (started : os.Started) (H : Type) (enc : TypeId × Value → H) :
    ReturnsInHanded {} Tryd.checked os 3 .any (fun w args => (Rows.leapTellsSpec.pre enc Tryd.prog Tryd.f3 [] false w args ∧ laidMetH Tryd.prog Rows.leapTellsRow.laid w) ∧ sizedMet enc Tryd.prog Tryd.f3 (OpenSpec.ofChange Rows.leapTellsSpec) false w args)
      (Rows.leapTellsSpec.post enc Tryd.prog Tryd.f3 false true false false) := by
  refine returnsInHanded_of_change_and (C := Tryd.checked) (X := fun w _ => laidMetH Tryd.prog Rows.leapTellsRow.laid w) (fun _ _ _ hh h => h.of_heap hh) law.own started (by kernel_rfl) Tryd.func3
    (ChangeSpec.witness_shaped (enc := enc) (C := Tryd.checked) (os := os) (X := fun w _ => laidMetH Tryd.prog Rows.leapTellsRow.laid w) false (World.doorLaid Tryd.prog 400 os) #[.agg #[.slice none 0 0, .bool false, .int .i64 0], .int .i64 0, .agg #[.int .i64 0, .int .i64 0, .bool false], .agg #[.slice none 0 0, .bool false, .int .i64 0]] 8 rfl (World.shaped_of_RefB (by kernel_rfl) (by kernel_rfl)) (by kernel_rfl) (by kernel_rfl) (by kernel_rfl) (door_met os _)) ?_
  intro W base args ds gs before hval0 hW _ _ hL _
  rw [MakeChecks.laidMetH_plain _ _ _ (by kernel_rfl)] at hL
  have T0 := day.tabs_of hL (by repeat first | exact List.Mem.head _ | refine List.Mem.tail _ ?_) (by repeat first | exact List.Mem.head _ | refine List.Mem.tail _ ?_)
  have hval : ∀ (j : Nat) t v, Tryd.f3.params[j]? = some t → args[j]? = some v → Value.okWide Tryd.prog W .any base t v := hval0
  have hW' := hW
  obtain ⟨p, q, hA0, hV, rfl, hfz, hnd⟩ := hW
  have hA : DataW.TrodAll enc Tryd.prog W 0 (fun _ => true) true Tryd.f3.params.toList args.toList ds p := hA0
  rw [Tryd.params3] at hA hval
  obtain ⟨v0, vs0, d0, ds0, p0, q0, hargs, rfl, rfl, h0, r0⟩ := trodAll_cons hA
  obtain ⟨v1, vs1, d1, ds1, p1, q1, rfl, rfl, rfl, h1, r1⟩ := trodAll_cons r0
  obtain ⟨v2, vs2, d2, ds2, p2, q2, rfl, rfl, rfl, h2, r2⟩ := trodAll_cons r1
  obtain ⟨v3, vs3, d3, ds3, p3, q3, rfl, rfl, rfl, h3, r3⟩ := trodAll_cons r2
  obtain ⟨rfl, rfl, rfl⟩ := trodAll_nil r3
  obtain rfl : args = #[v0, v1, v2, v3] := by cases args; simp_all
  obtain ⟨rfl, rfl⟩ := trodVars_none hV
  clear hA0 hval0
  obtain ⟨A0_, k0_, l0_, b0_, x0_, rfl, q0_, n0_, m0_, w0_⟩ := leap.open_table (hval 0 24 v0 rfl rfl) h0
  obtain ⟨a1, rfl, hd1, hp1, w1⟩ := open_int Tryd.underlying3 (hval 1 3 v1 rfl rfl) h1
  obtain ⟨z2_, rfl⟩ := leap.open_leap (hval 2 26 v2 rfl rfl) h2
  obtain ⟨A3_, k3_, l3_, b3_, x3_, rfl, q3_, n3_, m3_, w3_⟩ := leap.open_table (hval 3 24 v3 rfl rfl) h3
  refine (Calls.mono (R := fun e w' => e = .returned (.bool true) ∧ Below W.heap.size W w') ?_ fun e W' ⟨he, hb⟩ => ?_)
  · exact walk W l0_ A0_ k0_ b0_ x0_ q0_ n0_ m0_ w0_ a1 (bounds_i64 w1) z2_ l3_ A3_ k3_ b3_ x3_ q3_ n3_ m3_ w3_ T0
  · subst he
    exact ⟨_, rfl, law.post law.laidOut (by kernel_rfl) rfl rfl Tryd.underlying4 rfl hW' hb⟩

theorem over : Rows.leapTellsRow.holds Tryd.pinned (OpenSpec.ofChange Rows.leapTellsSpec) :=
  OpenClaim.holds_of_wide 3 Tryd.f3 rfl rfl rfl rfl rfl rfl rfl ⟨rfl, rfl, rfl, rfl, rfl⟩ rfl rfl rfl rfl rfl (by kernel_rfl) Tryd.func3 (by kernel_rfl)
    (of_decide_eq_true (by kernel_rfl)) (by unfold Func.isWrapper; first | (rw [if_pos (by decide +kernel)]; kernel_rfl) | (rw [if_neg (by decide +kernel)]; exact ⟨rfl, rfl⟩))
    (fun os started H enc _ => lifted os started H enc)

theorem proved : Rows.LeapTellsCardSaid :=
  Claim7.holds_tied_plain_at .later [] _ _ _ _ over (fun _ h => by cases h) (by kernel_rfl) (fun _ h => by cases h) leapTells_row_tie rfl ⟨rfl, rfl⟩ (by kernel_rfl) rfl
    (fun f fn hf hfn => by
      obtain rfl : f = 3 := Option.some.inj ((show Tryd.prog.funcNamed "epact/epactlaw09.LeapTells" = some 3 by kernel_rfl).symm.trans hf) |>.symm
      obtain rfl : fn = Tryd.f3 := (Option.some.inj (Tryd.func3.symm.trans hfn)).symm
      exact ⟨by kernel_rfl, fun j t ht => by
        have hall : (Tryd.f3.params.toList.all fun u => !Tryd.prog.wantsStandIn u) = true := by kernel_rfl
        have hm : t ∈ Tryd.f3.params.toList := by rw [Array.mem_toList_iff]; exact Array.mem_of_getElem? ht
        exact (show Tryd.prog.wantsStandIn t = false by simpa using List.all_eq_true.1 hall t hm)⟩)
    (by kernel_rfl)
end Go.Proofs.YtefnlnehdogiaaaDoor.leapTells
