/-
  LeapAdds: what is added stands behind all others, and changes no Total up to its day, for every right table, every leap and every day. Condition: the row's own (the listed tables hold what their initialisers lay; the card ties that).
-/
import Derived.Test.YtefnlnehdogiaaaDoorLeapSmall
import Derived.Test.YtefnlnehdogiaaaDoorLeapLaw
import Derived.Test.YtefnlnehdogiaaaDoorCards
import Derived.Test.YtefnlnehdogiaaaDoorTie
import Derived.SevenTiedAt
namespace Go.Proofs.YtefnlnehdogiaaaDoor.leapAdds
open Go.ChangeShapes Go.WideShapes Go.ChangeAt Go.RowKit
open leap lm mem
set_option linter.unusedVariables false

theorem st_app (l m : List Lp) (k : Nat) (h : k < l.length) : lm.st (l ++ m) k = lm.st l k ∧ dy (l ++ m) k = dy l k := by
  have e : (l ++ m).getD k z3 = l.getD k z3 := by
    rw [List.getD_eq_getElem?_getD, List.getD_eq_getElem?_getD, List.getElem?_append_left h]
  unfold lm.st dy
  rw [e]
  exact ⟨rfl, rfl⟩
theorem st_last (l : List Lp) (z : Lp) : lm.st (l ++ [z]) l.length = z.2.1 ∧ dy (l ++ [z]) l.length = z.1 := by
  have e : (l ++ [z]).getD l.length z3 = z := by
    rw [List.getD_eq_getElem?_getD, List.getElem?_append_right (Nat.le_refl _)]
    simp
  unfold lm.st dy
  rw [e]
  exact ⟨rfl, rfl⟩
theorem tot_app (l m : List Lp) : ∀ k, k ≤ l.length → tot (l ++ m) k = tot l k
  | 0, _ => rfl
  | k + 1, h => by rw [tot, tot, tot_app l m k (by omega), (st_app l m k (by omega)).1]
theorem fnd_app (l m : List Lp) (d : Int) : (fnd l d < l.length → fnd (l ++ m) d = fnd l d) ∧ (fnd l d = l.length → fnd (l ++ m) d = l.length + fnd m d) := by
  induction l with
  | nil => exact ⟨fun h => by simp [fnd] at h, fun _ => by simp⟩
  | cons x r ih =>
    rw [List.cons_append]
    by_cases h : x.1 < d
    · have e1 : fnd (x :: r) d = fnd r d + 1 := by rw [fnd, if_pos h]
      have e2 : fnd (x :: (r ++ m)) d = fnd (r ++ m) d + 1 := by rw [fnd, if_pos h]
      rw [e1, e2, List.length_cons]
      exact ⟨fun g => by rw [ih.1 (by omega)], fun g => by rw [ih.2 (by omega)]; omega⟩
    · have e1 : fnd (x :: r) d = 0 := by rw [fnd, if_neg h]
      have e2 : fnd (x :: (r ++ m)) d = 0 := by rw [fnd, if_neg h]
      rw [e1, e2, List.length_cons]
      exact ⟨fun _ => rfl, fun g => by omega⟩
theorem add_tot {l : List Lp} {z : Lp} (h : lm.Good (l ++ [z])) (d : Int) : tot (l ++ [z]) (fnd (l ++ [z]) d) = tot l (fnd l d) + (if z.1 < d then z.2.1 else 0) := by
  have hl : (l ++ [z]).length = l.length + 1 := by simp
  obtain ⟨f1, f2, f3⟩ := fnd_spec l d
  obtain ⟨a1, a2⟩ := fnd_app l [z] d
  by_cases hz : z.1 < d
  · have e : fnd l d = l.length := by
      rcases Nat.lt_or_ge (fnd l d) l.length with g | g
      · have u := f3 g
        have v := h.lt (i := l.length) (by omega) (fnd l d) g
        rw [(st_last l z).2, (st_app l [z] _ g).2] at v
        omega
      · omega
    rw [a2 e, if_pos hz]
    have : fnd [z] d = 1 := by simp [fnd, hz]
    rw [this, tot, tot_app l [z] l.length (Nat.le_refl _), (st_last l z).1, e]
  · rw [if_neg hz, Int.add_zero]
    have e : fnd (l ++ [z]) d = fnd l d := by
      rcases Nat.lt_or_ge (fnd l d) l.length with g | g
      · exact a1 g
      · have g2 : fnd l d = l.length := by omega
        have : fnd [z] d = 0 := by simp [fnd, hz]
        rw [a2 g2, this, g2]; rfl
    rw [e, tot_app l [z] _ f1]
/-- the cells of a leap's box. -/
theorem leap_cells {W : World} {g : Nat} {a b : Int} {r : Bool} (h : W.heap[g]? = some (.cells #[.int .i64 a, .int .i64 b, .bool r] 26)) :
    W.cell? ⟨g, 0, none⟩ = some (.int .i64 a) ∧ W.cell? ⟨g, 1, none⟩ = some (.int .i64 b) ∧ W.cell? ⟨g, 2, none⟩ = some (.bool r) := ⟨row_cell h 0, row_cell h 1, row_cell h 2⟩
theorem own_cells {W : World} {N : Nat} {l : List Lp} {a b : Int} {r : Bool} (h : Own W N (l ++ [(a, b, r)])) : W.cell? ⟨N, l.length * 3, none⟩ = some (.int .i64 a) ∧ W.cell? ⟨N, l.length * 3 + 1, none⟩ = some (.int .i64 b) ∧ W.cell? ⟨N, l.length * 3 + 2, none⟩ = some (.bool r) := by
  obtain ⟨b', o, e, _, hc⟩ := h.lps (by simp)
  cases e
  have := hc l.length (by simp)
  have e : (l ++ [(a, b, r)]).getD l.length z3 = (a, b, r) := by
    rw [List.getD_eq_getElem?_getD, List.getElem?_append_right (Nat.le_refl _)]
    simp
  unfold dy lm.st rl at this
  rw [e, Nat.zero_add] at this
  exact this
set_option maxHeartbeats 4000000 in
set_option maxRecDepth 100000 in
theorem walk (w : World) (l : List Lp) (A : Option Addr) (c : Nat) (has : Bool) (x : Int) (hl : Lps w A l) (hn : l.length ≤ 9223372036854775807) (hc : l.length ≤ c) (hx : -9223372036854775808 ≤ x ∧ x ≤ 9223372036854775807) (z : Lp) (d : Int) (hd : -9223372036854775808 ≤ d ∧ d ≤ 9223372036854775807) (T : day.Tabs w) :
    Calls Tryd.prog 7 #[.agg #[.slice A l.length c, .bool has, .int .i64 x], .agg #[.int .i64 z.1, .int .i64 z.2.1, .bool z.2.2], .int .i64 d] w fun e w' => e = .returned (.bool true) ∧ Below w.heap.size w w' := by
  obtain ⟨z0, z1, z2⟩ := z
  have hw0 : Below w.heap.size w ((w.alloc (.cells #[.slice A l.length c, .bool has, .int .i64 x] 24)).alloc (.cells #[.int .i64 z0, .int .i64 z1, .bool z2] 26)) := bal (bal (Below.refl _ _) _) _
  have box : ((w.alloc (.cells #[.slice A l.length c, .bool has, .int .i64 x] 24)).alloc (.cells #[.int .i64 z0, .int .i64 z1, .bool z2] 26)).heap[w.heap.size]? = some (.cells (tcs A l.length c has x) 24) := hp_old (hp_new w _) _
  have boxL : ((w.alloc (.cells #[.slice A l.length c, .bool has, .int .i64 x] 24)).alloc (.cells #[.int .i64 z0, .int .i64 z1, .bool z2] 26)).heap[w.heap.size + 1]? = some (.cells #[.int .i64 z0, .int .i64 z1, .bool z2] 26) := hp_new1 w _ _
  have hl0 := hl.below hw0
  have T0 : day.Tabs _ := T.below hw0
  go_enter Tryd.func7, Tryd.ntmps7
  go_wp2_with fail
  generalize (w.alloc (.cells #[.slice A l.length c, .bool has, .int .i64 x] 24)).alloc (.cells #[.int .i64 z0, .int .i64 z1, .bool z2] 26) = W0 at *
  have HW := Lib.hid hw0
  clear hw0 hl T
  generalize hN : w.heap.size = N at *
  have hA : Below W0.heap.size W0 W0 := Below.refl _ _
  have SM : Hid (∀ W, Below W0.heap.size W0 W → Calls Tryd.prog 9 #[] W fun e w' => e = .returned (.bool true) ∧ Below W.heap.size W w') := fun W hb => small_at W (T0.below hb)
  have FE : Hid (∀ W, Below W0.heap.size W0 W → Calls Tryd.prog 10 #[.agg #[.slice A l.length c, .bool has, .int .i64 x]] W fun e w' => e = .returned (.bool (decide (l.length ≤ 300))) ∧ Below W.heap.size W w') := fun W hb => few_at A l.length c has x W hn
  have RI : Hid (∀ W, Below W0.heap.size W0 W → Calls Tryd.prog 13 #[.agg #[.slice A l.length c, .bool has, .int .i64 x]] W fun e w' => e = .returned (.bool (ce l has x == 0)) ∧ Below W.heap.size W w') := fun W hb => right_at l A c has x W (T0.below hb) (hl0.below hb) hn
  have TC := Lib.hid (fun W (hb : Below W0.heap.size W0 W) => tcs_cells (kept box hb))
  have YL := Lib.hid (fun W (hb : Below W0.heap.size W0 W) => leap_cells (kept boxL hb))
  have EX : Hid (∀ W, Below W0.heap.size W0 W → Below w.heap.size w W) := fun W hb => by rw [hN]; exact HW.out.trans (hb.mono (by have := HW.out.size; rw [hN] at this; exact this))
  obtain ⟨c0, c1, c2⟩ := TC.out _ hA
  obtain ⟨y0, y1, y2⟩ := YL.out _ hA
  clear boxL
  by_cases g1 : l.length ≤ 300
  · rw [decide_eq_true g1] at FE
    by_cases g2 : ce l has x = 0
    · have hg := good_of g2
      have g2' : (ce l has x == 0) = true := by simpa using g2
      rw [g2'] at RI
      by_cases g3 : ce (l ++ [(z0, z1, z2)]) has x = 0
      · have hga := good_of g3
        have hla : (l ++ [(z0, z1, z2)]).length = l.length + 1 := by simp
        have enx : nx l (z0, z1, z2) has x = l ++ [(z0, z1, z2)] := by unfold nx; rw [if_pos g3]
        have AD : Hid (∀ W, Below W0.heap.size W0 W → Calls Tryd.prog 18 #[.agg #[.slice A l.length c, .bool has, .int .i64 x], .agg #[.int .i64 z0, .int .i64 z1, .bool z2]] W fun e w' => ∃ N' c', e = .returned (.tuple #[.agg #[.slice (some ⟨N', 0, none⟩) (l.length + 1) c', .bool has, .int .i64 x], .int .i64 0]) ∧ l.length + 1 ≤ c' ∧ Own w' N' (l ++ [(z0, z1, z2)]) ∧ Below W.heap.size W w') := fun W hb => by
          refine (add_at l (z0, z1, z2) A c has x W (T0.below hb) (hl0.below hb) (by omega) hc).mono ?_
          rintro e w' ⟨N', c', _, he, hcp, ho, hb'⟩
          rw [enx, hla, g3] at he
          rw [enx, hla] at hcp
          rw [enx] at ho
          exact ⟨N', c', he, hcp, ho, hb'⟩
        have RU : Hid (∀ N' c', ∀ W, (Below W0.heap.size W0 W ∧ Own W N' (l ++ [(z0, z1, z2)])) → Calls Tryd.prog 13 #[.agg #[.slice (some ⟨N', 0, none⟩) (l.length + 1) c', .bool has, .int .i64 x]] W fun e w' => e = .returned (.bool true) ∧ Below W.heap.size W w') := fun N' c' W hb => by
          have := right_at (l ++ [(z0, z1, z2)]) (some ⟨N', 0, none⟩) c' has x W (T0.below hb.1) hb.2.lps (by omega)
          rw [g3, hla] at this
          exact this
        have SU : Hid (∀ N' c', ∀ W, (Below W0.heap.size W0 W ∧ Own W N' (l ++ [(z0, z1, z2)])) → Calls Tryd.prog 24 #[.agg #[.slice (some ⟨N', 0, none⟩) (l.length + 1) c', .bool has, .int .i64 x], .int .i64 z0] W fun e w' => e = .returned (.int .i64 z1) ∧ Below W.heap.size W w') := fun N' c' W hb => by
          have := step_at (l ++ [(z0, z1, z2)]) (some ⟨N', 0, none⟩) c' has x z0 W hb.2.lps hga
          have e := (stp_at hga (i := l.length) (by omega)).2
          rw [(st_last l (z0, z1, z2)).1, (st_last l (z0, z1, z2)).2] at e
          rw [e, hla] at this
          exact this
        have TT : Hid (∀ W, Below W0.heap.size W0 W → Calls Tryd.prog 22 #[.agg #[.slice A l.length c, .bool has, .int .i64 x], .int .i64 d] W fun e w' => e = .returned (.int .i64 (tot l (fnd l d))) ∧ Below W.heap.size W w') := fun W hb => total_at l A c has x d W (hl0.below hb) hg hc
        have TU : Hid (∀ M, M = (if z0 < d then z1 else 0) → ∀ N' c', l.length + 1 ≤ c' → ∀ W, (Below W0.heap.size W0 W ∧ Own W N' (l ++ [(z0, z1, z2)])) → Calls Tryd.prog 22 #[.agg #[.slice (some ⟨N', 0, none⟩) (l.length + 1) c', .bool has, .int .i64 x], .int .i64 d] W fun e w' => e = .returned (.int .i64 (tot l (fnd l d) + M)) ∧ Below W.heap.size W w') := fun M hM N' c' h2 W hb => by
          have := total_at (l ++ [(z0, z1, z2)]) (some ⟨N', 0, none⟩) c' has x d W hb.2.lps hga (by omega)
          have e := add_tot hga d
          rw [← hM] at e
          rw [e, hla] at this
          exact this
        have bd := tot_bd hg (fnd l d) (fnd_le l d)
        have fl := fnd_le l d
        have s12 : z1 = 1 ∨ z1 = -1 := by have := hga.step (i := l.length) (by omega); rw [(st_last l (z0, z1, z2)).1] at this; exact this
        have OC := Lib.hid (fun (W : World) N' (h : Own W N' (l ++ [(z0, z1, z2)])) => own_cells h)
        have q : ∀ W, (Op.equalIn 10000 26 (.agg #[.int .i64 z0, .int .i64 z1, .bool z2]) (.agg #[.int .i64 z0, .int .i64 z1, .bool z2])).run Tryd.prog W = .ok true W := fun W => by have := eqL z0 z1 z0 z1 z2 z2 W; rw [decide_eq_true rfl] at this; exact this
        clear T0 hl0 box hg g2 g2' hga hla enx
        generalize tot l (fnd l d) = S at *
        generalize fnd l d = f at *
        generalize hL : l ++ [(z0, z1, z2)] = L at *
        clear hL
        have v1 : IntKind.i64.wrap (S + z1) = S + z1 := IntWalk.i64_in _ (by omega)
        have v2 : IntKind.i64.wrap S = S := IntWalk.i64_in _ (by omega)
        have v3 : IntKind.i64.wrap ((l.length : Int) + 1) = (l.length : Int) + 1 := IntWalk.i64_in _ (by omega)
        generalize l.length = n at *
        generalize hM : n + 1 = M at *
        have hlt : n < M := by omega
        have vl : ((M : Int) == (n : Int) + 1) = true := by rw [beq_iff_eq]; omega
        by_cases hz : z0 < d
        · have t1 : decide (z0 < d) = true := by simpa using hz
          have TV := Lib.hid (TU.out z1 (by rw [if_pos hz]))
          clear TU hz
          go_wp2_with (first
            | (go_at_call 9; with_reducible refine (SM.out _ hA).mono ?_; rintro e w1 ⟨rfl, hb1⟩; have hA := btr hA hb1; clear c0 c1 c2 y0 y1 y2; obtain ⟨c0, c1, c2⟩ := TC.out _ hA; obtain ⟨y0, y1, y2⟩ := YL.out _ hA)
            | (go_at_call 10; with_reducible refine (FE.out _ hA).mono ?_; rintro e w1 ⟨rfl, hb1⟩; have hA := btr hA hb1; clear c0 c1 c2 y0 y1 y2; obtain ⟨c0, c1, c2⟩ := TC.out _ hA; obtain ⟨y0, y1, y2⟩ := YL.out _ hA)
            | (go_at_call 13; with_reducible refine (RI.out _ hA).mono ?_; rintro e w1 ⟨rfl, hb1⟩; have hA := btr hA hb1; clear c0 c1 c2 y0 y1 y2; obtain ⟨c0, c1, c2⟩ := TC.out _ hA; obtain ⟨y0, y1, y2⟩ := YL.out _ hA)
            | (go_at_call 18; with_reducible refine (AD.out _ hA).mono ?_; rintro e w1 ⟨N', c', rfl, hcap, hown, hb1⟩; have hu : (w1.alloc (.cells #[.slice (some ⟨N', 0, none⟩) M c', .bool has, .int .i64 x] 24)).heap[w1.heap.size]? = some (.cells (tcs (some ⟨N', 0, none⟩) M c' has x) 24) := hp_new w1 _; have hown := hown.kept (bal (Below.refl _ _) (.cells #[.slice (some ⟨N', 0, none⟩) M c', .bool has, .int .i64 x] 24)); have hA := bal (btr hA hb1) (.cells #[.slice (some ⟨N', 0, none⟩) M c', .bool has, .int .i64 x] 24); clear c0 c1 c2; obtain ⟨c0, c1, c2⟩ := TC.out _ hA; obtain ⟨y0, y1, y2⟩ := YL.out _ hA; obtain ⟨u0, u1, u2⟩ := tcs_cells hu))
          have cq0 := fun d' os => cell_regrown c0 d' os
          have cq1 := fun d' os => cell_regrown c1 d' os
          have cq2 := fun d' os => cell_regrown c2 d' os
          have uq0 := fun d' os => cell_regrown u0 d' os
          have uq1 := fun d' os => cell_regrown u1 d' os
          have uq2 := fun d' os => cell_regrown u2 d' os
          have yq0 := fun d' os => cell_regrown y0 d' os
          have yq1 := fun d' os => cell_regrown y1 d' os
          have yq2 := fun d' os => cell_regrown y2 d' os
          obtain ⟨r0, r1, r2⟩ := OC.out _ _ hown
          have rq0 := fun d' os => cell_regrown r0 d' os
          have rq1 := fun d' os => cell_regrown r1 d' os
          have rq2 := fun d' os => cell_regrown r2 d' os
          have X1 := Lib.hid (fun d' os => below_at (T := fun W => Below W0.heap.size W0 W ∧ Own W N' L) (RU.out N' c') (fun W hb => ⟨btr hA hb, hown.kept hb⟩) d' os)
          have X2 := Lib.hid (fun d' os => below_at (T := fun W => Below W0.heap.size W0 W ∧ Own W N' L) (TV.out N' c' hcap) (fun W hb => ⟨btr hA hb, hown.kept hb⟩) d' os)
          have X3 := Lib.hid (fun d' os => below_at (T := fun W => Below W0.heap.size W0 W) TT.out (fun W hb => btr hA hb) d' os)
          have X4 := Lib.hid (fun d' os => below_at (T := fun W => Below W0.heap.size W0 W ∧ Own W N' L) (SU.out N' c') (fun W hb => ⟨btr hA hb, hown.kept hb⟩) d' os)
          clear u0 u1 u2 y0 y1 y2 r0 r1 r2 hu
          generalize w1.alloc (.cells #[.slice (some ⟨N', 0, none⟩) M c', .bool has, .int .i64 x] 24) = W6 at *
          refine wp_region_quiet_below (by kernel_rfl) (by kernel_rfl) ?_
          repeat (quiet_step (first
            | (go_at_call 13; with_reducible exact X1.out _ _)
            | (go_at_call 22; first | with_reducible exact X2.out _ _ | with_reducible exact X3.out _ _)
            | (go_at_call 24; with_reducible exact X4.out _ _)))
          refine wpQuiet_nil ?_
          intro _ hw'
          obtain ⟨⟨dq, osq⟩, hw''⟩ := hw'
          subst hw''
          have hA := btr hA (below_regrown _ dq osq)
          generalize Sort.grow (redrawn W6 dq) osq = W7 at *
          go_wp2
          go_ret
          exact ⟨ret_bool (by first | rfl | simp), EX.out _ hA⟩
        · have t1 : decide (z0 < d) = false := by simpa using hz
          have TV0 := TU.out 0 (by rw [if_neg hz])
          simp only [Int.add_zero] at TV0
          have TV := Lib.hid TV0
          clear TV0
          clear TU hz
          go_wp2_with (first
            | (go_at_call 9; with_reducible refine (SM.out _ hA).mono ?_; rintro e w1 ⟨rfl, hb1⟩; have hA := btr hA hb1; clear c0 c1 c2 y0 y1 y2; obtain ⟨c0, c1, c2⟩ := TC.out _ hA; obtain ⟨y0, y1, y2⟩ := YL.out _ hA)
            | (go_at_call 10; with_reducible refine (FE.out _ hA).mono ?_; rintro e w1 ⟨rfl, hb1⟩; have hA := btr hA hb1; clear c0 c1 c2 y0 y1 y2; obtain ⟨c0, c1, c2⟩ := TC.out _ hA; obtain ⟨y0, y1, y2⟩ := YL.out _ hA)
            | (go_at_call 13; with_reducible refine (RI.out _ hA).mono ?_; rintro e w1 ⟨rfl, hb1⟩; have hA := btr hA hb1; clear c0 c1 c2 y0 y1 y2; obtain ⟨c0, c1, c2⟩ := TC.out _ hA; obtain ⟨y0, y1, y2⟩ := YL.out _ hA)
            | (go_at_call 18; with_reducible refine (AD.out _ hA).mono ?_; rintro e w1 ⟨N', c', rfl, hcap, hown, hb1⟩; have hu : (w1.alloc (.cells #[.slice (some ⟨N', 0, none⟩) M c', .bool has, .int .i64 x] 24)).heap[w1.heap.size]? = some (.cells (tcs (some ⟨N', 0, none⟩) M c' has x) 24) := hp_new w1 _; have hown := hown.kept (bal (Below.refl _ _) (.cells #[.slice (some ⟨N', 0, none⟩) M c', .bool has, .int .i64 x] 24)); have hA := bal (btr hA hb1) (.cells #[.slice (some ⟨N', 0, none⟩) M c', .bool has, .int .i64 x] 24); clear c0 c1 c2; obtain ⟨c0, c1, c2⟩ := TC.out _ hA; obtain ⟨y0, y1, y2⟩ := YL.out _ hA; obtain ⟨u0, u1, u2⟩ := tcs_cells hu))
          have cq0 := fun d' os => cell_regrown c0 d' os
          have cq1 := fun d' os => cell_regrown c1 d' os
          have cq2 := fun d' os => cell_regrown c2 d' os
          have uq0 := fun d' os => cell_regrown u0 d' os
          have uq1 := fun d' os => cell_regrown u1 d' os
          have uq2 := fun d' os => cell_regrown u2 d' os
          have yq0 := fun d' os => cell_regrown y0 d' os
          have yq1 := fun d' os => cell_regrown y1 d' os
          have yq2 := fun d' os => cell_regrown y2 d' os
          obtain ⟨r0, r1, r2⟩ := OC.out _ _ hown
          have rq0 := fun d' os => cell_regrown r0 d' os
          have rq1 := fun d' os => cell_regrown r1 d' os
          have rq2 := fun d' os => cell_regrown r2 d' os
          have X1 := Lib.hid (fun d' os => below_at (T := fun W => Below W0.heap.size W0 W ∧ Own W N' L) (RU.out N' c') (fun W hb => ⟨btr hA hb, hown.kept hb⟩) d' os)
          have X2 := Lib.hid (fun d' os => below_at (T := fun W => Below W0.heap.size W0 W ∧ Own W N' L) (TV.out N' c' hcap) (fun W hb => ⟨btr hA hb, hown.kept hb⟩) d' os)
          have X3 := Lib.hid (fun d' os => below_at (T := fun W => Below W0.heap.size W0 W) TT.out (fun W hb => btr hA hb) d' os)
          have X4 := Lib.hid (fun d' os => below_at (T := fun W => Below W0.heap.size W0 W ∧ Own W N' L) (SU.out N' c') (fun W hb => ⟨btr hA hb, hown.kept hb⟩) d' os)
          clear u0 u1 u2 y0 y1 y2 r0 r1 r2 hu
          generalize w1.alloc (.cells #[.slice (some ⟨N', 0, none⟩) M c', .bool has, .int .i64 x] 24) = W6 at *
          refine wp_region_quiet_below (by kernel_rfl) (by kernel_rfl) ?_
          repeat (quiet_step (first
            | (go_at_call 13; with_reducible exact X1.out _ _)
            | (go_at_call 22; first | with_reducible exact X2.out _ _ | with_reducible exact X3.out _ _)
            | (go_at_call 24; with_reducible exact X4.out _ _)))
          refine wpQuiet_nil ?_
          intro _ hw'
          obtain ⟨⟨dq, osq⟩, hw''⟩ := hw'
          subst hw''
          have hA := btr hA (below_regrown _ dq osq)
          generalize Sort.grow (redrawn W6 dq) osq = W7 at *
          go_wp2
          go_ret
          exact ⟨ret_bool (by first | rfl | simp), EX.out _ hA⟩
      · have enx : nx l (z0, z1, z2) has x = l := by unfold nx; rw [if_neg g3]
        have AD : Hid (∀ W, Below W0.heap.size W0 W → Calls Tryd.prog 18 #[.agg #[.slice A l.length c, .bool has, .int .i64 x], .agg #[.int .i64 z0, .int .i64 z1, .bool z2]] W fun e w' => ∃ N' c', e = .returned (.tuple #[.agg #[.slice (some ⟨N', 0, none⟩) l.length c', .bool has, .int .i64 x], .int .i64 (ce (l ++ [(z0, z1, z2)]) has x)]) ∧ l.length ≤ c' ∧ Own w' N' l ∧ Below W.heap.size W w') := fun W hb => by
          refine (add_at l (z0, z1, z2) A c has x W (T0.below hb) (hl0.below hb) (by omega) hc).mono ?_
          rintro e w' ⟨N', c', _, he, hcp, ho, hb'⟩
          rw [enx] at he hcp ho
          exact ⟨N', c', he, hcp, ho, hb'⟩
        have SA : Hid (∀ W, Below W0.heap.size W0 W → ∀ N' c', Own W N' l → Calls Tryd.prog 15 #[.agg #[.slice (some ⟨N', 0, none⟩) l.length c', .bool has, .int .i64 x], .agg #[.slice A l.length c, .bool has, .int .i64 x]] W fun e w' => e = .returned (.bool true) ∧ Below W.heap.size W w') := fun W hb N' c' ho => by
          have := same_at l l (some ⟨N', 0, none⟩) A c' c has has x x W ho.lps (hl0.below hb) hn hn
          rw [sm_same] at this
          exact this
        have t1 : (ce (l ++ [(z0, z1, z2)]) has x != 0) = true := by simpa using g3
        clear T0 hl0 box hg g2 g2' enx g3
        generalize ce (l ++ [(z0, z1, z2)]) has x = E at *
        generalize l.length = n at *
        go_wp2_with (first
          | (go_at_call 9; with_reducible refine (SM.out _ hA).mono ?_; rintro e w1 ⟨rfl, hb1⟩; have hA := btr hA hb1; clear c0 c1 c2 y0 y1 y2; obtain ⟨c0, c1, c2⟩ := TC.out _ hA; obtain ⟨y0, y1, y2⟩ := YL.out _ hA)
          | (go_at_call 10; with_reducible refine (FE.out _ hA).mono ?_; rintro e w1 ⟨rfl, hb1⟩; have hA := btr hA hb1; clear c0 c1 c2 y0 y1 y2; obtain ⟨c0, c1, c2⟩ := TC.out _ hA; obtain ⟨y0, y1, y2⟩ := YL.out _ hA)
          | (go_at_call 13; with_reducible refine (RI.out _ hA).mono ?_; rintro e w1 ⟨rfl, hb1⟩; have hA := btr hA hb1; clear c0 c1 c2 y0 y1 y2; obtain ⟨c0, c1, c2⟩ := TC.out _ hA; obtain ⟨y0, y1, y2⟩ := YL.out _ hA)
          | (go_at_call 18; with_reducible refine (AD.out _ hA).mono ?_; rintro e w1 ⟨N', c', rfl, hcap, hown, hb1⟩; have hu : (w1.alloc (.cells #[.slice (some ⟨N', 0, none⟩) n c', .bool has, .int .i64 x] 24)).heap[w1.heap.size]? = some (.cells (tcs (some ⟨N', 0, none⟩) n c' has x) 24) := hp_new w1 _; have hown := hown.kept (bal (Below.refl _ _) (.cells #[.slice (some ⟨N', 0, none⟩) n c', .bool has, .int .i64 x] 24)); have hA := bal (btr hA hb1) (.cells #[.slice (some ⟨N', 0, none⟩) n c', .bool has, .int .i64 x] 24); clear c0 c1 c2; obtain ⟨c0, c1, c2⟩ := TC.out _ hA; obtain ⟨y0, y1, y2⟩ := YL.out _ hA; obtain ⟨u0, u1, u2⟩ := tcs_cells hu)
          | (go_at_call 15; with_reducible refine (SA.out _ hA _ _ hown).mono ?_; rintro e w1 ⟨rfl, hb1⟩; have hA := btr hA hb1))
        go_ret
        exact ⟨rfl, EX.out _ hA⟩
    · have g2' : (ce l has x == 0) = false := by simpa using g2
      rw [g2'] at RI
      clear T0 hl0 box g2 g2'
      generalize l.length = n at *
      go_wp2_with (first
        | (go_at_call 9; (with_reducible refine (SM.out _ hA).mono ?_; rintro e w1 ⟨rfl, hb1⟩; have hA := btr hA hb1; clear c0 c1 c2; obtain ⟨c0, c1, c2⟩ := TC.out _ hA; (try have y0 := YC.out _ hA); (try obtain ⟨y0, y1, y2⟩ := YL.out _ hA)))
        | (go_at_call 10; (with_reducible refine (FE.out _ hA).mono ?_; rintro e w1 ⟨rfl, hb1⟩; have hA := btr hA hb1; clear c0 c1 c2; obtain ⟨c0, c1, c2⟩ := TC.out _ hA; (try have y0 := YC.out _ hA); (try obtain ⟨y0, y1, y2⟩ := YL.out _ hA)))
        | (go_at_call 13; (with_reducible refine (RI.out _ hA).mono ?_; rintro e w1 ⟨rfl, hb1⟩; have hA := btr hA hb1; clear c0 c1 c2; obtain ⟨c0, c1, c2⟩ := TC.out _ hA; (try have y0 := YC.out _ hA); (try obtain ⟨y0, y1, y2⟩ := YL.out _ hA))))
      go_ret
      exact ⟨rfl, EX.out _ hA⟩
  · rw [decide_eq_false g1] at FE
    clear T0 hl0 box RI g1
    generalize l.length = n at *
    go_wp2_with (first
      | (go_at_call 9; (with_reducible refine (SM.out _ hA).mono ?_; rintro e w1 ⟨rfl, hb1⟩; have hA := btr hA hb1; clear c0 c1 c2; obtain ⟨c0, c1, c2⟩ := TC.out _ hA; (try have y0 := YC.out _ hA); (try obtain ⟨y0, y1, y2⟩ := YL.out _ hA)))
      | (go_at_call 10; (with_reducible refine (FE.out _ hA).mono ?_; rintro e w1 ⟨rfl, hb1⟩; have hA := btr hA hb1; clear c0 c1 c2; obtain ⟨c0, c1, c2⟩ := TC.out _ hA; (try have y0 := YC.out _ hA); (try obtain ⟨y0, y1, y2⟩ := YL.out _ hA))))
    go_ret
    exact ⟨rfl, EX.out _ hA⟩
theorem door_met (os : Os) (args : Array Value) : laidMetH Tryd.prog Rows.leapAddsRow.laid ((World.doorLaid Tryd.prog 400 os).forCall (fun _ _ => 0) ⟨#[], args, []⟩).memory :=
  laidMetH_of_parts3 (fuel := 8) (laidMet_of_run' 8 (by kernel_rfl) (by kernel_rfl)) (by kernel_rfl) (by kernel_rfl)
set_option maxRecDepth 100000 in
theorem lifted (os : Os) (started : os.Started) (H : Type) (enc : TypeId × Value → H) :
    ReturnsInHanded {} Tryd.checked os 7 .any (fun w args => (Rows.leapAddsSpec.pre enc Tryd.prog Tryd.f7 [] false w args ∧ laidMetH Tryd.prog Rows.leapAddsRow.laid w) ∧ sizedMet enc Tryd.prog Tryd.f7 (OpenSpec.ofChange Rows.leapAddsSpec) false w args)
      (Rows.leapAddsSpec.post enc Tryd.prog Tryd.f7 false true false false) := by
  refine returnsInHanded_of_change_and (C := Tryd.checked) (X := fun w _ => laidMetH Tryd.prog Rows.leapAddsRow.laid w) (fun _ _ _ hh h => h.of_heap hh) law.own started (by kernel_rfl) Tryd.func7
    (ChangeSpec.witness_shaped (enc := enc) (C := Tryd.checked) (os := os) (X := fun w _ => laidMetH Tryd.prog Rows.leapAddsRow.laid w) false (World.doorLaid Tryd.prog 400 os) #[.agg #[.slice none 0 0, .bool false, .int .i64 0], .agg #[.int .i64 0, .int .i64 0, .bool false], .int .i64 0] 8 rfl (World.shaped_of_RefB (by kernel_rfl) (by kernel_rfl)) (by kernel_rfl) (by kernel_rfl) (by kernel_rfl) (door_met os _)) ?_
  intro W base args ds gs before hval0 hW _ _ hL _
  rw [MakeChecks.laidMetH_plain _ _ _ (by kernel_rfl)] at hL
  have T0 := day.tabs_of hL (by repeat first | exact List.Mem.head _ | refine List.Mem.tail _ ?_) (by repeat first | exact List.Mem.head _ | refine List.Mem.tail _ ?_)
  have hval : ∀ (j : Nat) t v, Tryd.f7.params[j]? = some t → args[j]? = some v → Value.okWide Tryd.prog W .any base t v := hval0
  have hW' := hW
  obtain ⟨p, q, hA0, hV, rfl, hfz, hnd⟩ := hW
  have hA : DataW.TrodAll enc Tryd.prog W 0 (fun _ => true) true Tryd.f7.params.toList args.toList ds p := hA0
  rw [Tryd.params7] at hA hval
  obtain ⟨v0, vs0, d0, ds0, p0, q0, hargs, rfl, rfl, h0, r0⟩ := trodAll_cons hA
  obtain ⟨v1, vs1, d1, ds1, p1, q1, rfl, rfl, rfl, h1, r1⟩ := trodAll_cons r0
  obtain ⟨v2, vs2, d2, ds2, p2, q2, rfl, rfl, rfl, h2, r2⟩ := trodAll_cons r1
  obtain ⟨rfl, rfl, rfl⟩ := trodAll_nil r2
  obtain rfl : args = #[v0, v1, v2] := by cases args; simp_all
  obtain ⟨rfl, rfl⟩ := trodVars_none hV
  clear hA0 hval0
  obtain ⟨A0_, k0_, l0_, b0_, x0_, rfl, q0_, n0_, m0_, w0_⟩ := leap.open_table (hval 0 24 v0 rfl rfl) h0
  obtain ⟨z1_, rfl⟩ := leap.open_leap (hval 1 26 v1 rfl rfl) h1
  obtain ⟨a2, rfl, hd2, hp2, w2⟩ := open_int Tryd.underlying3 (hval 2 3 v2 rfl rfl) h2
  refine (Calls.mono (R := fun e w' => e = .returned (.bool true) ∧ Below W.heap.size W w') ?_ fun e W' ⟨he, hb⟩ => ?_)
  · exact walk W l0_ A0_ k0_ b0_ x0_ q0_ n0_ m0_ w0_ z1_ a2 (bounds_i64 w2) T0
  · subst he
    exact ⟨_, rfl, law.post law.laidOut (by kernel_rfl) rfl rfl Tryd.underlying4 rfl hW' hb⟩

theorem over : Rows.leapAddsRow.holds Tryd.pinned (OpenSpec.ofChange Rows.leapAddsSpec) :=
  OpenClaim.holds_of_wide 7 Tryd.f7 rfl rfl rfl rfl rfl rfl rfl ⟨rfl, rfl, rfl, rfl, rfl⟩ rfl rfl rfl rfl rfl (by kernel_rfl) Tryd.func7 (by kernel_rfl)
    (of_decide_eq_true (by kernel_rfl)) (by unfold Func.isWrapper; first | (rw [if_pos (by decide +kernel)]; kernel_rfl) | (rw [if_neg (by decide +kernel)]; exact ⟨rfl, rfl⟩))
    (fun os started H enc _ => lifted os started H enc)

theorem proved : Rows.LeapAddsCardSaid :=
  Claim7.holds_tied_plain_at .later [] _ _ _ _ over (fun _ h => by cases h) (by kernel_rfl) (fun _ h => by cases h) leapAdds_row_tie rfl ⟨rfl, rfl⟩ (by kernel_rfl) rfl
    (fun f fn hf hfn => by
      obtain rfl : f = 7 := Option.some.inj ((show Tryd.prog.funcNamed "epact/epactlaw09.LeapAdds" = some 7 by kernel_rfl).symm.trans hf) |>.symm
      obtain rfl : fn = Tryd.f7 := (Option.some.inj (Tryd.func7.symm.trans hfn)).symm
      exact ⟨by kernel_rfl, fun j t ht => by
        have hall : (Tryd.f7.params.toList.all fun u => !Tryd.prog.wantsStandIn u) = true := by kernel_rfl
        have hm : t ∈ Tryd.f7.params.toList := by rw [Array.mem_toList_iff]; exact Array.mem_of_getElem? ht
        exact (show Tryd.prog.wantsStandIn t = false by simpa using List.all_eq_true.1 hall t hm)⟩)
    (by kernel_rfl)
end Go.Proofs.YtefnlnehdogiaaaDoor.leapAdds
