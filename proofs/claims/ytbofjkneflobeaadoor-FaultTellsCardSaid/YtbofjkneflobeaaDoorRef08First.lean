/-
  What the document's own First of layer 8 answers: the first fault of a row. Conditions: the slice reads as the row.
-/
import Derived.Test.YtbofjkneflobeaaDoorFaultFirst
namespace Go.Proofs.YtbofjkneflobeaaDoor.ref08
open Go.ChangeShapes Go.WideShapes Go.ChangeAt Go.RowKit
open fx mem fault
set_option linter.unusedVariables false

set_option maxHeartbeats 1000000 in
theorem first_at (l : List Flt) (A : Option Addr) (c : Nat) (w : World) (h : Flts w A l) (hn : l.length ≤ 9223372036854775807) : Calls Tryd.prog 12 #[.slice A l.length c] w fun e w' => e = .returned (.agg (fc (first l))) ∧ Below w.heap.size w w' := by
  go_enter Tryd.func12, Tryd.ntmps12
  go_wp2
  go_loopw [4] (fun i W => FHead l w i W) (fun i _ => l.length - (intOf i).toNat)
  case atStart => exact fhead_start l w
  case round =>
    obtain ⟨k, hk, rfl, hb, H0, H1⟩ := hrel
    by_cases hlt : k < l.length
    · obtain ⟨b, o, rfl, hb0, hc⟩ := h.below hb (List.ne_nil_of_length_pos (by omega))
      obtain ⟨x0, x1⟩ := hc k hlt
      clear hc
      have y0 : wr.cell? ⟨w.heap.size + 1, 0, none⟩ = some (.int .i64 (upto l k).1) := row_cell H1 0
      have y1 : wr.cell? ⟨w.heap.size + 1, 1, none⟩ = some (.int .i64 (upto l k).2) := row_cell H1 1
      have R : Hid (∀ W', Below w.heap.size w W' → W'.heap[w.heap.size]? = some (.cells (fc (0, 0)) 24) → W'.heap[w.heap.size + 1]? = some (.cells (fc (pick (upto l k) l[k])) 24) → FHead l w (.int .i64 ((k : Int) + 1)) W') :=
        fun W' a b c => ⟨k + 1, by omega, rfl, a, b, by rw [upto_succ l k hlt]; exact c⟩
      have H0 := Lib.hid H0
      have H1 := Lib.hid H1
      clear h
      generalize l[k] = f at *
      generalize upto l k = g at *
      obtain ⟨f1, f2⟩ := f
      obtain ⟨g1, g2⟩ := g
      simp only at x0 x1 y0 y1
      have S : Hid (pick (g1, g2) (f1, f2) = (f1, f2) → ∀ n, FHead l w (.int .i64 ((k : Int) + 1)) ((wr.drewN n).setRow (w.heap.size + 1) (fc (f1, f2)))) := fun e n =>
        R.out _ (bel_setRow (bel_drewN hb n) (by omega) _) ((setRow_other _ _ _ _ (by omega)).trans H0.out) (by rw [e]; exact setRow_heap _ _ _ _ _ _ H1.out)
      have N : Hid (pick (g1, g2) (f1, f2) = (g1, g2) → ∀ n, FHead l w (.int .i64 ((k : Int) + 1)) (wr.drewN n)) := fun e n =>
        R.out _ (bel_drewN hb n) H0.out (by rw [e]; exact H1.out)
      clear R
      by_cases hf : f2 = 0
      · have t : (f2 != 0) = false := by simpa using hf
        have R2 := Lib.hid (N.out (pick_ok hf))
        clear hf S N
        go_wp2
        go_quiet (fail)
        go_wp2
        exact ⟨R2.out _, by simp [intOf]; omega⟩
      · have t : (f2 != 0) = true := by simpa using hf
        by_cases hg : g2 = 0
        · have u : (g2 == 0) = true := by simpa using hg
          have R2 := Lib.hid (S.out (pick_yes hf (Or.inl hg)))
          clear hf hg S N
          go_wp2
          go_quiet (fail)
          go_wp2_with (refine wpList_store_row rfl 24 (.tmp 3) (.tmp 35) rfl (w.heap.size + 1) (fc (f1, f2)) rfl rfl 24 _ H1.out szF rfl (fc_one _) ?_)
          exact ⟨R2.out _, by simp [intOf]; omega⟩
        · have u : (g2 == 0) = false := by simpa using hg
          by_cases hl : f1 < g1
          · have R2 := Lib.hid (S.out (pick_yes hf (Or.inr hl)))
            have v : decide (f1 < g1) = true := by simpa using hl
            clear hf hg S N
            go_wp2
            go_quiet (fail)
            go_wp2_with (refine wpList_store_row rfl 24 (.tmp 3) (.tmp 35) rfl (w.heap.size + 1) (fc (f1, f2)) rfl rfl 24 _ H1.out szF rfl (fc_one _) ?_)
            exact ⟨R2.out _, by simp [intOf]; omega⟩
          · have R2 := Lib.hid (N.out (pick_no hg hl))
            have v : decide (f1 < g1) = false := by simpa using hl
            clear hf hg S N
            go_wp2
            go_quiet (fail)
            go_wp2
            exact ⟨R2.out _, by simp [intOf]; omega⟩
    · obtain rfl : k = l.length := by omega
      rw [upto_all] at H1
      have y0 : wr.cell? ⟨w.heap.size + 1, 0, none⟩ = some (.int .i64 (first l).1) := row_cell H1 0
      have y1 : wr.cell? ⟨w.heap.size + 1, 1, none⟩ = some (.int .i64 (first l).2) := row_cell H1 1
      have H0 := Lib.hid H0
      clear h H1 hk
      go_wp2_with (refine wpList_store_row rfl 24 (.tmp 2) (.tmp 36) rfl w.heap.size (fc (first l)) rfl rfl 24 _ H0.out szF rfl (fc_one _) ?_)
      exact end_row Tryd.results12 _ _ w.heap.size _ (fc (first l)) _ rfl (setRow_heap _ _ _ _ _ _ H0.out) Tryd.underlying24 szF rfl ⟨rfl, bel_setRow hb (Nat.le_refl _) _⟩
end Go.Proofs.YtbofjkneflobeaaDoor.ref08
