/-
  What fault's First and the document's own answer: the first fault of a row. Conditions: the slice reads as the row.
-/
import Derived.Test.YtbofjkneflobeaaDoorFaultMath
import Derived.Test.YtbofjkneflobeaaDoorMem
import Derived.WalkSmall
namespace Go.Proofs.YtbofjkneflobeaaDoor.fault
open Go.ChangeShapes Go.WideShapes Go.ChangeAt Go.RowKit
open fx mem
set_option linter.unusedVariables false

/-- a slice that reads as a row of faults. -/
def Flts (w : World) (A : Option Addr) (l : List Flt) : Prop :=
  l ≠ [] → ∃ b o, A = some ⟨b, o, none⟩ ∧ b < w.heap.size ∧ ∀ k (h : k < l.length), w.cell? ⟨b, o + k * 2, none⟩ = some (.int .i64 l[k].1) ∧ w.cell? ⟨b, o + k * 2 + 1, none⟩ = some (.int .i64 l[k].2)
theorem Flts.below {w W : World} {A : Option Addr} {l : List Flt} (h : Flts w A l) (hb : Below w.heap.size w W) : Flts W A l := by
  intro hl
  obtain ⟨b, o, e, hlt, hc⟩ := h hl
  exact ⟨b, o, e, Nat.lt_of_lt_of_le hlt hb.size, fun k hk => ⟨(hb.cell (p := ⟨b, o + k * 2, none⟩) hlt).trans (hc k hk).1, (hb.cell (p := ⟨b, o + k * 2 + 1, none⟩) hlt).trans (hc k hk).2⟩⟩
theorem szF : (Tryd.prog.info? 24).map (·.size) = some 2 := by kernel_rfl
/-- the row of a variable that holds a fault. -/
def fc (f : Flt) : Array Value := #[.int .i64 f.1, .int .i64 f.2]
theorem fc_one (f : Flt) : (fc f).all (·.oneCell') = true := by simp [fc, Value.oneCell']
/-- at the head of a round. -/
def FHead (l : List Flt) (w : World) (i : Value) (W : World) : Prop :=
  ∃ k : Nat, k ≤ l.length ∧ i = .int .i64 (k : Nat) ∧ Below w.heap.size w W ∧ W.heap[w.heap.size]? = some (.cells (fc (0, 0)) 24) ∧ W.heap[w.heap.size + 1]? = some (.cells (fc (upto l k)) 24)
theorem fhead_start (l : List Flt) (w : World) : FHead l w (.int .i64 0) ((w.alloc (.cells (fc (0, 0)) 24)).alloc (.cells (fc (0, 0)) 24)) :=
  ⟨0, Nat.zero_le _, rfl, bal (bal (Below.refl _ _) _) _, hp_old (hp_new _ _) _, hp_new1 _ _ _⟩
set_option maxHeartbeats 1000000 in
theorem first_at (l : List Flt) (A : Option Addr) (c : Nat) (w : World) (h : Flts w A l) (hn : l.length ≤ 9223372036854775807) : Calls Tryd.prog 11 #[.slice A l.length c] w fun e w' => e = .returned (.agg (fc (first l))) ∧ Below w.heap.size w w' := by
  go_enter Tryd.func11, Tryd.ntmps11
  go_wp2
  go_loopw [8] (fun i W => FHead l w i W) (fun i _ => l.length - (intOf i).toNat)
  case atStart => exact fhead_start l w
  case round =>
    obtain ⟨k, hk, rfl, hb, H0, H1⟩ := hrel
    by_cases hlt : k < l.length
    · obtain ⟨b, o, rfl, hb0, hc⟩ := h.below hb (List.ne_nil_of_length_pos (by omega))
      obtain ⟨x0, x1⟩ := hc k hlt
      clear hc
      have y0 : ∀ ob, (wr.alloc ob).cell? ⟨w.heap.size + 1, 0, none⟩ = some (.int .i64 (upto l k).1) := fun ob => row_cell (hp_old H1 ob) 0
      have y1 : ∀ ob, (wr.alloc ob).cell? ⟨w.heap.size + 1, 1, none⟩ = some (.int .i64 (upto l k).2) := fun ob => row_cell (hp_old H1 ob) 1
      have R : Hid (∀ W', Below w.heap.size w W' → W'.heap[w.heap.size]? = some (.cells (fc (0, 0)) 24) → W'.heap[w.heap.size + 1]? = some (.cells (fc (pick (upto l k) l[k])) 24) → FHead l w (.int .i64 ((k : Int) + 1)) W') :=
        fun W' a b c => ⟨k + 1, by omega, rfl, a, b, by rw [upto_succ l k hlt]; exact c⟩
      have H0 := Lib.hid H0
      have H1 := Lib.hid H1
      clear h
      generalize l[k] = f at *
      generalize upto l k = g at *
      obtain ⟨f1, f2⟩ := f
      obtain ⟨g1, g2⟩ := g
      simp only at x0 x1 y0 y1
      by_cases hf : f2 = 0
      · have t : (f2 == 0) = true := by simpa using hf
        have R2 := Lib.hid (R.out (wr.alloc (.cells #[.int .i64 f1, .int .i64 f2] 24)) (bal hb _) (hp_old H0.out _) (by rw [pick_ok hf]; exact hp_old H1.out _))
        clear hf R
        go_wp2
        exact ⟨R2.out, by simp [intOf]; omega⟩
      · have t : (f2 == 0) = false := by simpa using hf
        have S : Hid (pick (g1, g2) (f1, f2) = (f1, f2) → FHead l w (.int .i64 ((k : Int) + 1)) ((wr.alloc (.cells #[.int .i64 f1, .int .i64 f2] 24)).setRow (w.heap.size + 1) #[.int .i64 f1, .int .i64 f2])) := fun e =>
          R.out _ (bel_setRow (bal hb _) (by omega) _) ((setRow_other _ _ _ _ (by omega)).trans (hp_old H0.out _)) (by rw [e]; exact setRow_heap _ _ _ _ _ _ (hp_old H1.out _))
        have N : Hid (pick (g1, g2) (f1, f2) = (g1, g2) → FHead l w (.int .i64 ((k : Int) + 1)) (wr.alloc (.cells #[.int .i64 f1, .int .i64 f2] 24))) := fun e =>
          R.out _ (bal hb _) (hp_old H0.out _) (by rw [e]; exact hp_old H1.out _)
        clear R
        by_cases hg : g2 = 0
        · have u : (g2 == 0) = true := by simpa using hg
          have R2 := Lib.hid (S.out (pick_yes hf (Or.inl hg)))
          clear hf hg S N
          go_wp2_with (refine wpList_store_row rfl 24 (.tmp 3) (.tmp 25) rfl (w.heap.size + 1) (fc (f1, f2)) rfl rfl 24 _ (hp_old H1.out _) szF rfl (fc_one _) ?_)
          exact ⟨R2.out, by simp [intOf]; omega⟩
        · have u : (g2 == 0) = false := by simpa using hg
          by_cases hl : f1 < g1
          · have R2 := Lib.hid (S.out (pick_yes hf (Or.inr hl)))
            clear hf hg S N
            go_wp2_with (refine wpList_store_row rfl 24 (.tmp 3) (.tmp 25) rfl (w.heap.size + 1) (fc (f1, f2)) rfl rfl 24 _ (hp_old H1.out _) szF rfl (fc_one _) ?_)
            exact ⟨R2.out, by simp [intOf]; omega⟩
          · have R2 := Lib.hid (N.out (pick_no hg hl))
            clear hf hg S N
            go_wp2
            exact ⟨R2.out, by simp [intOf]; omega⟩
    · obtain rfl : k = l.length := by omega
      rw [upto_all] at H1
      have y0 : wr.cell? ⟨w.heap.size + 1, 0, none⟩ = some (.int .i64 (first l).1) := row_cell H1 0
      have y1 : wr.cell? ⟨w.heap.size + 1, 1, none⟩ = some (.int .i64 (first l).2) := row_cell H1 1
      have H0 := Lib.hid H0
      clear h H1 hk
      go_wp2_with (refine wpList_store_row rfl 24 (.tmp 2) (.tmp 27) rfl w.heap.size (fc (first l)) rfl rfl 24 _ H0.out szF rfl (fc_one _) ?_)
      exact end_row Tryd.results11 _ _ w.heap.size _ (fc (first l)) _ rfl (setRow_heap _ _ _ _ _ _ H0.out) Tryd.underlying24 szF rfl ⟨rfl, bel_setRow hb (Nat.le_refl _) _⟩
end Go.Proofs.YtbofjkneflobeaaDoor.fault
