/-
  What package head's functions answer, but for Decode: is a head right, its bytes, how many bytes follow. Conditions: numbers of 64 bits.
-/
import Derived.Test.YtkdmecpelfcbmaaHeadMath
import Derived.Test.YtkdmecpelfcbmaaOct
import Derived.Lib.BufferWrite
import Derived.Deep.QuietTactic
namespace Go.Proofs.Ytkdmecpelfcbmaa.head
open Go.ChangeShapes Go.WideShapes Go.ChangeAt Go.RowKit
open om mem oct hd
set_option linter.unusedVariables false
set_option maxRecDepth 100000

set_option maxHeartbeats 1000000 in
theorem from_at (a n b : Int) (w : World) : Calls Try.prog 42 #[.int .i64 a, .int .i64 n, .int .i64 b] w fun e w' => e = .returned (.bool (fromB a n b)) ∧ w = w' := by
  unfold fromB
  by_cases h : a ≤ n
  · rw [decide_eq_true h]
    go_enter Try.func42, Try.ntmps42
    go_wp2
    go_ret
    exact ⟨by first | rfl | simp, rfl⟩
  · rw [decide_eq_false h]
    go_enter Try.func42, Try.ntmps42
    go_wp2
    go_ret
    exact ⟨by first | rfl | simp, rfl⟩
set_option maxHeartbeats 1000000 in
theorem none_at (n a : Int) (w : World) : Calls Try.prog 43 #[.int .i64 n, .int .i64 a] w fun e w' => e = .returned (.bool (noneB n a)) ∧ w = w' := by
  unfold noneB
  by_cases h : n = 0
  · subst h
    go_enter Try.func43, Try.ntmps43
    go_wp2
    go_ret
    exact ⟨by first | rfl | simp, rfl⟩
  · have t : (n == 0) = false := by simpa using h
    rw [t]
    clear h
    go_enter Try.func43, Try.ntmps43
    go_wp2
    go_ret
    exact ⟨by first | rfl | simp, rfl⟩
set_option maxHeartbeats 4000000 in
theorem right_at (h : Hd) (w : World) : Calls Try.prog 18 #[(.agg #[.int .i64 h.v, .int .i64 h.ut, .int .i64 h.sd, .int .i64 h.lp, .int .i64 h.tm, .int .i64 h.ty, .int .i64 h.ch])] w fun e w' => e = .returned (.bool (okB h)) ∧ Below w.heap.size w w' := by
  have C1 := Lib.hid (fun w => from_at 1 h.v 4 w)
  have C2 := Lib.hid (fun w => none_at h.ut h.ty w)
  have C3 := Lib.hid (fun w => none_at h.sd h.ty w)
  have C4 := Lib.hid (fun w => from_at 0 h.lp 201 w)
  have C5 := Lib.hid (fun w => from_at 0 h.tm 2000 w)
  have C6 := Lib.hid (fun w => from_at 1 h.ty 64 w)
  have C7 := Lib.hid (fun w => from_at 1 h.ch 256 w)
  unfold okB
  generalize fromB 1 h.v 4 = b1 at *
  generalize noneB h.ut h.ty = b2 at *
  generalize noneB h.sd h.ty = b3 at *
  generalize fromB 0 h.lp 201 = b4 at *
  generalize fromB 0 h.tm 2000 = b5 at *
  generalize fromB 1 h.ty 64 = b6 at *
  generalize fromB 1 h.ch 256 = b7 at *
  obtain ⟨v, ut, sd, lp, tm, ty, ch⟩ := h
  simp only at C1 C2 C3 C4 C5 C6 C7 ⊢
  cases b1
  rotate_left
  cases b2
  rotate_left
  cases b3
  rotate_left
  cases b4
  rotate_left
  cases b5
  rotate_left
  cases b6
  rotate_left
  cases b7
  all_goals
    go_enter Try.func18, Try.ntmps18
    go_wp2_with (first
      | (go_at_call 42; (first | (with_reducible refine (C1.out _).mono ?_; rintro e w' ⟨rfl, rfl⟩) | (with_reducible refine (C4.out _).mono ?_; rintro e w' ⟨rfl, rfl⟩) | (with_reducible refine (C5.out _).mono ?_; rintro e w' ⟨rfl, rfl⟩) | (with_reducible refine (C6.out _).mono ?_; rintro e w' ⟨rfl, rfl⟩) | (with_reducible refine (C7.out _).mono ?_; rintro e w' ⟨rfl, rfl⟩)))
      | (go_at_call 43; (first | (with_reducible refine (C2.out _).mono ?_; rintro e w' ⟨rfl, rfl⟩) | (with_reducible refine (C3.out _).mono ?_; rintro e w' ⟨rfl, rfl⟩))))
    go_ret
    exact ⟨rfl, bal (Below.refl _ _) _⟩
/-- what a box that holds a head tells, whatever memory came behind. -/
theorem box_tells (h : Hd) (w : World) : Hid (∀ W, Below (w.alloc (.cells #[.int .i64 h.v, .int .i64 h.ut, .int .i64 h.sd, .int .i64 h.lp, .int .i64 h.tm, .int .i64 h.ty, .int .i64 h.ch] 28)).heap.size (w.alloc (.cells #[.int .i64 h.v, .int .i64 h.ut, .int .i64 h.sd, .int .i64 h.lp, .int .i64 h.tm, .int .i64 h.ty, .int .i64 h.ch] 28)) W →
    W.cell? ⟨w.heap.size, 0, none⟩ = some (.int .i64 h.v) ∧ W.cell? ⟨w.heap.size, 1, none⟩ = some (.int .i64 h.ut) ∧ W.cell? ⟨w.heap.size, 2, none⟩ = some (.int .i64 h.sd) ∧ W.cell? ⟨w.heap.size, 3, none⟩ = some (.int .i64 h.lp) ∧ W.cell? ⟨w.heap.size, 4, none⟩ = some (.int .i64 h.tm) ∧ W.cell? ⟨w.heap.size, 5, none⟩ = some (.int .i64 h.ty) ∧ W.cell? ⟨w.heap.size, 6, none⟩ = some (.int .i64 h.ch) ∧ Below w.heap.size w W ∧ w.heap.size < W.heap.size) :=
  Lib.hid fun W hb => ⟨row_cell (kept (hp_new w _) hb) 0, row_cell (kept (hp_new w _) hb) 1, row_cell (kept (hp_new w _) hb) 2, row_cell (kept (hp_new w _) hb) 3, row_cell (kept (hp_new w _) hb) 4, row_cell (kept (hp_new w _) hb) 5, row_cell (kept (hp_new w _) hb) 6, btr (bal (Below.refl _ _) _) hb, by have := hb.size; rw [World.size_alloc] at this; omega⟩
set_option maxHeartbeats 4000000 in
theorem size_at (h : Hd) (s : Int) (w : World) : Calls Try.prog 17 #[(.agg #[.int .i64 h.v, .int .i64 h.ut, .int .i64 h.sd, .int .i64 h.lp, .int .i64 h.tm, .int .i64 h.ty, .int .i64 h.ch]), .int .i64 s] w fun e w' => e = .returned (.int .i64 (sz h s)) ∧ Below w.heap.size w w' := by
  have R := Lib.hid (fun w => right_at h w)
  have T := box_tells h w
  by_cases hok : okB h = true
  · obtain ⟨⟨a1, b1⟩, k2, k3, ⟨a4, b4⟩, ⟨a5, b5⟩, ⟨a6, b6⟩, a7, b7⟩ := ok_iff.1 hok
    have a2 : 0 ≤ h.ut ∧ h.ut ≤ 64 := by omega
    have a3 : 0 ≤ h.sd ∧ h.sd ≤ 64 := by omega
    rw [hok] at R
    obtain ⟨a2, b2⟩ := a2
    obtain ⟨a3, b3⟩ := a3
    clear k2 k3
    by_cases h4 : s = 4
    · subst h4
      rw [sz_yes (szb_iff.2 ⟨ok_iff.1 hok, Or.inl rfl⟩)]
      clear hok
      unfold szv
      rw [show h.tm * (4 + 1) + h.ty * 6 + h.ch + h.lp * (4 + 4) + h.sd + h.ut = h.tm * 5 + h.ty * 6 + h.ch + h.lp * 8 + h.sd + h.ut from rfl]
      obtain ⟨v, ut, sd, lp, tm, ty, ch⟩ := h
      simp only at *
      go_enter Try.func17, Try.ntmps17
      go_wp2_with (go_at_call 18; (with_reducible refine (R.out _).mono ?_); rintro e w1 ⟨rfl, hb1⟩; obtain ⟨c0, c1, c2, c3, c4, c5, c6, hb2, hs1⟩ := T.out _ hb1; have HB := Lib.hid hb2; clear hb1 hb2)
      go_ret
      exact ⟨rfl, HB.out⟩
    · by_cases h8 : s = 8
      · subst h8
        rw [sz_yes (szb_iff.2 ⟨ok_iff.1 hok, Or.inr rfl⟩)]
        clear hok h4
        unfold szv
        rw [show h.tm * (8 + 1) + h.ty * 6 + h.ch + h.lp * (8 + 4) + h.sd + h.ut = h.tm * 9 + h.ty * 6 + h.ch + h.lp * 12 + h.sd + h.ut from rfl]
        obtain ⟨v, ut, sd, lp, tm, ty, ch⟩ := h
        simp only at *
        go_enter Try.func17, Try.ntmps17
        go_wp2_with (go_at_call 18; (with_reducible refine (R.out _).mono ?_); rintro e w1 ⟨rfl, hb1⟩; obtain ⟨c0, c1, c2, c3, c4, c5, c6, hb2, hs1⟩ := T.out _ hb1; have HB := Lib.hid hb2; clear hb1 hb2)
        go_ret
        exact ⟨rfl, HB.out⟩
      · have hz : szOk h s = false := by rw [Bool.eq_false_iff]; intro e; rcases (szb_iff.1 e).2 with e | e <;> contradiction
        rw [sz_no hz]
        have t4 : (s != 4) = true := by simpa using h4
        have t8 : (s != 8) = true := by simpa using h8
        clear hok hz h4 h8
        obtain ⟨v, ut, sd, lp, tm, ty, ch⟩ := h
        simp only at *
        go_enter Try.func17, Try.ntmps17
        go_wp2_with (go_at_call 18; (with_reducible refine (R.out _).mono ?_); rintro e w1 ⟨rfl, hb1⟩; obtain ⟨c0, c1, c2, c3, c4, c5, c6, hb2, hs1⟩ := T.out _ hb1; have HB := Lib.hid hb2; clear hb1 hb2)
        go_ret
        exact ⟨rfl, HB.out⟩
  · have hok' : okB h = false := by simpa using hok
    have hz : szOk h s = false := by unfold szOk; rw [hok']; rfl
    rw [sz_no hz]
    rw [hok'] at R
    clear hok hok' hz
    obtain ⟨v, ut, sd, lp, tm, ty, ch⟩ := h
    simp only at *
    go_enter Try.func17, Try.ntmps17
    go_wp2_with (go_at_call 18; (with_reducible refine (R.out _).mono ?_); rintro e w1 ⟨rfl, hb1⟩; obtain ⟨c0, c1, c2, c3, c4, c5, c6, hb2, hs1⟩ := T.out _ hb1; have HB := Lib.hid hb2; clear hb1 hb2)
    go_ret
    exact ⟨rfl, HB.out⟩
end Go.Proofs.Ytkdmecpelfcbmaa.head
