/-
  What leap's Find, Total, Step, Length and Same answer. Conditions: the slices read as the rows, and have room for them; but for Same the leaps are right.
-/
import Derived.Test.YtcikcdeihlmbcaaDoorLeapFind
namespace Go.Proofs.YtcikcdeihlmbcaaDoor.leap
open Go.ChangeShapes Go.WideShapes Go.ChangeAt Go.RowKit
open lm mem
set_option linter.unusedVariables false
set_option maxRecDepth 100000

theorem find_at (l : List Lp) (A : Option Addr) (c : Nat) (has : Bool) (x d : Int) (w : World) (h : Lps w A l) (hg : lm.Good l) :
    Calls Tryd.prog 48 #[.agg #[.slice A l.length c, .bool has, .int .i64 x], .int .i64 d] w fun e w' => e = .returned (.int .i64 (fnd l d : Nat)) ∧ Below w.heap.size w w' := by
  have hlen := hg.len
  have hb0 := bal (bal (Below.refl w.heap.size w) (.cells #[.slice A l.length c, .bool has, .int .i64 x] 24)) (.cells #[.int .i64 d] 3)
  have S := Lib.hid (search_at #[.pointer (some ⟨w.heap.size, 0, none⟩), .pointer (some ⟨w.heap.size + 1, 0, none⟩)] l.length (fnd l d) _ (by omega) (fnd_le l d) (fun i W hi hb => by
    have e : decide (fnd l d ≤ i) = decide (d ≤ dy l i) := by have := hg.found d hi; simp only [decide_eq_decide]; exact this.symm
    rw [e]
    exact find1_at l A c d w.heap.size (w.heap.size + 1) i W (h.below (btr hb0 hb)) hi (by omega)
      (row_cell (kept (hp_old (hp_new w (.cells #[.slice A l.length c, .bool has, .int .i64 x] 24)) (.cells #[.int .i64 d] 3)) hb) 0) (row_cell (kept (hp_new1 w (.cells #[.slice A l.length c, .bool has, .int .i64 x] 24) (.cells #[.int .i64 d] 3)) hb) 0)))
  have HB := Lib.hid hb0
  clear h hb0 hg
  generalize fnd l d = f at *
  generalize l.length = n at *
  go_enter Tryd.func48, Tryd.ntmps48
  go_wp2_with (go_at_call 43; with_reducible refine (S.out).mono ?_; rintro e w1 ⟨rfl, hb1⟩)
  go_ret
  exact ⟨rfl, btr HB.out hb1⟩

/-- a table's box, behind calls. -/
theorem box_tab (w : World) (A : Option Addr) (n c : Nat) (has : Bool) (x : Int) {w1 : World} (hb : Below (w.alloc (.cells #[.slice A n c, .bool has, .int .i64 x] 24)).heap.size (w.alloc (.cells #[.slice A n c, .bool has, .int .i64 x] 24)) w1) :
    w1.cell? ⟨w.heap.size, 0, none⟩ = some (.slice A n c) ∧ w1.cell? ⟨w.heap.size, 1, none⟩ = some (.bool has) ∧ w1.cell? ⟨w.heap.size, 2, none⟩ = some (.int .i64 x) :=
  have h := row_cell (kept (hp_new w (.cells #[.slice A n c, .bool has, .int .i64 x] 24)) hb)
  ⟨h 0, h 1, h 2⟩
set_option maxRecDepth 100000 in
theorem cutL (A : Option Addr) (n c f : Nat) (h : f ≤ c) (W : World) : (Instr.slice 22 (.slice A n c) none (some (.int .i64 (f : Nat))) none).run Tryd.prog W = .ok (.slice A f c) W := by
  rw [run_slice_h (P := Tryd.prog) W 22 A n c Tryd.underlying22 .i64 f (by omega) (by omega)]
  rw [show (Go.sizeOf (Tryd.prog.elem 22)).run Tryd.prog W = .ok 3 W by kernel_rfl]
  simp only [Result.andThen, sliced, Int.toNat_natCast, Nat.sub_zero, Nat.zero_mul]
  cases A with
  | none => simp
  | some a => simp [Addr.add]
/-- at the head of a round of Total. -/
def THead (l : List Lp) (f : Nat) (w : World) (s i : Value) (W : World) : Prop :=
  ∃ k : Nat, k ≤ f ∧ i = .int .i64 (k : Nat) ∧ s = .int .i64 (tot l k) ∧ Below w.heap.size w W
set_option maxHeartbeats 1000000 in
theorem total_at (l : List Lp) (A : Option Addr) (c : Nat) (has : Bool) (x d : Int) (w : World) (h : Lps w A l) (hg : lm.Good l) (hcap : l.length ≤ c) :
    Calls Tryd.prog 29 #[.agg #[.slice A l.length c, .bool has, .int .i64 x], .int .i64 d] w fun e w' => e = .returned (.int .i64 (tot l (fnd l d))) ∧ Below w.heap.size w w' := by
  have hlen := hg.len
  have hf := fnd_le l d
  have hb0 := bal (Below.refl w.heap.size w) (.cells #[.slice A l.length c, .bool has, .int .i64 x] 24)
  have F := Lib.hid (fun W hb => find_at l A c has x d W (h.below (w := w) (W := W) hb) hg)
  have HB := Lib.hid hb0
  have n0 := row_cell (hp_new w (.cells #[.slice A l.length c, .bool has, .int .i64 x] 24))
  go_enter Tryd.func29, Tryd.ntmps29
  go_wp2_with fail
  generalize (w.alloc (.cells #[.slice A l.length c, .bool has, .int .i64 x] 24)) = W1 at *
  have x0 : W1.cell? ⟨w.heap.size, 0, none⟩ = some (.slice A l.length c) := n0 0
  have x1 : W1.cell? ⟨w.heap.size, 1, none⟩ = some (.bool has) := n0 1
  have x2 : W1.cell? ⟨w.heap.size, 2, none⟩ = some (.int .i64 x) := n0 2
  have c0 : ∀ d' os, (Sort.grow (redrawn W1 d') os).cell? ⟨w.heap.size, 0, none⟩ = some (.slice A l.length c) := fun d' os => cell_regrown x0 d' os
  have c1 : ∀ d' os, (Sort.grow (redrawn W1 d') os).cell? ⟨w.heap.size, 1, none⟩ = some (.bool has) := fun d' os => cell_regrown x1 d' os
  have c2 : ∀ d' os, (Sort.grow (redrawn W1 d') os).cell? ⟨w.heap.size, 2, none⟩ = some (.int .i64 x) := fun d' os => cell_regrown x2 d' os
  have G := Lib.hid (fun d' os => below_at (T := fun W => Below w.heap.size w W) F.out (fun W hb2 => btr HB.out hb2) d' os)
  clear n0 x0 x1 x2 hb0
  have q := fun W => cutL A l.length c (fnd l d) (by omega) W
  refine wp_region_quiet_below (by kernel_rfl) (by kernel_rfl) ?_
  repeat (quiet_step ((go_at_call 48; with_reducible exact G.out _ _)))
  refine wpQuiet_nil ?_
  intro _ hw'
  obtain ⟨⟨dq, osq⟩, hw''⟩ := hw'
  subst hw''
  have hbz := Lib.hid (btr HB.out (below_regrown _ dq osq))
  generalize Sort.grow (redrawn W1 dq) osq = W7 at *
  clear c0 c1 c2 G q F HB
  have HG := Lib.hid hg
  have HL := Lib.hid h
  clear hg h hcap
  go_wp2
  go_loopw [5, 15] (fun s i W => THead l (fnd l d) w s i W) (fun _ i _ => fnd l d - (intOf i).toNat)
  case atStart => exact ⟨0, Nat.zero_le _, rfl, rfl, hbz.out⟩
  case round =>
    obtain ⟨k, hk, rfl, rfl, hb⟩ := hrel
    by_cases hlt : k < fnd l d
    · obtain ⟨b, o, rfl, hb0, hc⟩ := HL.out.below hb (by omega)
      obtain ⟨x0, x1, x2⟩ := hc k (by omega)
      have tb := tot_bd HG.out k (by omega)
      have st := HG.out.step (i := k) (by omega)
      have R : Hid (∀ ob, THead l (fnd l d) w (.int .i64 (tot l k + lm.st l k)) (.int .i64 ((k : Int) + 1)) (wr.alloc ob)) := fun ob => ⟨k + 1, by omega, rfl, by rw [tot], bal hb ob⟩
      have mw : fnd l d ≤ 200 := by omega
      clear hc HL HG hf
      generalize hT : tot l k = S at *
      clear hT
      generalize fnd l d = f at *
      generalize lm.st l k = z at *
      generalize dy l k = y at *
      generalize rl l k = r at *
      generalize l.length = n at *
      go_wp2
      go_roundw
      case rel => exact R.out _
      case measure => simp [intOf]; omega
    · obtain rfl : k = fnd l d := by omega
      go_wp2
      go_ret
      exact ⟨rfl, hb⟩

set_option maxHeartbeats 1000000 in
theorem step_at (l : List Lp) (A : Option Addr) (c : Nat) (has : Bool) (x d : Int) (w : World) (h : Lps w A l) (hg : lm.Good l) :
    Calls Tryd.prog 49 #[.agg #[.slice A l.length c, .bool has, .int .i64 x], .int .i64 d] w fun e w' => e = .returned (.int .i64 (stp l d)) ∧ Below w.heap.size w w' := by
  have hlen := hg.len
  have hf := fnd_le l d
  have hb0 := bal (Below.refl w.heap.size w) (.cells #[.slice A l.length c, .bool has, .int .i64 x] 24)
  have F := Lib.hid (find_at l A c has x d _ (h.below hb0) hg)
  have HB := Lib.hid hb0
  have HL := Lib.hid h
  have SP : Hid (stp l d = if fnd l d < l.length ∧ dy l (fnd l d) = d then lm.st l (fnd l d) else 0) := rfl
  clear h hb0
  by_cases h0 : fnd l d = l.length
  · have e : stp l d = 0 := by rw [SP.out, if_neg (by omega)]
    rw [e]
    clear HL SP e
    rw [h0] at F
    generalize l.length = n at *
    go_enter Tryd.func49, Tryd.ntmps49
    go_wp2_with (go_at_call 48; with_reducible refine (F.out).mono ?_; rintro e w1 ⟨rfl, hb1⟩; obtain ⟨x0, x1, x2⟩ := box_tab w _ _ _ _ _ hb1)
    go_ret
    exact ⟨rfl, btr HB.out hb1⟩
  · have hlt : fnd l d < l.length := by omega
    obtain ⟨b, o, rfl, hbl, hc⟩ := HL.out (by omega)
    have CC : Hid (∀ W, Below w.heap.size w W → W.cell? ⟨b, o + fnd l d * 3, none⟩ = some (.int .i64 (dy l (fnd l d))) ∧ W.cell? ⟨b, o + fnd l d * 3 + 1, none⟩ = some (.int .i64 (lm.st l (fnd l d)))) := fun W hb =>
      ⟨(hb.cell (p := ⟨b, o + fnd l d * 3, none⟩) hbl).trans (hc _ hlt).1, (hb.cell (p := ⟨b, o + fnd l d * 3 + 1, none⟩) hbl).trans (hc _ hlt).2.1⟩
    have t1 : ((fnd l d : Int) == (l.length : Int)) = false := by simp; omega
    clear HL hc
    by_cases hd : dy l (fnd l d) = d
    · have e : stp l d = lm.st l (fnd l d) := by rw [SP.out, if_pos ⟨hlt, hd⟩]
      rw [e]
      rw [hd] at CC
      clear SP e hd hf hg
      generalize lm.st l (fnd l d) = z at *
      generalize fnd l d = f at *
      generalize l.length = n at *
      go_enter Tryd.func49, Tryd.ntmps49
      go_wp2_with (go_at_call 48; with_reducible refine (F.out).mono ?_; rintro e w1 ⟨rfl, hb1⟩; obtain ⟨x0, x1, x2⟩ := box_tab w _ _ _ _ _ hb1; obtain ⟨y0, y1⟩ := CC.out _ (btr HB.out hb1))
      go_ret
      exact ⟨rfl, btr HB.out hb1⟩
    · have e : stp l d = 0 := by rw [SP.out, if_neg (fun g => hd g.2)]
      rw [e]
      have t2 : (dy l (fnd l d) != d) = true := by simpa using hd
      clear SP e hd hf hg
      generalize lm.st l (fnd l d) = z at *
      generalize dy l (fnd l d) = D at *
      generalize fnd l d = f at *
      generalize l.length = n at *
      go_enter Tryd.func49, Tryd.ntmps49
      go_wp2_with (go_at_call 48; with_reducible refine (F.out).mono ?_; rintro e w1 ⟨rfl, hb1⟩; obtain ⟨x0, x1, x2⟩ := box_tab w _ _ _ _ _ hb1; obtain ⟨y0, y1⟩ := CC.out _ (btr HB.out hb1))
      go_ret
      exact ⟨rfl, btr HB.out hb1⟩
theorem length_at (l : List Lp) (A : Option Addr) (c : Nat) (has : Bool) (x d : Int) (w : World) (h : Lps w A l) (hg : lm.Good l) :
    Calls Tryd.prog 30 #[.agg #[.slice A l.length c, .bool has, .int .i64 x], .int .i64 d] w fun e w' => e = .returned (.int .i64 (86400 + stp l d)) ∧ Below w.heap.size w w' := by
  have hb0 := bal (Below.refl w.heap.size w) (.cells #[.slice A l.length c, .bool has, .int .i64 x] 24)
  have F := Lib.hid (step_at l A c has x d _ (h.below hb0) hg)
  have HB := Lib.hid hb0
  have sb := stp_bd hg d
  clear h hb0 hg
  generalize stp l d = z at *
  generalize l.length = n at *
  go_enter Tryd.func30, Tryd.ntmps30
  go_wp2_with (go_at_call 49; with_reducible refine (F.out).mono ?_; rintro e w1 ⟨rfl, hb1⟩)
  go_ret
  exact ⟨rfl, btr HB.out hb1⟩
end Go.Proofs.YtcikcdeihlmbcaaDoor.leap
