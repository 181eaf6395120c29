/-
  What record's Sum and Step answer, and the library's binary search with their closures. Conditions: the slice reads as the row of records, and they are right.
-/
import Derived.Test.YtcikcdeihlmbcaaDoorRec
import Derived.Shelf.Abstract
namespace Go.Proofs.YtcikcdeihlmbcaaDoor.rec
open Go.ChangeShapes Go.WideShapes Go.ChangeAt Go.RowKit
open rm mem
set_option linter.unusedVariables false
set_option maxRecDepth 100000

theorem sum_search (cb : Array Value) (n fd : Nat) (w : World) (hn : n ≤ 4000000000000000000) (hfd : fd ≤ n)
    (hf : ∀ (i : Nat) (W : World), i < n → Below w.heap.size w W → Calls Tryd.prog 44 (#[.int .i64 i] ++ cb) W fun e w' => e = .returned (.bool (decide (fd ≤ i))) ∧ Below W.heap.size W w') :
    Calls Tryd.prog 43 #[.int .i64 n, .func (.func 44) #[] cb] w fun e w' => e = .returned (.int .i64 fd) ∧ Below w.heap.size w w' := by
  have HF := Lib.hid hf
  have eg : ∀ args w, (callFunc 44 args).run Tryd.prog w = .ok (.enter 44 args) w := fun args w => by kernel_rfl
  clear hf
  go_enter Tryd.func43, Tryd.ntmps43
  go_wp2
  go_loopw [5, 6] (fun s5 s6 W => ∃ lo hi : Nat, s5 = .int .i64 lo ∧ s6 = .int .i64 hi ∧ lo ≤ fd ∧ fd ≤ hi ∧ hi ≤ n ∧ Below w.heap.size w W) (fun s5 s6 _ => (intOf s6 - intOf s5).toNat)
  case atStart => exact ⟨0, n, rfl, rfl, Nat.zero_le _, hfd, Nat.le_refl _, Below.refl _ _⟩
  case round =>
    obtain ⟨lo, hi, rfl, rfl, h1, h2, h3, hb⟩ := hrel
    by_cases hlt : lo < hi
    · have hc := HF.out ((lo + hi) / 2) wr (by omega) hb
      rw [show (((lo + hi) / 2 : Nat) : Int) = ((lo : Int) + (hi : Int)) / 2 by omega] at hc
      by_cases hp : fd ≤ (lo + hi) / 2
      · rw [decide_eq_true hp] at hc
        have R : Hid (∀ W', Below wr.heap.size wr W' → ∃ lo' hi' : Nat, Value.int .i64 (lo : Nat) = .int .i64 (lo' : Nat) ∧ Value.int .i64 (((lo : Int) + (hi : Int)) / 2) = .int .i64 (hi' : Nat) ∧ lo' ≤ fd ∧ fd ≤ hi' ∧ hi' ≤ n ∧ Below w.heap.size w W') := fun W' hb' => ⟨lo, (lo + hi) / 2, rfl, by rw [show (((lo + hi) / 2 : Nat) : Int) = ((lo : Int) + (hi : Int)) / 2 by omega], h1, hp, by omega, btr hb hb'⟩
        clear hp HF
        go_wp2_with (go_at_fn 44; refine hc.mono ?_; rintro e w1 ⟨rfl, hb1⟩; have R1 := R.out _ hb1)
        go_roundw
        case rel => exact R1
        case measure => simp [intOf]; omega
      · rw [decide_eq_false hp] at hc
        have R : Hid (∀ W', Below wr.heap.size wr W' → ∃ lo' hi' : Nat, Value.int .i64 (((lo : Int) + (hi : Int)) / 2 + 1) = .int .i64 (lo' : Nat) ∧ Value.int .i64 (hi : Nat) = .int .i64 (hi' : Nat) ∧ lo' ≤ fd ∧ fd ≤ hi' ∧ hi' ≤ n ∧ Below w.heap.size w W') := fun W' hb' => ⟨(lo + hi) / 2 + 1, hi, by rw [show ((lo : Int) + (hi : Int)) / 2 + 1 = (((lo + hi) / 2 + 1 : Nat) : Int) by omega], rfl, by omega, h2, h3, btr hb hb'⟩
        clear hp HF
        go_wp2_with (go_at_fn 44; refine hc.mono ?_; rintro e w1 ⟨rfl, hb1⟩; have R1 := R.out _ hb1)
        go_roundw
        case rel => exact R1
        case measure => simp [intOf]; omega
    · obtain rfl : hi = lo := by omega
      obtain rfl : fd = hi := by omega
      clear HF
      go_wp2
      go_ret
      exact ⟨rfl, hb⟩
theorem step_search (cb : Array Value) (n fd : Nat) (w : World) (hn : n ≤ 4000000000000000000) (hfd : fd ≤ n)
    (hf : ∀ (i : Nat) (W : World), i < n → Below w.heap.size w W → Calls Tryd.prog 46 (#[.int .i64 i] ++ cb) W fun e w' => e = .returned (.bool (decide (fd ≤ i))) ∧ Below W.heap.size W w') :
    Calls Tryd.prog 43 #[.int .i64 n, .func (.func 46) #[] cb] w fun e w' => e = .returned (.int .i64 fd) ∧ Below w.heap.size w w' := by
  have HF := Lib.hid hf
  have eg : ∀ args w, (callFunc 46 args).run Tryd.prog w = .ok (.enter 46 args) w := fun args w => by kernel_rfl
  clear hf
  go_enter Tryd.func43, Tryd.ntmps43
  go_wp2
  go_loopw [5, 6] (fun s5 s6 W => ∃ lo hi : Nat, s5 = .int .i64 lo ∧ s6 = .int .i64 hi ∧ lo ≤ fd ∧ fd ≤ hi ∧ hi ≤ n ∧ Below w.heap.size w W) (fun s5 s6 _ => (intOf s6 - intOf s5).toNat)
  case atStart => exact ⟨0, n, rfl, rfl, Nat.zero_le _, hfd, Nat.le_refl _, Below.refl _ _⟩
  case round =>
    obtain ⟨lo, hi, rfl, rfl, h1, h2, h3, hb⟩ := hrel
    by_cases hlt : lo < hi
    · have hc := HF.out ((lo + hi) / 2) wr (by omega) hb
      rw [show (((lo + hi) / 2 : Nat) : Int) = ((lo : Int) + (hi : Int)) / 2 by omega] at hc
      by_cases hp : fd ≤ (lo + hi) / 2
      · rw [decide_eq_true hp] at hc
        have R : Hid (∀ W', Below wr.heap.size wr W' → ∃ lo' hi' : Nat, Value.int .i64 (lo : Nat) = .int .i64 (lo' : Nat) ∧ Value.int .i64 (((lo : Int) + (hi : Int)) / 2) = .int .i64 (hi' : Nat) ∧ lo' ≤ fd ∧ fd ≤ hi' ∧ hi' ≤ n ∧ Below w.heap.size w W') := fun W' hb' => ⟨lo, (lo + hi) / 2, rfl, by rw [show (((lo + hi) / 2 : Nat) : Int) = ((lo : Int) + (hi : Int)) / 2 by omega], h1, hp, by omega, btr hb hb'⟩
        clear hp HF
        go_wp2_with (go_at_fn 46; refine hc.mono ?_; rintro e w1 ⟨rfl, hb1⟩; have R1 := R.out _ hb1)
        go_roundw
        case rel => exact R1
        case measure => simp [intOf]; omega
      · rw [decide_eq_false hp] at hc
        have R : Hid (∀ W', Below wr.heap.size wr W' → ∃ lo' hi' : Nat, Value.int .i64 (((lo : Int) + (hi : Int)) / 2 + 1) = .int .i64 (lo' : Nat) ∧ Value.int .i64 (hi : Nat) = .int .i64 (hi' : Nat) ∧ lo' ≤ fd ∧ fd ≤ hi' ∧ hi' ≤ n ∧ Below w.heap.size w W') := fun W' hb' => ⟨(lo + hi) / 2 + 1, hi, by rw [show ((lo : Int) + (hi : Int)) / 2 + 1 = (((lo + hi) / 2 + 1 : Nat) : Int) by omega], rfl, by omega, h2, h3, btr hb hb'⟩
        clear hp HF
        go_wp2_with (go_at_fn 46; refine hc.mono ?_; rintro e w1 ⟨rfl, hb1⟩; have R1 := R.out _ hb1)
        go_roundw
        case rel => exact R1
        case measure => simp [intOf]; omega
    · obtain rfl : hi = lo := by omega
      obtain rfl : fd = hi := by omega
      clear HF
      go_wp2
      go_ret
      exact ⟨rfl, hb⟩
theorem sum1_at (l : List Cr) (A : Option Addr) (c n : Nat) (d : Int) (g gd i : Nat) (W : World) (h : Crs W A l) (hi : i < l.length) (hm : i < n) (hn : n ≤ 9223372036854775807)
    (h0 : W.cell? ⟨g, 0, none⟩ = some (.slice A n c)) (h1 : W.cell? ⟨gd, 0, none⟩ = some (.int .i64 d)) :
    Calls Tryd.prog 44 #[.int .i64 i, .pointer (some ⟨g, 0, none⟩), .pointer (some ⟨gd, 0, none⟩)] W fun e w' => e = .returned (.bool (decide (d < ra l i))) ∧ Below W.heap.size W w' := by
  obtain ⟨b, o, rfl, hb0, hc⟩ := h.2 (by omega)
  have x0 := (hc i hi).1
  clear hc h
  generalize ra l i = D at *
  generalize l.length = m at *
  go_enter Tryd.func44, Tryd.ntmps44
  go_wp2
  go_quiet (fail)
  go_wp2
  go_ret
  exact ⟨rfl, bel_drewN (Below.refl _ _) _⟩
theorem step1_at (l : List Cr) (A : Option Addr) (c n : Nat) (d : Int) (g gd i : Nat) (W : World) (h : Crs W A l) (hi : i < l.length) (hm : i < n) (hn : n ≤ 9223372036854775807)
    (h0 : W.cell? ⟨g, 0, none⟩ = some (.slice A n c)) (h1 : W.cell? ⟨gd, 0, none⟩ = some (.int .i64 d)) :
    Calls Tryd.prog 46 #[.int .i64 i, .pointer (some ⟨g, 0, none⟩), .pointer (some ⟨gd, 0, none⟩)] W fun e w' => e = .returned (.bool (decide (d ≤ ra l i))) ∧ Below W.heap.size W w' := by
  obtain ⟨b, o, rfl, hb0, hc⟩ := h.2 (by omega)
  have x0 := (hc i hi).1
  clear hc h
  generalize ra l i = D at *
  generalize l.length = m at *
  go_enter Tryd.func46, Tryd.ntmps46
  go_wp2
  go_quiet (fail)
  go_wp2
  go_ret
  exact ⟨rfl, bel_drewN (Below.refl _ _) _⟩
/-- the box that leapsOf's answer is put into, behind the box of the second. -/
theorem box2 (w : World) (d : Int) {w1 : World} (hb : Below (w.alloc (.cells #[.int .i64 d] 3)).heap.size (w.alloc (.cells #[.int .i64 d] 3)) w1) (v : Value) {w2 : World} (hb2 : Below (w1.alloc (.cells #[v] 25)).heap.size (w1.alloc (.cells #[v] 25)) w2) :
    w2.cell? ⟨w.heap.size, 0, none⟩ = some (.int .i64 d) ∧ w2.cell? ⟨w1.heap.size, 0, none⟩ = some v :=
  ⟨row_cell (kept (hp_old (kept (hp_new w (.cells #[.int .i64 d] 3)) hb) (.cells #[v] 25)) hb2) 0, row_cell (kept (hp_new w1 (.cells #[v] 25)) hb2) 0⟩
set_option maxHeartbeats 1000000 in
theorem sum_at (l : List Cr) (A : Option Addr) (c : Nat) (d : Int) (w : World) (h : Crs w A l) (hg : rm.Ok l) (hc : l.length ≤ c) :
    Calls Tryd.prog 24 #[.slice A l.length c, .int .i64 d] w fun e w' => e = .returned (.int .i64 (sm l d)) ∧ Below w.heap.size w w' := by
  have hn := h.1.2
  have hlen := hg.len
  have hnl := nl_le l
  have hb0 := bal (Below.refl w.heap.size w) (.cells #[.int .i64 d] 3)
  have F := Lib.hid (leaps_at l A c _ (h.below hb0) hc)
  have S : Hid (∀ w1, Below (w.alloc (.cells #[.int .i64 d] 3)).heap.size (w.alloc (.cells #[.int .i64 d] 3)) w1 →
      Calls Tryd.prog 43 #[.int .i64 (nl l : Nat), .func (.func 44) #[] #[.pointer (some ⟨w1.heap.size, 0, none⟩), .pointer (some ⟨w.heap.size, 0, none⟩)]] (w1.alloc (.cells #[.slice A (nl l) c] 25)) fun e w' => e = .returned (.int .i64 (fx l (d + 1) : Nat)) ∧ Below (w1.alloc (.cells #[.slice A (nl l) c] 25)).heap.size (w1.alloc (.cells #[.slice A (nl l) c] 25)) w') := fun w1 hb1 =>
    sum_search #[.pointer (some ⟨w1.heap.size, 0, none⟩), .pointer (some ⟨w.heap.size, 0, none⟩)] (nl l) (fx l (d + 1)) _ (by omega) (fx_le l (d + 1)) (fun i W hi hb => by
      have e : decide (fx l (d + 1) ≤ i) = decide (d < ra l i) := by
        have := hg.found (d + 1) hi
        simp only [decide_eq_decide]
        unfold fx
        omega
      rw [e]
      obtain ⟨g1, g0⟩ := box2 w d hb1 (.slice A (nl l) c) hb
      exact sum1_at l A c (nl l) d w1.heap.size w.heap.size i W (h.below (btr (bal (btr hb0 hb1) _) hb)) (by omega) hi (by omega) g0 g1)
  have Y : Hid (∀ W, Below w.heap.size w W → Calls Tryd.prog 45 #[.slice A (nl l) c, .int .i64 (fx l (d + 1) : Nat)] W fun e w' => e = .returned (.int .i64 (sm l d)) ∧ Below W.heap.size W w') := fun W hb => by
    have := ahead_at (lvs l) A c (fx l (d + 1)) W ((h.below hb).take (nl l) hnl) (by rw [lvs_len]; exact fx_le l _)
    rw [lvs_len, ahd_lvs l (fx_le l _)] at this
    exact this
  have BX := Lib.hid (fun w1 hb w2 hb2 => (box2 w d (w1 := w1) hb (.slice A (nl l) c) (w2 := w2) hb2).2)
  have HB := Lib.hid hb0
  clear h hb0 hg
  generalize sm l d = z at *
  generalize fx l (d + 1) = f at *
  generalize nl l = m at *
  generalize l.length = n at *
  go_enter Tryd.func24, Tryd.ntmps24
  go_wp2_with (first
    | (go_at_call 42; with_reducible refine (F.out).mono ?_; rintro e w1 ⟨rfl, hb1⟩)
    | (go_at_call 43; with_reducible refine (S.out _ hb1).mono ?_; rintro e w2 ⟨rfl, hb2⟩; have y0 := BX.out _ hb1 _ hb2; have hA := btr (bal (btr HB.out hb1) _) hb2)
    | (go_at_call 45; with_reducible refine (Y.out _ hA).mono ?_; rintro e w3 ⟨rfl, hb3⟩))
  go_ret
  exact ⟨rfl, btr hA hb3⟩
set_option maxHeartbeats 2000000 in
theorem step_at (l : List Cr) (A : Option Addr) (c : Nat) (d : Int) (w : World) (h : Crs w A l) (hg : rm.Ok l) (hc : l.length ≤ c) :
    Calls Tryd.prog 26 #[.slice A l.length c, .int .i64 d] w fun e w' => e = .returned (.int .i64 (sp l d)) ∧ Below w.heap.size w w' := by
  have hn := h.1.2
  have hlen := hg.len
  have hnl := nl_le l
  have hfx := fx_le l d
  have hb0 := bal (Below.refl w.heap.size w) (.cells #[.int .i64 d] 3)
  have F := Lib.hid (leaps_at l A c _ (h.below hb0) hc)
  have S : Hid (∀ w1, Below (w.alloc (.cells #[.int .i64 d] 3)).heap.size (w.alloc (.cells #[.int .i64 d] 3)) w1 →
      Calls Tryd.prog 43 #[.int .i64 (nl l : Nat), .func (.func 46) #[] #[.pointer (some ⟨w1.heap.size, 0, none⟩), .pointer (some ⟨w.heap.size, 0, none⟩)]] (w1.alloc (.cells #[.slice A (nl l) c] 25)) fun e w' => e = .returned (.int .i64 (fx l d : Nat)) ∧ Below (w1.alloc (.cells #[.slice A (nl l) c] 25)).heap.size (w1.alloc (.cells #[.slice A (nl l) c] 25)) w') := fun w1 hb1 =>
    step_search #[.pointer (some ⟨w1.heap.size, 0, none⟩), .pointer (some ⟨w.heap.size, 0, none⟩)] (nl l) (fx l d) _ (by omega) (fx_le l d) (fun i W hi hb => by
      have e : decide (fx l d ≤ i) = decide (d ≤ ra l i) := by
        have := hg.found d hi
        simp only [decide_eq_decide]
        unfold fx
        exact this.symm
      rw [e]
      obtain ⟨g1, g0⟩ := box2 w d hb1 (.slice A (nl l) c) hb
      exact step1_at l A c (nl l) d w1.heap.size w.heap.size i W (h.below (btr (bal (btr hb0 hb1) _) hb)) (by omega) hi (by omega) g0 g1)
  have Y : Hid (∀ W, Below w.heap.size w W → Calls Tryd.prog 45 #[.slice A (nl l) c, .int .i64 (fx l d : Nat)] W fun e w' => e = .returned (.int .i64 (ahd l (fx l d))) ∧ Below W.heap.size W w') := fun W hb => by
    have := ahead_at (lvs l) A c (fx l d) W ((h.below hb).take (nl l) hnl) (by rw [lvs_len]; exact fx_le l _)
    rw [lvs_len, ahd_lvs l (fx_le l _)] at this
    exact this
  have BX := Lib.hid (fun w1 hb w2 hb2 => box2 w d (w1 := w1) hb (.slice A (nl l) c) (w2 := w2) hb2)
  have HB := Lib.hid hb0
  have SP : Hid (sp l d = if fx l d < nl l ∧ ra l (fx l d) = d then rc l (fx l d) - ahd l (fx l d) else 0) := rfl
  by_cases hf : fx l d = nl l
  · have e : sp l d = 0 := by rw [SP.out, if_neg (by omega)]
    rw [e]
    clear h hb0 hg SP e Y
    rw [hf] at S
    generalize nl l = m at *
    generalize l.length = n at *
    go_enter Tryd.func26, Tryd.ntmps26
    go_wp2_with (first
      | (go_at_call 42; with_reducible refine (F.out).mono ?_; rintro e w1 ⟨rfl, hb1⟩)
      | (go_at_call 43; with_reducible refine (S.out _ hb1).mono ?_; rintro e w2 ⟨rfl, hb2⟩; obtain ⟨y1, y0⟩ := BX.out _ hb1 _ hb2; have hA := btr (bal (btr HB.out hb1) _) hb2))
    go_quiet (fail)
    go_wp2
    go_ret
    exact ⟨rfl, bel_drewN hA _⟩
  · have hlt : fx l d < nl l := by omega
    obtain ⟨b, o, rfl, hbl, hcc⟩ := h.2 (by omega)
    have CC : Hid (∀ W, Below w.heap.size w W → W.cell? ⟨b, o + fx l d * 2, none⟩ = some (.int .i64 (ra l (fx l d))) ∧ W.cell? ⟨b, o + fx l d * 2 + 1, none⟩ = some (.int .i64 (rc l (fx l d)))) := fun W hb =>
      ⟨(hb.cell (p := ⟨b, o + fx l d * 2, none⟩) hbl).trans (hcc _ (by omega)).1, (hb.cell (p := ⟨b, o + fx l d * 2 + 1, none⟩) hbl).trans (hcc _ (by omega)).2⟩
    have t1 : ((fx l d : Int) == (nl l : Int)) = false := by simp; omega
    by_cases hd : ra l (fx l d) = d
    · have e : sp l d = rc l (fx l d) - ahd l (fx l d) := by rw [SP.out, if_pos ⟨hlt, hd⟩]
      rw [e]
      have st := hg.step hlt
      have ab := hg.ahd (k := fx l d) (by omega)
      rw [hd] at CC
      have t2 : (d != d) = false := by simp
      clear SP e hd h hcc hb0 hg
      generalize ahd l (fx l d) = y at *
      generalize rc l (fx l d) = z at *
      generalize fx l d = f at *
      generalize nl l = m at *
      generalize l.length = n at *
      have v1 : IntKind.i64.wrap (z - y) = z - y := IntWalk.i64_in _ (by omega)
      go_enter Tryd.func26, Tryd.ntmps26
      go_wp2_with (first
        | (go_at_call 42; with_reducible refine (F.out).mono ?_; rintro e w1 ⟨rfl, hb1⟩)
        | (go_at_call 43; with_reducible refine (S.out _ hb1).mono ?_; rintro e w2 ⟨rfl, hb2⟩; obtain ⟨y1, y0⟩ := BX.out _ hb1 _ hb2; have hA := btr (bal (btr HB.out hb1) _) hb2; obtain ⟨x0, x1⟩ := CC.out _ hA))
      go_quiet (fail)
      go_wp2_with fail
      generalize hW : w2.drewN _ = W3 at *
      have hA3 : Below w.heap.size w W3 := hW ▸ bel_drewN hA _
      obtain ⟨x2, x3⟩ := CC.out _ hA3
      have y2 : W3.cell? ⟨w1.heap.size, 0, none⟩ = some (.slice (some ⟨b, o, none⟩) m c) := by rw [← hW]; exact y0
      clear hW
      have c0 : ∀ d' os, (Sort.grow (redrawn W3 d') os).cell? ⟨w1.heap.size, 0, none⟩ = some (.slice (some ⟨b, o, none⟩) m c) := fun d' os => cell_regrown y2 d' os
      have c1 : ∀ d' os, (Sort.grow (redrawn W3 d') os).cell? ⟨b, o + f * 2 + 1, none⟩ = some (.int .i64 z) := fun d' os => cell_regrown x3 d' os
      have G := Lib.hid (fun d' os => below_at (w := W3) (T := fun W => Below w.heap.size w W) Y.out (fun W hb2 => btr hA3 hb2) d' os)
      refine wp_region_quiet_below (by kernel_rfl) (by kernel_rfl) ?_
      repeat (quiet_step ((go_at_call 45; with_reducible exact G.out _ _)))
      refine wpQuiet_nil ?_
      intro _ hw'
      obtain ⟨⟨dq, osq⟩, hw''⟩ := hw'
      subst hw''
      have hbz := Lib.hid (btr hA3 (below_regrown W3 dq osq))
      generalize Sort.grow (redrawn W3 dq) osq = W7 at *
      go_wp2
      go_ret
      exact ⟨rfl, hbz.out⟩
    · have e : sp l d = 0 := by rw [SP.out, if_neg (fun g => hd g.2)]
      rw [e]
      have t2 : (ra l (fx l d) != d) = true := by simpa using hd
      clear SP e hd h hcc hb0 hg Y
      generalize rc l (fx l d) = z at *
      generalize ra l (fx l d) = D at *
      generalize fx l d = f at *
      generalize nl l = m at *
      generalize l.length = n at *
      go_enter Tryd.func26, Tryd.ntmps26
      go_wp2_with (first
        | (go_at_call 42; with_reducible refine (F.out).mono ?_; rintro e w1 ⟨rfl, hb1⟩)
        | (go_at_call 43; with_reducible refine (S.out _ hb1).mono ?_; rintro e w2 ⟨rfl, hb2⟩; obtain ⟨y1, y0⟩ := BX.out _ hb1 _ hb2; have hA := btr (bal (btr HB.out hb1) _) hb2; obtain ⟨x0, x1⟩ := CC.out _ hA))
      go_quiet (fail)
      go_wp2
      go_ret
      exact ⟨rfl, bel_drewN hA _⟩
end Go.Proofs.YtcikcdeihlmbcaaDoor.rec
