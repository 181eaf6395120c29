/-
  What record's sumAhead, isExpiry, checkRecord, Check, Right, Expiry and leapsOf answer. Condition: the slice reads as the row of records.
-/
import Derived.Test.YtcikcdeihlmbcaaDoorRecMath
import Derived.Test.YtcikcdeihlmbcaaDoorMem
import Derived.WalkSmall
namespace Go.Proofs.YtcikcdeihlmbcaaDoor.rec
open Go.ChangeShapes Go.WideShapes Go.ChangeAt Go.RowKit
open rm mem
set_option linter.unusedVariables false
set_option maxRecDepth 100000

/-- a slice that reads as a row of records. -/
def Fit (l : List Cr) : Prop := ∀ k, (-9223372036854775808 ≤ ra l k ∧ ra l k ≤ 9223372036854775807) ∧ (-9223372036854775808 ≤ rc l k ∧ rc l k ≤ 9223372036854775807)
def Crs (w : World) (A : Option Addr) (l : List Cr) : Prop :=
  (Fit l ∧ l.length ≤ 9223372036854775807) ∧ (l.length ≠ 0 → ∃ b o, A = some ⟨b, o, none⟩ ∧ b < w.heap.size ∧ ∀ k, k < l.length → w.cell? ⟨b, o + k * 2, none⟩ = some (.int .i64 (ra l k)) ∧ w.cell? ⟨b, o + k * 2 + 1, none⟩ = some (.int .i64 (rc l k)))
theorem Crs.below {w W : World} {A : Option Addr} {l : List Cr} (h : Crs w A l) (hb : Below w.heap.size w W) : Crs W A l := by
  refine ⟨h.1, fun hl => ?_⟩
  obtain ⟨b, o, e, hlt, hc⟩ := h.2 hl
  exact ⟨b, o, e, Nat.lt_of_lt_of_le hlt hb.size, fun k hk => ⟨(hb.cell (p := ⟨b, o + k * 2, none⟩) hlt).trans (hc k hk).1, (hb.cell (p := ⟨b, o + k * 2 + 1, none⟩) hlt).trans (hc k hk).2⟩⟩
theorem Crs.take {w : World} {A : Option Addr} {l : List Cr} (h : Crs w A l) (k : Nat) (hk : k ≤ l.length) : Crs w A (l.take k) := by
  have hl : (l.take k).length = k := by simp; omega
  refine ⟨⟨fun j => ?_, by have := h.1.2; omega⟩, fun h0 => ?_⟩
  · by_cases hj : j < k
    · rw [ra_take l hj, rc_take l hj]; exact h.1.1 j
    · have e : (l.take k).getD j z2 = z2 := by rw [List.getD_eq_getElem?_getD, List.getElem?_eq_none (by omega)]; rfl
      unfold ra rc
      rw [e]
      decide
  obtain ⟨b, o, e, hb, hc⟩ := h.2 (by omega)
  refine ⟨b, o, e, hb, fun j hj => ?_⟩
  have hj' : j < k := by omega
  rw [ra_take l hj', rc_take l hj']
  exact hc j (by omega)
theorem ahead_at (l : List Cr) (A : Option Addr) (c k : Nat) (w : World) (h : Crs w A l) (hk : k ≤ l.length) :
    Calls Tryd.prog 45 #[.slice A l.length c, .int .i64 k] w fun e w' => e = .returned (.int .i64 (ahd l k)) ∧ Below w.heap.size w w' := by
  have hn := h.1.2
  by_cases h0 : k = 0
  · subst h0
    clear h
    rw [ahd_zero]
    generalize l.length = n at *
    go_enter Tryd.func45, Tryd.ntmps45
    go_wp2
    go_ret
    exact ⟨rfl, Below.refl _ _⟩
  · obtain ⟨b, o, rfl, hb, hc⟩ := h.2 (by omega)
    have x1 := (hc (k - 1) (by omega)).2
    have e : ahd l k = rc l (k - 1) := by unfold ahd; rw [if_neg h0]
    have q0 : ((k : Int) == 0) = false := by rw [beq_eq_false_iff_ne]; omega
    have hkn : (k : Int) - 1 = ((k - 1 : Nat) : Int) := by omega
    rw [e]
    clear hc e h
    generalize rc l (k - 1) = z at *
    generalize l.length = n at *
    go_enter Tryd.func45, Tryd.ntmps45
    go_wp2
    go_ret
    exact ⟨rfl, Below.refl _ _⟩
set_option maxHeartbeats 1000000 in
theorem expiry_is (l : List Cr) (A : Option Addr) (c k : Nat) (w : World) (h : Crs w A l) (hk : k < l.length) :
    Calls Tryd.prog 38 #[.slice A l.length c, .int .i64 k] w fun e w' => e = .returned (.bool (isX l k)) ∧ Below w.heap.size w w' := by
  have hn := h.1.2
  by_cases h0 : k + 1 = l.length
  · have S := Lib.hid (fun W hb => ahead_at l A c k W (h.below (w := w) (W := W) hb) (by omega))
    obtain ⟨b, o, rfl, hb, hc⟩ := h.2 (by omega)
    have x1 := (hc k hk).2
    have q0 : ((k : Int) == (l.length : Int) - 1) = true := by rw [beq_iff_eq]; omega
    have v0 : IntKind.i64.wrap ((l.length : Int) - 1) = (l.length : Int) - 1 := IntWalk.i64_in _ (by omega)
    have e : isX l k = (rc l k == ahd l k) := by unfold isX; rw [decide_eq_true h0, Bool.true_and]; rfl
    rw [e]
    clear hc e h
    have G := Lib.hid (fun d' os => below_at (w := w) (T := fun W => Below w.heap.size w W) S.out (fun W hb2 => hb2) d' os)
    have c0 : ∀ d' os, (Sort.grow (redrawn w d') os).cell? ⟨b, o + k * 2 + 1, none⟩ = some (.int .i64 (rc l k)) := fun d' os => cell_regrown x1 d' os
    generalize rc l k = z at *
    generalize ahd l k = y at *
    generalize l.length = n at *
    clear S x1
    go_enter Tryd.func38, Tryd.ntmps38
    go_wp2_with fail
    refine wp_region_quiet_below (by kernel_rfl) (by kernel_rfl) ?_
    repeat (quiet_step ((go_at_call 45; with_reducible exact G.out _ _)))
    refine wpQuiet_nil ?_
    intro _ hw'
    obtain ⟨⟨dq, osq⟩, hw''⟩ := hw'
    subst hw''
    have hbz := Lib.hid (below_regrown w dq osq)
    generalize Sort.grow (redrawn w dq) osq = W7 at *
    go_wp2
    go_ret
    exact ⟨rfl, hbz.out⟩
  · have q0 : ((k : Int) == (l.length : Int) - 1) = false := by rw [beq_eq_false_iff_ne]; omega
    rw [isX_not h0]
    clear h h0
    generalize l.length = n at *
    go_enter Tryd.func38, Tryd.ntmps38
    go_wp2_with fail
    go_quiet (fail)
    go_wp2
    go_ret
    exact ⟨rfl, bel_drewN (Below.refl _ _) _⟩
set_option maxHeartbeats 4000000 in
theorem check_record (l : List Cr) (A : Option Addr) (c k : Nat) (w : World) (h : Crs w A l) (hk : k < l.length) (hok : ∀ j, j < k → wrg l j = 0) :
    Calls Tryd.prog 34 #[.slice A l.length c, .int .i64 k] w fun e w' => e = .returned (.int .i64 (wrg l k)) ∧ Below w.heap.size w w' := by
  have hn := h.1.2
  have hf := h.1.1 k
  have hg := h.1.1 (k - 1)
  have S := Lib.hid (ahead_at l A c k w h (by omega))
  have X := Lib.hid (fun W hb => expiry_is l A c k W (h.below (w := w) (W := W) hb) hk)
  obtain ⟨hk1, hs1, hs2⟩ := ahd_bd hok
  have ps : 0 < k → 0 ≤ ra l (k - 1) := fun h0 => (wrg_ok.1 (hok (k - 1) (by omega))).2.1
  obtain ⟨b, o, rfl, hb0, hc⟩ := h.2 (by omega)
  have CC : Hid (∀ W, Below w.heap.size w W → W.cell? ⟨b, o + k * 2, none⟩ = some (.int .i64 (ra l k)) ∧ W.cell? ⟨b, o + k * 2 + 1, none⟩ = some (.int .i64 (rc l k))) := fun W hb =>
    ⟨(hb.cell (p := ⟨b, o + k * 2, none⟩) hb0).trans (hc k hk).1, (hb.cell (p := ⟨b, o + k * 2 + 1, none⟩) hb0).trans (hc k hk).2⟩
  have PV : Hid (0 < k → ∀ W, Below w.heap.size w W → W.cell? ⟨b, o + (k - 1) * 2, none⟩ = some (.int .i64 (ra l (k - 1)))) := fun h0 W hb => (hb.cell (p := ⟨b, o + (k - 1) * 2, none⟩) hb0).trans (hc (k - 1) (by omega)).1
  have WR : Hid (wrg l k = if 200 < k then 8 else if ra l k < 0 then 9 else if rc l k ≠ ahd l k + 1 ∧ rc l k ≠ ahd l k - 1 ∧ isX l k = false then 6 else if 0 < k ∧ ra l k - ra l (k - 1) < (if isX l k = true then 0 else 2419199) then 7 else 0) := rfl
  clear hc hok
  generalize wrg l k = R at *
  generalize ra l k = D at *
  generalize rc l k = C at *
  generalize ra l (k - 1) = P at *
  generalize ahd l k = Y at *
  generalize isX l k = I at *
  generalize l.length = n at *
  have v1 : IntKind.i64.wrap (Y + 1) = Y + 1 := IntWalk.i64_in _ (by omega)
  have v2 : IntKind.i64.wrap (Y - 1) = Y - 1 := IntWalk.i64_in _ (by omega)
  by_cases h200 : 200 < k
  · have e : R = 8 := by rw [WR.out, if_pos h200]
    subst e
    clear WR PV CC
    have t : decide (200 < (k : Int)) = true := by simp; omega
    cases I
    all_goals
      go_enter Tryd.func34, Tryd.ntmps34
      go_wp2_with (first
        | (go_at_call 45; (with_reducible refine (S.out).mono ?_); rintro e w1 ⟨rfl, hb1⟩)
        | (go_at_call 38; (with_reducible refine (X.out _ hb1).mono ?_); rintro e w2 ⟨rfl, hb2⟩))
      go_ret
      exact ⟨rfl, btr hb1 hb2⟩
  have t : decide (200 < (k : Int)) = false := by simp; omega
  by_cases hd : D < 0
  · have e : R = 9 := by rw [WR.out, if_neg h200, if_pos hd]
    subst e
    clear WR PV
    have t2 : decide (D < 0) = true := by simpa using hd
    cases I
    all_goals
      go_enter Tryd.func34, Tryd.ntmps34
      go_wp2_with (first
        | (go_at_call 45; (with_reducible refine (S.out).mono ?_); rintro e w1 ⟨rfl, hb1⟩)
        | (go_at_call 38; (with_reducible refine (X.out _ hb1).mono ?_); rintro e w2 ⟨rfl, hb2⟩; obtain ⟨y0, y1⟩ := CC.out _ (btr hb1 hb2)))
      go_ret
      exact ⟨rfl, btr hb1 hb2⟩
  have t2 : decide (D < 0) = false := by simp; omega
  have W2 : Hid (R = if C ≠ Y + 1 ∧ C ≠ Y - 1 ∧ I = false then 6 else if 0 < k ∧ D - P < (if I = true then 0 else 2419199) then 7 else 0) := by
    show R = _
    rw [WR.out, if_neg h200, if_neg hd]
  clear WR
  by_cases h6 : C ≠ Y + 1 ∧ C ≠ Y - 1 ∧ I = false
  · have e : R = 6 := by rw [W2.out, if_pos h6]
    subst e
    obtain ⟨g1, g2, rfl⟩ := h6
    have t3 : (C != Y + 1) = true := by simpa using g1
    have t4 : (C != Y - 1) = true := by simpa using g2
    clear W2 PV
    go_enter Tryd.func34, Tryd.ntmps34
    go_wp2_with (first
      | (go_at_call 45; (with_reducible refine (S.out).mono ?_); rintro e w1 ⟨rfl, hb1⟩)
      | (go_at_call 38; (with_reducible refine (X.out _ hb1).mono ?_); rintro e w2 ⟨rfl, hb2⟩; obtain ⟨y0, y1⟩ := CC.out _ (btr hb1 hb2)))
    go_ret
    exact ⟨rfl, btr hb1 hb2⟩
  have W3 : Hid (R = if 0 < k ∧ D - P < (if I = true then 0 else 2419199) then 7 else 0) := by
    show R = _
    rw [W2.out, if_neg h6]
  clear W2
  have A3 : Hid ((C != Y + 1) = false ∨ ((C != Y + 1) = true ∧ (C != Y - 1) = false) ∨ ((C != Y + 1) = true ∧ (C != Y - 1) = true ∧ I = true)) := by
    show _ ∨ _ ∨ _
    by_cases g1 : C = Y + 1
    · left; simpa using g1
    · by_cases g2 : C = Y - 1
      · right; left; exact ⟨by simpa using g1, by simpa using g2⟩
      · right; right; refine ⟨by simpa using g1, by simpa using g2, ?_⟩
        cases I
        · exact absurd ⟨g1, g2, rfl⟩ h6
        · rfl
  clear h6
  by_cases h0 : 0 < k
  · have t5 : decide (0 < (k : Int)) = true := by simp; omega
    have hkn : (k : Int) - 1 = ((k - 1 : Nat) : Int) := by omega
    have PV2 := Lib.hid (PV.out h0)
    have hp := ps h0
    have v3 : IntKind.i64.wrap (D - P) = D - P := IntWalk.i64_in _ (by omega)
    clear PV ps
    by_cases ht : D - P < (if I = true then 0 else 2419199)
    · have e : R = 7 := by rw [W3.out, if_pos ⟨h0, ht⟩]
      subst e
      clear W3
      rcases A3.out with t3 | ⟨t3, t4⟩ | ⟨t3, t4, e3⟩
      all_goals clear A3
      all_goals cases I
      all_goals (try (exact absurd e3 (by decide)))
      all_goals (try clear e3)
      all_goals simp only [Bool.false_eq_true, if_false, if_true] at ht
      all_goals have t7 := decide_eq_true ht
      all_goals clear ht
      all_goals as_aux_lemma =>
        go_enter Tryd.func34, Tryd.ntmps34
        go_wp2_with (first
          | (go_at_call 45; (with_reducible refine (S.out).mono ?_); rintro e w1 ⟨rfl, hb1⟩)
          | (go_at_call 38; (with_reducible refine (X.out _ hb1).mono ?_); rintro e w2 ⟨rfl, hb2⟩; obtain ⟨y0, y1⟩ := CC.out _ (btr hb1 hb2); have y3 := PV2.out _ (btr hb1 hb2)))
        go_quiet (fail)
        go_wp2
        go_ret
        exact ⟨rfl, bel_drewN (btr hb1 hb2) _⟩
    · have e : R = 0 := by rw [W3.out, if_neg (fun g => ht g.2)]
      subst e
      clear W3
      rcases A3.out with t3 | ⟨t3, t4⟩ | ⟨t3, t4, e3⟩
      all_goals clear A3
      all_goals cases I
      all_goals (try (exact absurd e3 (by decide)))
      all_goals (try clear e3)
      all_goals simp only [Bool.false_eq_true, if_false, if_true] at ht
      all_goals have t7 := decide_eq_false ht
      all_goals clear ht
      all_goals as_aux_lemma =>
        go_enter Tryd.func34, Tryd.ntmps34
        go_wp2_with (first
          | (go_at_call 45; (with_reducible refine (S.out).mono ?_); rintro e w1 ⟨rfl, hb1⟩)
          | (go_at_call 38; (with_reducible refine (X.out _ hb1).mono ?_); rintro e w2 ⟨rfl, hb2⟩; obtain ⟨y0, y1⟩ := CC.out _ (btr hb1 hb2); have y3 := PV2.out _ (btr hb1 hb2)))
        go_quiet (fail)
        go_wp2
        go_ret
        exact ⟨rfl, bel_drewN (btr hb1 hb2) _⟩
  · have t5 : decide (0 < (k : Int)) = false := by simp; omega
    have e : R = 0 := by rw [W3.out, if_neg (fun g => h0 g.1)]
    subst e
    clear W3 PV ps
    rcases A3.out with t3 | ⟨t3, t4⟩ | ⟨t3, t4, e3⟩
    all_goals clear A3
    all_goals cases I
    all_goals (try (exact absurd e3 (by decide)))
    all_goals (try clear e3)
    all_goals as_aux_lemma =>
      go_enter Tryd.func34, Tryd.ntmps34
      go_wp2_with (first
        | (go_at_call 45; (with_reducible refine (S.out).mono ?_); rintro e w1 ⟨rfl, hb1⟩)
        | (go_at_call 38; (with_reducible refine (X.out _ hb1).mono ?_); rintro e w2 ⟨rfl, hb2⟩; obtain ⟨y0, y1⟩ := CC.out _ (btr hb1 hb2)))
      go_quiet (fail)
      go_wp2
      go_ret
      exact ⟨rfl, bel_drewN (btr hb1 hb2) _⟩
/-- at the head of a round of Check. -/
def CHead (l : List Cr) (w : World) (i : Value) (W : World) : Prop :=
  ∃ k : Nat, k ≤ l.length ∧ i = .int .i64 (k : Nat) ∧ Below w.heap.size w W ∧ ∀ j, j < k → wrg l j = 0
def Checked (l : List Cr) (w : World) (e : Ending) (w' : World) : Prop := e = .returned (.tuple #[.int .i64 (pw l : Nat), .int .i64 (ew l)]) ∧ Below w.heap.size w w'
set_option maxHeartbeats 2000000 in
theorem check_at (l : List Cr) (A : Option Addr) (c : Nat) (w : World) (h : Crs w A l) : Calls Tryd.prog 13 #[.slice A l.length c] w (Checked l w) := by
  have hn := h.1.2
  go_enter Tryd.func13, Tryd.ntmps13
  go_wp2
  go_loopw [8] (fun i W => CHead l w i W) (fun i _ => l.length - (intOf i).toNat)
  case atStart => exact ⟨0, Nat.zero_le _, rfl, Below.refl _ _, fun j hj => by omega⟩
  case round =>
    obtain ⟨k, hk, rfl, hb, hok⟩ := hrel
    by_cases hlt : k < l.length
    · have L := Lib.hid (check_record l A c k wr (h.below hb) hlt hok)
      by_cases hw : wrg l k = 0
      · rw [hw] at L
        have R : Hid (∀ W', Below wr.heap.size wr W' → CHead l w (.int .i64 ((k : Int) + 1)) W') := fun W' hb' => ⟨k + 1, by omega, rfl, btr hb hb', fun j hj => by
          rcases Nat.eq_or_lt_of_le (Nat.le_of_lt_succ hj) with rfl | g
          · exact hw
          · exact hok j g⟩
        clear hok h hw
        generalize l.length = n at *
        go_wp2_with (go_at_call 34; with_reducible refine (L.out).mono ?_; rintro e w1 ⟨rfl, hb1⟩; have R1 := R.out _ hb1)
        go_roundw
        case rel => exact R1
        case measure => simp [intOf]; omega
      · obtain ⟨e1, e2⟩ := ew_at hok hlt hw
        have R : Hid (∀ W', Below wr.heap.size wr W' → Checked l w (.returned (.tuple #[.int .i64 (k : Nat), .int .i64 (wrg l k)])) W') := fun W' hb' => ⟨by rw [e1, e2], btr hb hb'⟩
        have t : (wrg l k == 0) = false := by simpa using hw
        clear hok h e1 e2 hw
        generalize wrg l k = z at *
        generalize l.length = n at *
        go_wp2_with (go_at_call 34; with_reducible refine (L.out).mono ?_; rintro e w1 ⟨rfl, hb1⟩; have R1 := R.out _ hb1)
        (try simp only [Exit.inBlock, Exit.then])
        exact bodyPost_ret (v := .tuple #[.int .i64 (k : Nat), .int .i64 z]) (by simp [results, Tryd.results13, go_sem]) rfl R1
    · obtain rfl : k = l.length := by omega
      obtain ⟨e1, e2⟩ := ew_end hok
      have R : Hid (∀ W', Below w.heap.size w W' → Checked l w (.returned (.tuple #[.int .i64 (l.length : Nat), .int .i64 0])) W') := fun W' hb' => ⟨by rw [e1, e2], hb'⟩
      clear hok h hlt hk e1 e2
      generalize l.length = n at *
      go_wp2
      exact bodyPost_ret (v := .tuple #[.int .i64 (n : Nat), .int .i64 0]) (by simp [results, Tryd.results13, go_sem]) rfl (R.out _ hb)
theorem right_at (l : List Cr) (A : Option Addr) (c : Nat) (w : World) (h : Crs w A l) : Calls Tryd.prog 16 #[.slice A l.length c] w fun e w' => e = .returned (.bool (ew l == 0)) ∧ Below w.heap.size w w' := by
  have C := Lib.hid (check_at l A c w h)
  unfold Checked at C
  clear h
  generalize ew l = z at *
  generalize pw l = p at *
  generalize l.length = n at *
  go_enter Tryd.func16, Tryd.ntmps16
  go_wp2_with (go_at_call 13; with_reducible refine (C.out).mono ?_; rintro e w1 ⟨rfl, hb1⟩)
  go_ret
  exact ⟨rfl, hb1⟩
/-- what Expiry tells. -/
def xat (l : List Cr) : Int := if hasX l = true then ra l (l.length - 1) else 0
theorem expiry_at (l : List Cr) (A : Option Addr) (c : Nat) (w : World) (h : Crs w A l) : Calls Tryd.prog 19 #[.slice A l.length c] w fun e w' => e = .returned (.tuple #[.int .i64 (xat l), .bool (hasX l)]) ∧ Below w.heap.size w w' := by
  have hn := h.1.2
  by_cases h0 : l.length = 0
  · have e : hasX l = false := by unfold hasX; rw [h0]; rfl
    have e2 : xat l = 0 := by unfold xat; rw [e]; rfl
    rw [e, e2]
    clear h e e2
    rw [h0]
    go_enter Tryd.func19, Tryd.ntmps19
    go_wp2
    exact bodyPost_ret (v := .tuple #[.int .i64 0, .bool false]) (by simp [results, Tryd.results19, go_sem]) rfl ⟨rfl, Below.refl _ _⟩
  · have X := Lib.hid (expiry_is l A c (l.length - 1) w h (by omega))
    have q0 : ((l.length : Int) == 0) = false := by rw [beq_eq_false_iff_ne]; omega
    have hln : (l.length : Int) - 1 = ((l.length - 1 : Nat) : Int) := by omega
    have e : hasX l = isX l (l.length - 1) := by unfold hasX; rw [decide_eq_true h0, Bool.true_and]
    obtain ⟨b, o, rfl, hb0, hc⟩ := h.2 h0
    have CC : Hid (∀ W, Below w.heap.size w W → W.cell? ⟨b, o + (l.length - 1) * 2, none⟩ = some (.int .i64 (ra l (l.length - 1)))) := fun W hb =>
      (hb.cell (p := ⟨b, o + (l.length - 1) * 2, none⟩) hb0).trans (hc _ (by omega)).1
    unfold xat
    rw [e]
    clear h hc e
    generalize ra l (l.length - 1) = D at *
    generalize isX l (l.length - 1) = I at *
    generalize l.length = n at *
    cases I
    · simp only [Bool.false_eq_true, if_false]
      go_enter Tryd.func19, Tryd.ntmps19
      go_wp2_with (go_at_call 38; with_reducible refine (X.out).mono ?_; rintro e w1 ⟨rfl, hb1⟩)
      exact bodyPost_ret (v := .tuple #[.int .i64 0, .bool false]) (by simp [results, Tryd.results19, go_sem]) rfl ⟨rfl, hb1⟩
    · simp only [if_true]
      go_enter Tryd.func19, Tryd.ntmps19
      go_wp2_with (go_at_call 38; with_reducible refine (X.out).mono ?_; rintro e w1 ⟨rfl, hb1⟩; have y0 := CC.out _ hb1)
      exact bodyPost_ret (v := .tuple #[.int .i64 D, .bool true]) (by simp [results, Tryd.results19, go_sem]) rfl ⟨rfl, hb1⟩
set_option maxRecDepth 100000 in
theorem cutR (A : Option Addr) (n c f : Nat) (h : f ≤ c) (W : World) : (Instr.slice 25 (.slice A n c) none (some (.int .i64 (f : Nat))) none).run Tryd.prog W = .ok (.slice A f c) W := by
  rw [run_slice_h (P := Tryd.prog) W 25 A n c Tryd.underlying25 .i64 f (by omega) (by omega)]
  rw [show (Go.sizeOf (Tryd.prog.elem 25)).run Tryd.prog W = .ok 2 W by kernel_rfl]
  simp only [Result.andThen, sliced, Int.toNat_natCast, Nat.sub_zero, Nat.zero_mul]
  cases A with
  | none => simp
  | some a => simp [Addr.add]
theorem leaps_at (l : List Cr) (A : Option Addr) (c : Nat) (w : World) (h : Crs w A l) (hc : l.length ≤ c) : Calls Tryd.prog 42 #[.slice A l.length c] w fun e w' => e = .returned (.slice A (nl l) c) ∧ Below w.heap.size w w' := by
  have hn := h.1.2
  have X := Lib.hid (expiry_at l A c w h)
  clear h
  generalize xat l = D at *
  cases hx : hasX l
  · rw [hx] at X
    rw [nl_no hx]
    clear hx
    generalize l.length = n at *
    go_enter Tryd.func42, Tryd.ntmps42
    go_wp2_with (go_at_call 19; with_reducible refine (X.out).mono ?_; rintro e w1 ⟨rfl, hb1⟩)
    go_ret
    exact ⟨rfl, hb1⟩
  · rw [hx] at X
    have e := nl_yes hx
    have q := fun W => cutR A l.length c (nl l) (by omega) W
    have hln : (l.length : Int) - 1 = ((nl l : Nat) : Int) := by omega
    clear hx
    generalize nl l = m at *
    generalize l.length = n at *
    go_enter Tryd.func42, Tryd.ntmps42
    go_wp2_with (go_at_call 19; with_reducible refine (X.out).mono ?_; rintro e w1 ⟨rfl, hb1⟩)
    go_ret
    exact ⟨rfl, hb1⟩
end Go.Proofs.YtcikcdeihlmbcaaDoor.rec
