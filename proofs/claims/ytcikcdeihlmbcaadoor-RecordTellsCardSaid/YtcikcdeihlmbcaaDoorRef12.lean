/-
  The document's own answers of layer 12 but for Records, Check and Table: ahead, leaps, Expiry, Sum, Step, Same. Conditions: the slice reads as the row of records; for Sum and Step these are right.
-/
import Derived.Test.YtcikcdeihlmbcaaDoorRecRows
import Derived.WalkMore
namespace Go.Proofs.YtcikcdeihlmbcaaDoor.ref12
open Go.ChangeShapes Go.WideShapes Go.ChangeAt Go.RowKit
open rm mem
open rec (Crs Fit eqC xat)
set_option linter.unusedVariables false
set_option maxRecDepth 100000

theorem ahead_at (l : List Cr) (A : Option Addr) (c k : Nat) (w : World) (h : Crs w A l) (hk : k ≤ l.length) :
    Calls Tryd.prog 35 #[.slice A l.length c, .int .i64 k] w fun e w' => e = .returned (.int .i64 (ahd l k)) ∧ Below w.heap.size w w' := by
  have hn := h.1.2
  by_cases h0 : k = 0
  · subst h0
    clear h
    rw [ahd_zero]
    generalize l.length = n at *
    go_enter Tryd.func35, Tryd.ntmps35
    go_wp2
    go_ret
    exact ⟨rfl, Below.refl _ _⟩
  · obtain ⟨b, o, rfl, hb, hc⟩ := h.2 (by omega)
    have x1 := (hc (k - 1) (by omega)).2
    have e : ahd l k = rc l (k - 1) := by unfold ahd; rw [if_neg h0]
    have q0 : ((k : Int) == 0) = false := by rw [beq_eq_false_iff_ne]; omega
    have hkn : (k : Int) - 1 = ((k - 1 : Nat) : Int) := by omega
    rw [e]
    clear hc e h
    generalize rc l (k - 1) = z at *
    generalize l.length = n at *
    go_enter Tryd.func35, Tryd.ntmps35
    go_wp2
    go_ret
    exact ⟨rfl, Below.refl _ _⟩
set_option maxHeartbeats 1000000 in
theorem leaps_at (l : List Cr) (A : Option Addr) (c : Nat) (w : World) (h : Crs w A l) :
    Calls Tryd.prog 39 #[.slice A l.length c] w fun e w' => e = .returned (.int .i64 (nl l : Nat)) ∧ Below w.heap.size w w' := by
  have hn := h.1.2
  by_cases h0 : l.length = 0
  · have e : nl l = 0 := by have := nl_le l; omega
    rw [e]
    clear h e
    rw [h0]
    go_enter Tryd.func39, Tryd.ntmps39
    go_wp2_with fail
    go_quiet (fail)
    go_wp2
    go_ret
    exact ⟨rfl, bel_drewN (Below.refl _ _) _⟩
  · have S := Lib.hid (fun W hb => ahead_at l A c (l.length - 1) W (h.below (w := w) (W := W) hb) (by omega))
    have q0 : decide (0 < (l.length : Int)) = true := by simp; omega
    have q1 : decide (0 < l.length) = true := by simp; omega
    have hkl : l.length - 1 < l.length := by omega
    have hln : (l.length : Int) - 1 = ((l.length - 1 : Nat) : Int) := by omega
    have v0 : IntKind.i64.wrap ((l.length - 1 : Nat) : Int) = ((l.length - 1 : Nat) : Int) := IntWalk.i64_in _ (by omega)
    have v1 : ((l.length - 1 : Nat) : Int).toNat = l.length - 1 := by omega
    obtain ⟨b, o, rfl, hb0, hc⟩ := h.2 h0
    have x1 := (hc (l.length - 1) (by omega)).2
    have HX : Hid (hasX l = (rc l (l.length - 1) == ahd l (l.length - 1))) := by
      show _ = _
      rw [Bool.eq_iff_iff, hasX_iff, beq_iff_eq]
      exact ⟨fun g => g.2, fun g => ⟨h0, g⟩⟩
    have NL : Hid (nl l = if hasX l = true then l.length - 1 else l.length) := rfl
    clear hc h
    have G := Lib.hid (fun d' os => below_at (w := w) (T := fun W => Below w.heap.size w W) S.out (fun W hb2 => hb2) d' os)
    have c0 : ∀ d' os, (Sort.grow (redrawn w d') os).cell? ⟨b, o + (l.length - 1) * 2 + 1, none⟩ = some (.int .i64 (rc l (l.length - 1))) := fun d' os => cell_regrown x1 d' os
    generalize rc l (l.length - 1) = z at *
    generalize ahd l (l.length - 1) = y at *
    generalize hasX l = I at *
    generalize nl l = m at *
    generalize l.length = n at *
    clear S x1
    go_enter Tryd.func39, Tryd.ntmps39
    go_wp2_with fail
    refine wp_region_quiet_below (by kernel_rfl) (by kernel_rfl) ?_
    repeat (quiet_step ((go_at_call 35; with_reducible exact G.out _ _)))
    refine wpQuiet_nil ?_
    intro _ hw'
    obtain ⟨⟨dq, osq⟩, hw''⟩ := hw'
    subst hw''
    have hbz := Lib.hid (below_regrown w dq osq)
    generalize Sort.grow (redrawn w dq) osq = W7 at *
    cases hI : (z == y)
    · have e : m = n := by rw [NL.out, HX.out, hI]; rfl
      subst e
      go_wp2
      go_ret
      exact ⟨rfl, hbz.out⟩
    · have e : m = n - 1 := by rw [NL.out, HX.out, hI]; rfl
      subst e
      go_wp2
      go_ret
      exact ⟨rfl, hbz.out⟩
theorem expiry_at (l : List Cr) (A : Option Addr) (c : Nat) (w : World) (h : Crs w A l) : Calls Tryd.prog 20 #[.slice A l.length c] w fun e w' => e = .returned (.tuple #[.int .i64 (xat l), .bool (hasX l)]) ∧ Below w.heap.size w w' := by
  have hn := h.1.2
  have S := Lib.hid (leaps_at l A c w h)
  cases hx : hasX l
  · have e := nl_no hx
    have e2 : xat l = 0 := by unfold xat; rw [hx]; rfl
    rw [e2]
    rw [e] at S
    clear h hx e e2
    generalize l.length = n at *
    go_enter Tryd.func20, Tryd.ntmps20
    go_wp2_with (go_at_call 39; with_reducible refine (S.out).mono ?_; rintro e w1 ⟨rfl, hb1⟩)
    exact bodyPost_ret (v := .tuple #[.int .i64 0, .bool false]) (by simp [results, Tryd.results20, go_sem]) rfl ⟨rfl, hb1⟩
  · have e := nl_yes hx
    have e2 : xat l = ra l (nl l) := by unfold xat; rw [hx, if_pos rfl, ← e, Nat.add_sub_cancel]
    have t : ((nl l : Int) == (l.length : Int)) = false := by simp; omega
    obtain ⟨b, o, rfl, hb0, hc⟩ := h.2 (by omega)
    have YC : Hid (∀ W, Below w.heap.size w W → W.cell? ⟨b, o + nl l * 2, none⟩ = some (.int .i64 (ra l (nl l)))) := fun W hb => (hb.cell (p := ⟨b, o + nl l * 2, none⟩) hb0).trans (hc _ (by omega)).1
    rw [e2]
    clear h hx e2 hc
    generalize ra l (nl l) = D at *
    generalize nl l = m at *
    generalize l.length = n at *
    go_enter Tryd.func20, Tryd.ntmps20
    go_wp2_with (go_at_call 39; with_reducible refine (S.out).mono ?_; rintro e w1 ⟨rfl, hb1⟩; have y0 := YC.out _ hb1)
    exact bodyPost_ret (v := .tuple #[.int .i64 D, .bool true]) (by simp [results, Tryd.results20, go_sem]) rfl ⟨rfl, hb1⟩
/-- at the head of a round of Sum. -/
def UHead (l : List Cr) (d : Int) (w : World) (s i : Value) (W : World) : Prop :=
  ∃ k : Nat, k ≤ nl l ∧ i = .int .i64 (k : Nat) ∧ s = .int .i64 (ahd l (min k (fx l (d + 1)))) ∧ Below w.heap.size w W
set_option maxHeartbeats 1000000 in
theorem sum_at (l : List Cr) (A : Option Addr) (c : Nat) (d : Int) (w : World) (h : Crs w A l) (hg : rm.Ok l) :
    Calls Tryd.prog 25 #[.slice A l.length c, .int .i64 d] w fun e w' => e = .returned (.int .i64 (rm.sm l d)) ∧ Below w.heap.size w w' := by
  have hn := h.1.2
  have hnl := nl_le l
  have hlen := hg.len
  have LV := Lib.hid (fun W hb => leaps_at l A c W (h.below (w := w) (W := W) hb))
  go_enter Tryd.func25, Tryd.ntmps25
  go_wp2
  go_loopw [5, 6] (fun s i W => UHead l d w s i W) (fun _ i _ => nl l - (intOf i).toNat)
  case atStart => exact ⟨0, Nat.zero_le _, rfl, by rw [Nat.zero_min, ahd_zero], Below.refl _ _⟩
  case round =>
    obtain ⟨k, hk, rfl, rfl, hb⟩ := hrel
    have L1 := Lib.hid (LV.out wr hb)
    by_cases hlt : k < nl l
    · obtain ⟨b, o, rfl, hb0, hc⟩ := (h.below hb).2 (by omega)
      have CC : Hid (∀ W, Below wr.heap.size wr W → W.cell? ⟨b, o + k * 2, none⟩ = some (.int .i64 (ra l k)) ∧ W.cell? ⟨b, o + k * 2 + 1, none⟩ = some (.int .i64 (rc l k))) := fun W hb' =>
        ⟨(hb'.cell (p := ⟨b, o + k * 2, none⟩) hb0).trans (hc k (by omega)).1, (hb'.cell (p := ⟨b, o + k * 2 + 1, none⟩) hb0).trans (hc k (by omega)).2⟩
      by_cases hr : ra l k ≤ d
      · have hf : k < fx l (d + 1) := by
          rcases Nat.lt_or_ge k (fx l (d + 1)) with g | g
          · exact g
          · have := (hg.found (d + 1) hlt).2 g; omega
        have R : Hid (∀ W', Below wr.heap.size wr W' → UHead l d w (.int .i64 (rc l k)) (.int .i64 ((k : Int) + 1)) W') := fun W' hb' => ⟨k + 1, by omega, rfl, by rw [show min (k + 1) (fx l (d + 1)) = k + 1 by omega, ahd_succ], btr hb hb'⟩
        have t3 : decide (ra l k ≤ d) = true := by simpa using hr
        clear h hc LV hr hg
        generalize ahd l (min k (fx l (d + 1))) = N at *
        generalize rc l k = C at *
        generalize ra l k = X at *
        generalize hm : nl l = m at *
        generalize l.length = n at *
        go_wp2_with (go_at_call 39; with_reducible refine (L1.out).mono ?_; rintro e w1 ⟨rfl, hb1⟩; obtain ⟨y0, y1⟩ := CC.out _ hb1)
        exact ⟨R.out _ hb1, by simp [intOf]; omega⟩
      · have hf : fx l (d + 1) ≤ k := by
          rcases Nat.lt_or_ge k (fx l (d + 1)) with g | g
          · have := fx_lt g; omega
          · exact g
        have R : Hid (∀ W', Below wr.heap.size wr W' → UHead l d w (.int .i64 (ahd l (min k (fx l (d + 1))))) (.int .i64 ((k : Int) + 1)) W') := fun W' hb' => ⟨k + 1, by omega, rfl, by rw [show min (k + 1) (fx l (d + 1)) = min k (fx l (d + 1)) by omega], btr hb hb'⟩
        have t3 : decide (ra l k ≤ d) = false := by simpa using hr
        clear h hc LV hr hg
        generalize ahd l (min k (fx l (d + 1))) = N at *
        generalize rc l k = C at *
        generalize ra l k = X at *
        generalize hm : nl l = m at *
        generalize l.length = n at *
        go_wp2_with (go_at_call 39; with_reducible refine (L1.out).mono ?_; rintro e w1 ⟨rfl, hb1⟩; obtain ⟨y0, y1⟩ := CC.out _ hb1)
        exact ⟨R.out _ hb1, by simp [intOf]; omega⟩
    · obtain rfl : k = nl l := by omega
      have e : Hid (ahd l (min (nl l) (fx l (d + 1))) = rm.sm l d) := by show _ = _; have := fx_le l (d + 1); rw [show min (nl l) (fx l (d + 1)) = fx l (d + 1) by omega]; rfl
      clear h LV hg
      generalize ahd l (min (nl l) (fx l (d + 1))) = N at *
      generalize nl l = m at *
      generalize l.length = n at *
      go_wp2_with (go_at_call 39; with_reducible refine (L1.out).mono ?_; rintro e w1 ⟨rfl, hb1⟩)
      go_ret
      exact ⟨congrArg (fun z => Ending.returned (Value.int .i64 z)) e.out, btr hb hb1⟩
/-- at the head of a round of Step. -/
def VHead (l : List Cr) (d : Int) (w : World) (i : Value) (W : World) : Prop :=
  ∃ k : Nat, k ≤ nl l ∧ i = .int .i64 (k : Nat) ∧ Below w.heap.size w W ∧ ∀ j, j < k → ra l j ≠ d
set_option maxHeartbeats 1000000 in
theorem step_at (l : List Cr) (A : Option Addr) (c : Nat) (d : Int) (w : World) (h : Crs w A l) (hg : rm.Ok l) :
    Calls Tryd.prog 27 #[.slice A l.length c, .int .i64 d] w fun e w' => e = .returned (.int .i64 (sp l d)) ∧ Below w.heap.size w w' := by
  have hn := h.1.2
  have hnl := nl_le l
  have hlen := hg.len
  have LV := Lib.hid (fun W hb => leaps_at l A c W (h.below (w := w) (W := W) hb))
  go_enter Tryd.func27, Tryd.ntmps27
  go_wp2
  go_loopw [5] (fun i W => VHead l d w i W) (fun i _ => nl l - (intOf i).toNat)
  case atStart => exact ⟨0, Nat.zero_le _, rfl, Below.refl _ _, fun j hj => by omega⟩
  case round =>
    obtain ⟨k, hk, rfl, hb, hok⟩ := hrel
    have L1 := Lib.hid (LV.out wr hb)
    by_cases hlt : k < nl l
    · have AH := Lib.hid (fun W hb => ahead_at l A c k W (h.below (w := w) (W := W) hb) (by omega))
      obtain ⟨b, o, rfl, hb0, hc⟩ := (h.below hb).2 (by omega)
      have CC : Hid (∀ W, Below wr.heap.size wr W → W.cell? ⟨b, o + k * 2, none⟩ = some (.int .i64 (ra l k)) ∧ W.cell? ⟨b, o + k * 2 + 1, none⟩ = some (.int .i64 (rc l k))) := fun W hb' =>
        ⟨(hb'.cell (p := ⟨b, o + k * 2, none⟩) hb0).trans (hc k (by omega)).1, (hb'.cell (p := ⟨b, o + k * 2 + 1, none⟩) hb0).trans (hc k (by omega)).2⟩
      by_cases hr : ra l k = d
      · have e : sp l d = rc l k - ahd l k := by rw [← hr]; exact (sp_at hg hlt).2
        have st := hg.step hlt
        have ab := hg.ahd (k := k) (by omega)
        have E := Lib.hid e.symm
        have t3 : (ra l k == d) = true := by simpa using hr
        have hkl : k < l.length := by omega
        clear h hc LV hr hg e hok
        generalize ahd l k = Y at *
        generalize rc l k = C at *
        generalize ra l k = X at *
        generalize nl l = m at *
        generalize l.length = n at *
        have v1 : IntKind.i64.wrap (C - Y) = C - Y := IntWalk.i64_in _ (by omega)
        go_wp2_with (go_at_call 39; with_reducible refine (L1.out).mono ?_; rintro e w1 ⟨rfl, hb1⟩; obtain ⟨y0, y1⟩ := CC.out _ hb1)
        have c0 := fun d' os => cell_regrown (w := w1) y1 d' os
        have hA := btr hb hb1
        have G := Lib.hid (fun d' os => below_at (w := w1) (T := fun W => Below w.heap.size w W) AH.out (fun W hb2 => btr hA hb2) d' os)
        refine wp_region_quiet_below (by kernel_rfl) (by kernel_rfl) ?_
        repeat (quiet_step ((go_at_call 35; with_reducible exact G.out _ _)))
        refine wpQuiet_nil ?_
        intro _ hw'
        obtain ⟨⟨dq, osq⟩, hw''⟩ := hw'
        subst hw''
        have hbz := Lib.hid (btr hA (below_regrown w1 dq osq))
        generalize Sort.grow (redrawn w1 dq) osq = W7 at *
        go_wp2
        go_ret
        exact ⟨congrArg (fun z => Ending.returned (Value.int .i64 z)) E.out, hbz.out⟩
      · have R : Hid (∀ W', Below wr.heap.size wr W' → VHead l d w (.int .i64 ((k : Int) + 1)) W') := fun W' hb' => ⟨k + 1, by omega, rfl, btr hb hb', fun j hj => by
          rcases Nat.eq_or_lt_of_le (Nat.le_of_lt_succ hj) with rfl | q
          · exact hr
          · exact hok j q⟩
        have t3 : (ra l k == d) = false := by simpa using hr
        clear h hc LV hr hg hok AH
        generalize rc l k = C at *
        generalize ra l k = X at *
        generalize hm : nl l = m at *
        generalize l.length = n at *
        go_wp2_with (go_at_call 39; with_reducible refine (L1.out).mono ?_; rintro e w1 ⟨rfl, hb1⟩; obtain ⟨y0, y1⟩ := CC.out _ hb1)
        exact ⟨R.out _ hb1, by simp [intOf]; omega⟩
    · obtain rfl : k = nl l := by omega
      have E := Lib.hid (sp_none hok).symm
      clear h LV hg hok
      generalize nl l = m at *
      generalize l.length = n at *
      go_wp2_with (go_at_call 39; with_reducible refine (L1.out).mono ?_; rintro e w1 ⟨rfl, hb1⟩)
      go_ret
      exact ⟨congrArg (fun z => Ending.returned (Value.int .i64 z)) E.out, btr hb hb1⟩
/-- at the head of a round of Same. -/
def SHead (l m : List Cr) (w : World) (i : Value) (W : World) : Prop :=
  ∃ k : Nat, k ≤ l.length ∧ i = .int .i64 (k : Nat) ∧ Below w.heap.size w W ∧ ∀ j, j < k → (ra l j, rc l j) = (ra m j, rc m j)
set_option maxHeartbeats 1000000 in
theorem same_at (l m : List Cr) (A B : Option Addr) (c d : Nat) (w : World) (h : Crs w A l) (g : Crs w B m) :
    Calls Tryd.prog 15 #[.slice A l.length c, .slice B m.length d] w fun e w' => e = .returned (.bool (decide (l = m))) ∧ Below w.heap.size w w' := by
  have hl := h.1.2
  have hm := g.1.2
  by_cases hlen : l.length = m.length
  · have q0 : ((l.length : Int) != (m.length : Int)) = false := by rw [hlen]; simp
    have HLE := Lib.hid hlen
    clear hlen
    go_enter Tryd.func15, Tryd.ntmps15
    go_wp2
    go_loopw [5] (fun i W => SHead l m w i W) (fun i _ => l.length - (intOf i).toNat)
    case atStart => exact ⟨0, Nat.zero_le _, rfl, Below.refl _ _, fun j hj => by omega⟩
    case round =>
      obtain ⟨k, hk, rfl, hb, hok⟩ := hrel
      by_cases hlt : k < l.length
      · have hkm : k < m.length := by have := HLE.out; omega
        obtain ⟨b, o, rfl, hb0, hc⟩ := (h.below hb).2 (by omega)
        obtain ⟨b', o', rfl, hb1, hc'⟩ := (g.below hb).2 (by omega)
        obtain ⟨x0, x1⟩ := hc k hlt
        obtain ⟨y0, y1⟩ := hc' k hkm
        have q := eqC (ra l k) (rc l k) (ra m k) (rc m k)
        by_cases he : (ra l k, rc l k) = (ra m k, rc m k)
        · rw [decide_eq_true he] at q
          have R : Hid (∀ W', Below w.heap.size w W' → SHead l m w (.int .i64 ((k : Int) + 1)) W') := fun W' hb' => ⟨k + 1, by omega, rfl, hb', fun j hj => by
            rcases Nat.eq_or_lt_of_le (Nat.le_of_lt_succ hj) with rfl | e
            · exact he
            · exact hok j e⟩
          clear hok he hc hc' h g
          generalize ra l k = a0 at *
          generalize rc l k = a1 at *
          generalize ra m k = b0 at *
          generalize rc m k = b1 at *
          generalize l.length = n at *
          generalize m.length = n' at *
          go_wp2_with fail
          go_quiet (fail)
          go_wp2
          go_roundw
          case rel => exact R.out _ (bel_drewN hb _)
          case measure => simp [intOf]; omega
        · rw [decide_eq_false he] at q
          have E : Hid (decide (l = m) = false) := decide_eq_false fun e => he (by rw [e])
          clear hok he hc hc' h g
          generalize ra l k = a0 at *
          generalize rc l k = a1 at *
          generalize ra m k = b0 at *
          generalize rc m k = b1 at *
          generalize l.length = n at *
          generalize m.length = n' at *
          go_wp2_with fail
          go_quiet (fail)
          go_wp2
          go_ret
          exact ⟨(congrArg (fun b => Ending.returned (Value.bool b)) E.out).symm, bel_drewN hb _⟩
      · obtain rfl : k = l.length := by omega
        have E : Hid (decide (l = m) = true) := decide_eq_true (ext2 HLE.out (fun k hk => by have := hok k hk; exact ⟨congrArg Prod.fst this, congrArg Prod.snd this⟩))
        clear hok h g
        go_wp2
        go_ret
        exact ⟨(congrArg (fun b => Ending.returned (Value.bool b)) E.out).symm, hb⟩
  · have e : decide (l = m) = false := decide_eq_false fun e => hlen (by rw [e])
    rw [e]
    clear e h g
    have t : ((l.length : Int) != (m.length : Int)) = true := by simp; omega
    clear hlen
    generalize l.length = n at *
    generalize m.length = n' at *
    go_enter Tryd.func15, Tryd.ntmps15
    go_wp2
    go_ret
    exact ⟨rfl, Below.refl _ _⟩
end Go.Proofs.YtcikcdeihlmbcaaDoor.ref12
