/-
  The document's own Check and Right of layer 12. Condition: the slice reads as the row of records.
-/
import Derived.Test.YtcikcdeihlmbcaaDoorRef12
import Derived.Test.YtcikcdeihlmbcaaDoorRef01Sub
namespace Go.Proofs.YtcikcdeihlmbcaaDoor.ref12
open Go.ChangeShapes Go.WideShapes Go.ChangeAt Go.RowKit
open rm mem
open rec (Crs Fit)
set_option linter.unusedVariables false
set_option maxRecDepth 100000

/-- at the head of a round of Check. -/
def CHead (l : List Cr) (w : World) (i : Value) (W : World) : Prop :=
  ∃ k : Nat, k ≤ l.length ∧ i = .int .i64 (k : Nat) ∧ Below w.heap.size w W ∧ ∀ j, j < k → wrg l j = 0
def Checked (l : List Cr) (w : World) (e : Ending) (w' : World) : Prop := e = .returned (.tuple #[.int .i64 (pw l : Nat), .int .i64 (ew l)]) ∧ Below w.heap.size w w'
theorem sub_is (a b : Int) (ha : ref01.fit a) (hb : ref01.fit b) : ∃ s ok, ((ok = true ∧ s = a - b) ∨ (ok = false ∧ a ≠ b + 1 ∧ a ≠ b - 1 ∧ a ≠ b)) ∧ ∀ W, Calls Tryd.prog 36 #[.int .i64 a, .int .i64 b] W fun e w' => e = .returned (.tuple #[.int .i64 s, .bool ok]) ∧ Below W.heap.size W w' := by
  by_cases h : ref01.fit (a - b)
  · exact ⟨a - b, true, Or.inl ⟨rfl, rfl⟩, fun W => ref01.sub_yes a b W ha hb h⟩
  · refine ⟨0, false, Or.inr ⟨rfl, ?_, ?_, ?_⟩, fun W => ref01.sub_no a b W ha hb h⟩
    · rintro rfl; exact h (by unfold ref01.fit; omega)
    · rintro rfl; exact h (by unfold ref01.fit; omega)
    · rintro rfl; exact h (by unfold ref01.fit; omega)
set_option maxHeartbeats 8000000 in
theorem check_at (l : List Cr) (A : Option Addr) (c : Nat) (w : World) (h : Crs w A l) : Calls Tryd.prog 14 #[.slice A l.length c] w (Checked l w) := by
  have hn := h.1.2
  go_enter Tryd.func14, Tryd.ntmps14
  go_wp2
  go_loopw [4] (fun i W => CHead l w i W) (fun i _ => l.length - (intOf i).toNat)
  case atStart => exact ⟨0, Nat.zero_le _, rfl, Below.refl _ _, fun j hj => by omega⟩
  case round =>
    obtain ⟨k, hk, rfl, hb, hok⟩ := hrel
    by_cases hlt : k < l.length
    · have hf := h.1.1 k
      obtain ⟨hk1, hs1, hs2⟩ := ahd_bd hok
      have hk201 : (k : Int) ≤ 201 := by omega
      have ps : 0 < k → 0 ≤ ra l (k - 1) ∧ ra l (k - 1) ≤ 9223372036854775807 := fun h0 => ⟨(wrg_ok.1 (hok (k - 1) (by omega))).2.1, (h.1.1 (k - 1)).1.2⟩
      have AH := Lib.hid (fun W hb => ahead_at l A c k W (h.below (w := w) (W := W) hb) (by omega))
      obtain ⟨s, ok, hso, hsub⟩ := sub_is (rc l k) (ahd l k) hf.2 (by unfold ref01.fit; omega)
      have SB := Lib.hid hsub
      obtain ⟨b, o, rfl, hb0, hcc⟩ := (h.below hb).2 (by omega)
      have hb0w : True := trivial
      have CC : Hid (∀ W, Below wr.heap.size wr W → W.cell? ⟨b, o + k * 2, none⟩ = some (.int .i64 (ra l k)) ∧ W.cell? ⟨b, o + k * 2 + 1, none⟩ = some (.int .i64 (rc l k))) := fun W hb' =>
        ⟨(hb'.cell (p := ⟨b, o + k * 2, none⟩) hb0).trans (hcc k hlt).1, (hb'.cell (p := ⟨b, o + k * 2 + 1, none⟩) hb0).trans (hcc k hlt).2⟩
      have PV : Hid (0 < k → ∀ W, Below wr.heap.size wr W → W.cell? ⟨b, o + (k - 1) * 2, none⟩ = some (.int .i64 (ra l (k - 1)))) := fun h0 W hb' => (hb'.cell (p := ⟨b, o + (k - 1) * 2, none⟩) hb0).trans (hcc (k - 1) (by omega)).1
      have WR : Hid (wrg l k = if 200 < k then 8 else if ra l k < 0 then 9 else if rc l k ≠ ahd l k + 1 ∧ rc l k ≠ ahd l k - 1 ∧ isX l k = false then 6 else if 0 < k ∧ ra l k - ra l (k - 1) < (if isX l k = true then 0 else 2419199) then 7 else 0) := rfl
      have IX : Hid (isX l k = true ↔ k + 1 = l.length ∧ rc l k = ahd l k) := isX_iff
      have GO : Hid (wrg l k = 0 → ∀ W', Below wr.heap.size wr W' → CHead l w (.int .i64 ((k : Int) + 1)) W') := fun hw W' hb' => ⟨k + 1, by omega, rfl, btr hb hb', fun j hj => by
        rcases Nat.eq_or_lt_of_le (Nat.le_of_lt_succ hj) with rfl | g
        · exact hw
        · exact hok j g⟩
      have NO : Hid (∀ z, z ≠ 0 → wrg l k = z → ∀ W', Below wr.heap.size wr W' → Checked l w (.returned (.tuple #[.int .i64 (k : Nat), .int .i64 z])) W') := fun z hz hw W' hb' => by
        obtain ⟨e1, e2⟩ := ew_at hok hlt (by rw [hw]; exact hz)
        exact ⟨by rw [e1, e2, hw], btr hb hb'⟩
      have hA : Below wr.heap.size wr wr := Below.refl _ _
      obtain ⟨y0, y1⟩ := CC.out _ hA
      clear hcc hok hsub h
      generalize wrg l k = G at *
      generalize isX l k = I at *
      generalize ra l k = D at *
      generalize rc l k = C at *
      generalize ra l (k - 1) = P at *
      generalize ahd l k = Y at *
      generalize hln : l.length = n at *
      have AW := Lib.hid (fun W (hb' : Below wr.heap.size wr W) => AH.out W (btr hb hb'))
      clear AH
      have q1 : IntKind.i64.wrap ((n : Int) - 1) = (n : Int) - 1 := IntWalk.i64_in _ (by omega)
      have cq0 := fun d' os => cell_regrown (w := wr) y1 d' os
      have G1 := Lib.hid (fun d' os => below_at (w := wr) (T := fun W => Below wr.heap.size wr W) AW.out (fun W hb2 => hb2) d' os)
      go_wp2_with fail
      refine wp_region_quiet_below (by kernel_rfl) (by kernel_rfl) ?_
      repeat (quiet_step ((go_at_call 35; with_reducible exact G1.out _ _)))
      refine wpQuiet_nil ?_
      intro _ hw'
      obtain ⟨⟨dq, osq⟩, hw''⟩ := hw'
      subst hw''
      have hA := btr hA (below_regrown wr dq osq)
      clear cq0 G1 y0 y1
      generalize Sort.grow (redrawn wr dq) osq = W2 at *
      obtain ⟨y0, y1⟩ := CC.out _ hA
      have cq0 := fun d' os => cell_regrown (w := W2) y1 d' os
      have G1 := Lib.hid (fun d' os => below_at (w := W2) (T := fun W => Below wr.heap.size wr W) AW.out (fun W hb2 => btr hA hb2) d' os)
      have G2 := Lib.hid (fun d' os => below_of SB.out W2 d' os)
      go_wp2_with fail
      refine wp_region_quiet_below (by kernel_rfl) (by kernel_rfl) ?_
      repeat (quiet_step ((first | (go_at_call 35; with_reducible exact G1.out _ _) | (go_at_call 36; with_reducible exact G2.out _ _))))
      refine wpQuiet_nil ?_
      intro _ hw'
      obtain ⟨⟨dq, osq⟩, hw''⟩ := hw'
      subst hw''
      have hA := btr hA (below_regrown W2 dq osq)
      clear cq0 G1 G2 y0 y1 AW SB
      generalize Sort.grow (redrawn W2 dq) osq = W3 at *
      obtain ⟨y0, y1⟩ := CC.out _ hA
      have HC : Hid ((ok = true ∧ (s == 1) = true ∧ C = Y + 1) ∨ (ok = true ∧ (s == 1) = false ∧ (s == -1) = true ∧ C = Y - 1) ∨ (ok = true ∧ (s == 1) = false ∧ (s == -1) = false ∧ C ≠ Y + 1 ∧ C ≠ Y - 1) ∨ (ok = false ∧ C ≠ Y + 1 ∧ C ≠ Y - 1)) := by
        show _ ∨ _
        rcases hso with ⟨rfl, rfl⟩ | ⟨rfl, a1, a2, a3⟩
        · by_cases u1 : C = Y + 1
          · left; exact ⟨rfl, by rw [beq_iff_eq]; omega, u1⟩
          · by_cases u2 : C = Y - 1
            · right; left; exact ⟨rfl, by rw [beq_eq_false_iff_ne]; omega, by rw [beq_iff_eq]; omega, u2⟩
            · right; right; left; exact ⟨rfl, by rw [beq_eq_false_iff_ne]; omega, by rw [beq_eq_false_iff_ne]; omega, u1, u2⟩
        · right; right; right; exact ⟨rfl, a1, a2⟩
      have hkn : (k : Int) - 1 = ((k : Int) - 1) := rfl
      clear hso hkn
      rcases HC.out with ⟨rfl, t1, c1⟩ | ⟨rfl, t1, t2, c1⟩ | ⟨rfl, t1, t2, c1, c2⟩ | ⟨rfl, c1, c2⟩
      · clear HC
        by_cases h200 : 200 < k
        · have t3 : decide (200 < (k : Int)) = true := by simp; omega
          have t3' : decide (200 < k) = true := by simp; omega
          have R := Lib.hid (NO.out 8 (by decide) (by rw [WR.out, if_pos h200]))
          clear NO GO PV
          as_aux_lemma =>
            go_wp2_with fail
            exact bodyPost_ret (v := .tuple #[.int .i64 (k : Nat), .int .i64 8]) (by simp [results, Tryd.results14, go_sem]) rfl (R.out _ hA)
        · have t3 : decide (200 < (k : Int)) = false := by simp; omega
          have t3' : decide (200 < k) = false := by simp; omega
          by_cases hd : D < 0
          · have t4 : decide (D < 0) = true := by simpa using hd
            have R := Lib.hid (NO.out 9 (by decide) (by rw [WR.out, if_neg h200, if_pos hd]))
            clear NO GO PV
            as_aux_lemma =>
              go_wp2_with fail
              exact bodyPost_ret (v := .tuple #[.int .i64 (k : Nat), .int .i64 9]) (by simp [results, Tryd.results14, go_sem]) rfl (R.out _ hA)
          · have t4 : decide (D < 0) = false := by simp; omega
            have ts : (C == Y) = false := by rw [beq_eq_false_iff_ne]; omega
            have hi : I = false := by cases hI : I; rfl; exact absurd (IX.out.1 hI).2 (by omega)
            have n6 : ¬ (C ≠ Y + 1 ∧ C ≠ Y - 1 ∧ I = false) := by omega
            clear c1
            have W4 : G = if 0 < k ∧ D - P < 2419199 then 7 else 0 := by rw [WR.out, if_neg h200, if_neg hd, if_neg n6, hi]; rfl
            by_cases h0 : 0 < k
            · have t5 : decide (0 < (k : Int)) = true := by simp; omega
              have t5' : decide (0 < k) = true := by simp; omega
              have hkn : (k : Int) - 1 = ((k - 1 : Nat) : Int) := by omega
              obtain ⟨p1, p2⟩ := ps h0
              have y3 := PV.out h0 _ hA
              have v3 : IntKind.i64.wrap (D - P) = D - P := IntWalk.i64_in _ (by omega)
              by_cases ht : D - P < 2419199
              · have t7 : decide (D - P < 2419199) = true := by simpa using ht
                have R := Lib.hid (NO.out 7 (by decide) (by rw [W4, if_pos ⟨h0, ht⟩]))
                clear NO GO PV W4 n6 hi ht
                as_aux_lemma =>
                  go_wp2_with fail
                  go_quiet (fail)
                  go_wp2_with fail
                  exact bodyPost_ret (v := .tuple #[.int .i64 (k : Nat), .int .i64 7]) (by simp [results, Tryd.results14, go_sem]) rfl (R.out _ (bel_drewN hA _))
              · have t7 : decide (D - P < 2419199) = false := by simp; omega
                have t8 : decide (D < P) = false := by simp; omega
                have R := Lib.hid (GO.out (by rw [W4, if_neg (fun g => ht g.2)]))
                clear NO GO PV W4 n6 hi ht
                as_aux_lemma =>
                  go_wp2_with fail
                  go_quiet (fail)
                  go_wp2_with fail
                  exact ⟨R.out _ (bel_drewN hA _), by simp [intOf]; omega⟩
            · have t5 : decide (0 < (k : Int)) = false := by simp; omega
              have t5' : decide (0 < k) = false := by simp; omega
              have R := Lib.hid (GO.out (by rw [W4, if_neg (fun g => h0 g.1)]))
              clear NO GO PV W4 n6 hi
              as_aux_lemma =>
                go_wp2_with fail
                go_quiet (fail)
                go_wp2_with fail
                exact ⟨R.out _ (bel_drewN hA _), by simp [intOf]; omega⟩
      · clear HC
        by_cases h200 : 200 < k
        · have t3 : decide (200 < (k : Int)) = true := by simp; omega
          have t3' : decide (200 < k) = true := by simp; omega
          have R := Lib.hid (NO.out 8 (by decide) (by rw [WR.out, if_pos h200]))
          clear NO GO PV
          as_aux_lemma =>
            go_wp2_with fail
            exact bodyPost_ret (v := .tuple #[.int .i64 (k : Nat), .int .i64 8]) (by simp [results, Tryd.results14, go_sem]) rfl (R.out _ hA)
        · have t3 : decide (200 < (k : Int)) = false := by simp; omega
          have t3' : decide (200 < k) = false := by simp; omega
          by_cases hd : D < 0
          · have t4 : decide (D < 0) = true := by simpa using hd
            have R := Lib.hid (NO.out 9 (by decide) (by rw [WR.out, if_neg h200, if_pos hd]))
            clear NO GO PV
            as_aux_lemma =>
              go_wp2_with fail
              exact bodyPost_ret (v := .tuple #[.int .i64 (k : Nat), .int .i64 9]) (by simp [results, Tryd.results14, go_sem]) rfl (R.out _ hA)
          · have t4 : decide (D < 0) = false := by simp; omega
            have ts : (C == Y) = false := by rw [beq_eq_false_iff_ne]; omega
            have hi : I = false := by cases hI : I; rfl; exact absurd (IX.out.1 hI).2 (by omega)
            have n6 : ¬ (C ≠ Y + 1 ∧ C ≠ Y - 1 ∧ I = false) := by omega
            clear c1
            have W4 : G = if 0 < k ∧ D - P < 2419199 then 7 else 0 := by rw [WR.out, if_neg h200, if_neg hd, if_neg n6, hi]; rfl
            by_cases h0 : 0 < k
            · have t5 : decide (0 < (k : Int)) = true := by simp; omega
              have t5' : decide (0 < k) = true := by simp; omega
              have hkn : (k : Int) - 1 = ((k - 1 : Nat) : Int) := by omega
              obtain ⟨p1, p2⟩ := ps h0
              have y3 := PV.out h0 _ hA
              have v3 : IntKind.i64.wrap (D - P) = D - P := IntWalk.i64_in _ (by omega)
              by_cases ht : D - P < 2419199
              · have t7 : decide (D - P < 2419199) = true := by simpa using ht
                have R := Lib.hid (NO.out 7 (by decide) (by rw [W4, if_pos ⟨h0, ht⟩]))
                clear NO GO PV W4 n6 hi ht
                as_aux_lemma =>
                  go_wp2_with fail
                  go_quiet (fail)
                  go_wp2_with fail
                  exact bodyPost_ret (v := .tuple #[.int .i64 (k : Nat), .int .i64 7]) (by simp [results, Tryd.results14, go_sem]) rfl (R.out _ (bel_drewN hA _))
              · have t7 : decide (D - P < 2419199) = false := by simp; omega
                have t8 : decide (D < P) = false := by simp; omega
                have R := Lib.hid (GO.out (by rw [W4, if_neg (fun g => ht g.2)]))
                clear NO GO PV W4 n6 hi ht
                as_aux_lemma =>
                  go_wp2_with fail
                  go_quiet (fail)
                  go_wp2_with fail
                  exact ⟨R.out _ (bel_drewN hA _), by simp [intOf]; omega⟩
            · have t5 : decide (0 < (k : Int)) = false := by simp; omega
              have t5' : decide (0 < k) = false := by simp; omega
              have R := Lib.hid (GO.out (by rw [W4, if_neg (fun g => h0 g.1)]))
              clear NO GO PV W4 n6 hi
              as_aux_lemma =>
                go_wp2_with fail
                go_quiet (fail)
                go_wp2_with fail
                exact ⟨R.out _ (bel_drewN hA _), by simp [intOf]; omega⟩
      · clear HC
        by_cases h200 : 200 < k
        · have t3 : decide (200 < (k : Int)) = true := by simp; omega
          have t3' : decide (200 < k) = true := by simp; omega
          have R := Lib.hid (NO.out 8 (by decide) (by rw [WR.out, if_pos h200]))
          clear NO GO PV
          as_aux_lemma =>
            go_wp2_with fail
            exact bodyPost_ret (v := .tuple #[.int .i64 (k : Nat), .int .i64 8]) (by simp [results, Tryd.results14, go_sem]) rfl (R.out _ hA)
        · have t3 : decide (200 < (k : Int)) = false := by simp; omega
          have t3' : decide (200 < k) = false := by simp; omega
          by_cases hd : D < 0
          · have t4 : decide (D < 0) = true := by simpa using hd
            have R := Lib.hid (NO.out 9 (by decide) (by rw [WR.out, if_neg h200, if_pos hd]))
            clear NO GO PV
            as_aux_lemma =>
              go_wp2_with fail
              exact bodyPost_ret (v := .tuple #[.int .i64 (k : Nat), .int .i64 9]) (by simp [results, Tryd.results14, go_sem]) rfl (R.out _ hA)
          · have t4 : decide (D < 0) = false := by simp; omega
            by_cases hl : (k : Int) = (n : Int) - 1
            · have tl : ((k : Int) == (n : Int) - 1) = true := by simpa using hl
              by_cases hs : C = Y
              · have ts : (C == Y) = true := by simpa using hs
                have hi : I = true := IX.out.2 ⟨by omega, hs⟩
                have n6 : ¬ (C ≠ Y + 1 ∧ C ≠ Y - 1 ∧ I = false) := by rw [hi]; rintro ⟨_, _, g⟩; cases g
                clear hl
                have W4 : G = if 0 < k ∧ D - P < 0 then 7 else 0 := by rw [WR.out, if_neg h200, if_neg hd, if_neg n6, hi]; rfl
                by_cases h0 : 0 < k
                · have t5 : decide (0 < (k : Int)) = true := by simp; omega
                  have t5' : decide (0 < k) = true := by simp; omega
                  have hkn : (k : Int) - 1 = ((k - 1 : Nat) : Int) := by omega
                  obtain ⟨p1, p2⟩ := ps h0
                  have y3 := PV.out h0 _ hA
                  have v3 : IntKind.i64.wrap (D - P) = D - P := IntWalk.i64_in _ (by omega)
                  by_cases ht : D - P < 0
                  · have t7 : decide (D - P < 0) = true := by simpa using ht
                    have t8 : decide (D < P) = true := by simp; omega
                    have R := Lib.hid (NO.out 7 (by decide) (by rw [W4, if_pos ⟨h0, ht⟩]))
                    clear NO GO PV W4 n6 hi ht
                    as_aux_lemma =>
                      go_wp2_with fail
                      go_quiet (fail)
                      go_wp2_with fail
                      exact bodyPost_ret (v := .tuple #[.int .i64 (k : Nat), .int .i64 7]) (by simp [results, Tryd.results14, go_sem]) rfl (R.out _ (bel_drewN hA _))
                  · have t7 : decide (D - P < 0) = false := by simp; omega
                    have t8 : decide (D < P) = false := by simp; omega
                    have R := Lib.hid (GO.out (by rw [W4, if_neg (fun g => ht g.2)]))
                    clear NO GO PV W4 n6 hi ht
                    as_aux_lemma =>
                      go_wp2_with fail
                      go_quiet (fail)
                      go_wp2_with fail
                      exact ⟨R.out _ (bel_drewN hA _), by simp [intOf]; omega⟩
                · have t5 : decide (0 < (k : Int)) = false := by simp; omega
                  have t5' : decide (0 < k) = false := by simp; omega
                  have R := Lib.hid (GO.out (by rw [W4, if_neg (fun g => h0 g.1)]))
                  clear NO GO PV W4 n6 hi
                  as_aux_lemma =>
                    go_wp2_with fail
                    go_quiet (fail)
                    go_wp2_with fail
                    exact ⟨R.out _ (bel_drewN hA _), by simp [intOf]; omega⟩
              · have ts : (C == Y) = false := by simpa using hs
                have hi : I = false := by cases hI : I; rfl; exact absurd (IX.out.1 hI).2 hs
                have R := Lib.hid (NO.out 6 (by decide) (by rw [WR.out, if_neg h200, if_neg hd, if_pos ⟨c1, c2, hi⟩]))
                clear NO GO PV hi hl
                as_aux_lemma =>
                  go_wp2_with fail
                  exact bodyPost_ret (v := .tuple #[.int .i64 (k : Nat), .int .i64 6]) (by simp [results, Tryd.results14, go_sem]) rfl (R.out _ hA)
            · have tl : ((k : Int) == (n : Int) - 1) = false := by simpa using hl
              have hi : I = false := by cases hI : I; rfl; exact absurd (IX.out.1 hI).1 (by omega)
              have R := Lib.hid (NO.out 6 (by decide) (by rw [WR.out, if_neg h200, if_neg hd, if_pos ⟨c1, c2, hi⟩]))
              clear NO GO PV hi hl
              as_aux_lemma =>
                go_wp2_with fail
                exact bodyPost_ret (v := .tuple #[.int .i64 (k : Nat), .int .i64 6]) (by simp [results, Tryd.results14, go_sem]) rfl (R.out _ hA)
      · clear HC
        by_cases h200 : 200 < k
        · have t3 : decide (200 < (k : Int)) = true := by simp; omega
          have t3' : decide (200 < k) = true := by simp; omega
          have R := Lib.hid (NO.out 8 (by decide) (by rw [WR.out, if_pos h200]))
          clear NO GO PV
          as_aux_lemma =>
            go_wp2_with fail
            exact bodyPost_ret (v := .tuple #[.int .i64 (k : Nat), .int .i64 8]) (by simp [results, Tryd.results14, go_sem]) rfl (R.out _ hA)
        · have t3 : decide (200 < (k : Int)) = false := by simp; omega
          have t3' : decide (200 < k) = false := by simp; omega
          by_cases hd : D < 0
          · have t4 : decide (D < 0) = true := by simpa using hd
            have R := Lib.hid (NO.out 9 (by decide) (by rw [WR.out, if_neg h200, if_pos hd]))
            clear NO GO PV
            as_aux_lemma =>
              go_wp2_with fail
              exact bodyPost_ret (v := .tuple #[.int .i64 (k : Nat), .int .i64 9]) (by simp [results, Tryd.results14, go_sem]) rfl (R.out _ hA)
          · have t4 : decide (D < 0) = false := by simp; omega
            by_cases hl : (k : Int) = (n : Int) - 1
            · have tl : ((k : Int) == (n : Int) - 1) = true := by simpa using hl
              by_cases hs : C = Y
              · have ts : (C == Y) = true := by simpa using hs
                have hi : I = true := IX.out.2 ⟨by omega, hs⟩
                have n6 : ¬ (C ≠ Y + 1 ∧ C ≠ Y - 1 ∧ I = false) := by rw [hi]; rintro ⟨_, _, g⟩; cases g
                clear hl
                have W4 : G = if 0 < k ∧ D - P < 0 then 7 else 0 := by rw [WR.out, if_neg h200, if_neg hd, if_neg n6, hi]; rfl
                by_cases h0 : 0 < k
                · have t5 : decide (0 < (k : Int)) = true := by simp; omega
                  have t5' : decide (0 < k) = true := by simp; omega
                  have hkn : (k : Int) - 1 = ((k - 1 : Nat) : Int) := by omega
                  obtain ⟨p1, p2⟩ := ps h0
                  have y3 := PV.out h0 _ hA
                  have v3 : IntKind.i64.wrap (D - P) = D - P := IntWalk.i64_in _ (by omega)
                  by_cases ht : D - P < 0
                  · have t7 : decide (D - P < 0) = true := by simpa using ht
                    have t8 : decide (D < P) = true := by simp; omega
                    have R := Lib.hid (NO.out 7 (by decide) (by rw [W4, if_pos ⟨h0, ht⟩]))
                    clear NO GO PV W4 n6 hi ht
                    as_aux_lemma =>
                      go_wp2_with fail
                      go_quiet (fail)
                      go_wp2_with fail
                      exact bodyPost_ret (v := .tuple #[.int .i64 (k : Nat), .int .i64 7]) (by simp [results, Tryd.results14, go_sem]) rfl (R.out _ (bel_drewN hA _))
                  · have t7 : decide (D - P < 0) = false := by simp; omega
                    have t8 : decide (D < P) = false := by simp; omega
                    have R := Lib.hid (GO.out (by rw [W4, if_neg (fun g => ht g.2)]))
                    clear NO GO PV W4 n6 hi ht
                    as_aux_lemma =>
                      go_wp2_with fail
                      go_quiet (fail)
                      go_wp2_with fail
                      exact ⟨R.out _ (bel_drewN hA _), by simp [intOf]; omega⟩
                · have t5 : decide (0 < (k : Int)) = false := by simp; omega
                  have t5' : decide (0 < k) = false := by simp; omega
                  have R := Lib.hid (GO.out (by rw [W4, if_neg (fun g => h0 g.1)]))
                  clear NO GO PV W4 n6 hi
                  as_aux_lemma =>
                    go_wp2_with fail
                    go_quiet (fail)
                    go_wp2_with fail
                    exact ⟨R.out _ (bel_drewN hA _), by simp [intOf]; omega⟩
              · have ts : (C == Y) = false := by simpa using hs
                have hi : I = false := by cases hI : I; rfl; exact absurd (IX.out.1 hI).2 hs
                have R := Lib.hid (NO.out 6 (by decide) (by rw [WR.out, if_neg h200, if_neg hd, if_pos ⟨c1, c2, hi⟩]))
                clear NO GO PV hi hl
                as_aux_lemma =>
                  go_wp2_with fail
                  exact bodyPost_ret (v := .tuple #[.int .i64 (k : Nat), .int .i64 6]) (by simp [results, Tryd.results14, go_sem]) rfl (R.out _ hA)
            · have tl : ((k : Int) == (n : Int) - 1) = false := by simpa using hl
              have hi : I = false := by cases hI : I; rfl; exact absurd (IX.out.1 hI).1 (by omega)
              have R := Lib.hid (NO.out 6 (by decide) (by rw [WR.out, if_neg h200, if_neg hd, if_pos ⟨c1, c2, hi⟩]))
              clear NO GO PV hi hl
              as_aux_lemma =>
                go_wp2_with fail
                exact bodyPost_ret (v := .tuple #[.int .i64 (k : Nat), .int .i64 6]) (by simp [results, Tryd.results14, go_sem]) rfl (R.out _ hA)
    · obtain rfl : k = l.length := by omega
      obtain ⟨e1, e2⟩ := ew_end hok
      have R : Hid (∀ W', Below w.heap.size w W' → Checked l w (.returned (.tuple #[.int .i64 (l.length : Nat), .int .i64 0])) W') := fun W' hb' => ⟨by rw [e1, e2], hb'⟩
      clear hok h hlt hk e1 e2
      generalize l.length = n at *
      go_wp2
      exact bodyPost_ret (v := .tuple #[.int .i64 (n : Nat), .int .i64 0]) (by simp [results, Tryd.results14, go_sem]) rfl (R.out _ hb)
theorem right_at (l : List Cr) (A : Option Addr) (c : Nat) (w : World) (h : Crs w A l) : Calls Tryd.prog 17 #[.slice A l.length c] w fun e w' => e = .returned (.bool (ew l == 0)) ∧ Below w.heap.size w w' := by
  have C := Lib.hid (check_at l A c w h)
  unfold Checked at C
  clear h
  generalize ew l = z at *
  generalize pw l = p at *
  generalize l.length = n at *
  go_enter Tryd.func17, Tryd.ntmps17
  go_wp2_with (go_at_call 14; with_reducible refine (C.out).mono ?_; rintro e w1 ⟨rfl, hb1⟩)
  go_ret
  exact ⟨rfl, hb1⟩
end Go.Proofs.YtcikcdeihlmbcaaDoor.ref12
