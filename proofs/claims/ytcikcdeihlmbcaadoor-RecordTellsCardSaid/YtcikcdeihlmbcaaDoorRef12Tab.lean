/-
  The document's own Table of layer 12, of right records. Conditions: the slice reads as the row of records, and they are right.
-/
import Derived.Test.YtcikcdeihlmbcaaDoorRecTable
import Derived.Test.YtcikcdeihlmbcaaDoorRef12
import Derived.Test.YtcikcdeihlmbcaaDoorRef01Sub
import Derived.Test.YtcikcdeihlmbcaaDoorRef09
namespace Go.Proofs.YtcikcdeihlmbcaaDoor.ref12
open Go.ChangeShapes Go.WideShapes Go.ChangeAt Go.RowKit
open rm mem
open lm (Lp dy tot ce)
open leap (Lps rl tcs tcs_cells tcs_set tcs_frozen szT tcs_one)
open rec (Crs LRow Tabled app_leap wrap_hi lps_setRow lk_done tcs_set1 tcs_set2 tcs_frozenAt)
set_option linter.unusedVariables false
set_option maxRecDepth 100000

/-- all seconds of days are whole days. -/
def Whole (l : List Cr) (n : Nat) : Prop := ∀ k, k < n → mid l k % 86400 = 0
theorem mid_bd {l : List Cr} (h : rm.Ok l) (hf : rec.Fit l) {k : Nat} (hk : k < nl l) : -9223372036854775808 ≤ mid l k ∧ mid l k ≤ 9223372036854775807 ∧ (mid l k < 0 ∨ mid l k = ra l k - ahd l k + (if rc l k - ahd l k = -1 then 1 else 0) ∨ mid l k = ra l k - ahd l k + (if rc l k - ahd l k = -1 then 1 else 0)) := by
  have hn := nl_le l
  have hlen := h.len
  have a := h.ahd (k := k) (by omega)
  have b := (hf k).1
  have c := h.pos (i := k) (by omega)
  unfold mid
  split <;> split <;> omega
theorem lkd_of {l : List Cr} {k : Nat} (h : mid l k % 86400 = 0) : lkd l k = mid l k / 86400 - 1 := by
  unfold lkd
  rw [Int.tdiv_eq_ediv_of_dvd (Int.dvd_of_emod_eq_zero h)]
theorem tb_whole {l : List Cr} (hO : rm.Ok l) (hf : rec.Fit l) : tb l = true ↔ Whole l (nl l) ∧ ce (lk l) (hasX l) (lkx l) = 0 := by
  rw [tb_iff]
  have hn := nl_le l
  have hlen := hO.len
  constructor
  · rintro ⟨h1, h2⟩
    refine ⟨fun k hk => ?_, h1⟩
    have g := lm.good_of h1
    have hk' : k < (lk l).length := by rw [lk_len]; exact hk
    have e := recs_ra (lk l) (hasX l) (lkx l) hk'
    rw [h2] at e
    have d := g.day hk'
    obtain ⟨e1, e2, _⟩ := lk_at l hk
    unfold rat at e
    rw [e1, e2, lk_tot l k (by omega)] at e
    rw [e1] at d
    have m : mid l k = (lkd l k + 1) * 86400 := by
      unfold mid
      split <;> split at e <;> omega
    rw [m]; omega
  · rintro ⟨h1, h2⟩
    refine ⟨h2, ?_⟩
    have g := lm.good_of h2
    obtain ⟨_, hnl⟩ := recs_hasX g (hasX l) (lkx l)
    have hl := recs_len (lk l) (hasX l) (lkx l)
    rw [lk_len] at hl
    have hll : (recs (lk l) (hasX l) (lkx l)).length = l.length := by
      rw [hl]
      cases hx : hasX l
      · simpa using nl_no hx
      · simpa using nl_yes hx
    refine ext2 hll fun k hk => ?_
    rw [hll] at hk
    by_cases hc : k < nl l
    · have hk' : k < (lk l).length := by rw [lk_len]; exact hc
      obtain ⟨e1, e2, _⟩ := lk_at l hc
      have d := g.day hk'
      rw [e1] at d
      have w := h1 k hc
      have ed := lkd_of w
      have mb := mid_bd hO hf hc
      refine ⟨?_, by rw [recs_rc _ _ _ hk', lk_tot l (k + 1) (by omega), ahd_succ]⟩
      rw [recs_ra _ _ _ hk']
      unfold rat
      rw [e1, e2, lk_tot l k (by omega)]
      have m : (lkd l k + 1) * 86400 = mid l k := by omega
      rw [m]
      rcases mb.2.2 with q | q | q
      · omega
      · rw [q]; split <;> omega
      · rw [q]; split <;> omega
    · cases hx : hasX l
      · have := nl_no hx; omega
      · have hy := nl_yes hx
        obtain rfl : k = nl l := by omega
        have hxx : hasX l = true := hx
        have x0 := rec.x_bd (l := lk l) (x := lkx l) (by rw [hx] at h2; exact h2)
        obtain ⟨a, b⟩ := recs_end (lk l) (lkx l)
        rw [lk_len, lk_tot l (nl l) (Nat.le_refl _)] at a b
        rw [a, b]
        have hr : rc l (nl l) = ahd l (nl l) := by have := (hasX_iff.1 hx).2; rw [show l.length - 1 = nl l by omega] at this; exact this
        refine ⟨?_, hr.symm⟩
        have f := (hf (nl l)).1
        have ab := hO.ahd (k := nl l) hn
        unfold lkx at x0 ⊢
        rw [hx, if_pos rfl] at x0 ⊢
        split at x0
        · rename_i q; rw [if_pos q]; omega
        · omega
/-- at the head of a round of Table. -/
def KHead (l : List Cr) (w : World) (s i : Value) (W : World) : Prop :=
  ∃ k A' c', k ≤ nl l ∧ i = .int .i64 (k : Nat) ∧ s = .int .i64 (ahd l k) ∧ Below w.heap.size w W ∧ W.heap[w.heap.size]? = some (.cells (tcs none 0 0 false 0) 24) ∧ W.heap[w.heap.size + 1]? = some (.cells (tcs A' k c' false 0) 24) ∧ LRow W (w.heap.size + 1 + 1) (.slice A' k c') (lkF l k) ∧ Whole l k
set_option maxHeartbeats 8000000 in
theorem table_at (l : List Cr) (A : Option Addr) (c : Nat) (w : World) (h : Crs w A l) (hg : rm.Ok l) :
    Calls Tryd.prog 22 #[.slice A l.length c] w (Tabled l w) := by
  have hn := h.1.2
  have hlen := hg.len
  have hnl := nl_le l
  have hfit := h.1.1
  have hb2 : Below w.heap.size w ((w.alloc (.cells #[.slice none 0 0, .bool false, .int .i64 0] 24)).alloc (.cells #[.slice none 0 0, .bool false, .int .i64 0] 24)) := bal (bal (Below.refl _ _) _) _
  have LV := Lib.hid (leaps_at l A c _ (h.below hb2))
  have HB := Lib.hid hb2
  have k0 : ((w.alloc (.cells #[.slice none 0 0, .bool false, .int .i64 0] 24)).alloc (.cells #[.slice none 0 0, .bool false, .int .i64 0] 24)).heap[w.heap.size]? = some (.cells (tcs none 0 0 false 0) 24) := hp_old (hp_new _ _) _
  have k1 : ((w.alloc (.cells #[.slice none 0 0, .bool false, .int .i64 0] 24)).alloc (.cells #[.slice none 0 0, .bool false, .int .i64 0] 24)).heap[w.heap.size + 1]? = some (.cells (tcs none 0 0 false 0) 24) := hp_new1 w _ _
  have K0 := Lib.hid (fun w1 (hb1 : Below ((w.alloc (.cells #[.slice none 0 0, .bool false, .int .i64 0] 24)).alloc (.cells #[.slice none 0 0, .bool false, .int .i64 0] 24)).heap.size ((w.alloc (.cells #[.slice none 0 0, .bool false, .int .i64 0] 24)).alloc (.cells #[.slice none 0 0, .bool false, .int .i64 0] 24)) w1) => (⟨kept k0 hb1, kept k1 hb1⟩ : _ ∧ _))
  have HA := Lib.hid h
  clear h k0 k1 hb2
  go_enter Tryd.func22, Tryd.ntmps22
  go_wp2_with (go_at_call 39; with_reducible refine (LV.out).mono ?_; rintro e w1 ⟨rfl, hb1⟩; obtain ⟨g0, g1⟩ := K0.out _ hb1)
  go_loopw [6, 7] (fun s i W => KHead l w s i W) (fun _ i _ => nl l - (intOf i).toNat)
  case atStart => exact ⟨0, none, 0, Nat.zero_le _, rfl, rfl, btr HB.out hb1, g0, g1, ⟨rfl, Or.inl ⟨rfl, rfl⟩⟩, fun k hk => by omega⟩
  case round =>
    obtain ⟨k, A', c', hk, rfl, rfl, hb, H0, H1, ho, hwh⟩ := hrel
    clear K0 LV g0 g1
    have hbs : w.heap.size + 1 + 1 ≤ wr.heap.size := hp_lt H1
    by_cases hlt : k < nl l
    · have hf := hfit k
      have hab := hg.ahd (k := k) (by omega)
      have hp := hg.pos (i := k) (by omega)
      have hz := hg.step hlt
      have hfl := lkF_len l k
      have mb := mid_bd hg hfit hlt
      have hkn : k < l.length := by omega
      obtain ⟨b, o, rfl, hb0, hcc⟩ := HA.out.2 (by omega)
      have CC : Hid (∀ W, Below w.heap.size w W → W.cell? ⟨b, o + k * 2, none⟩ = some (.int .i64 (ra l k)) ∧ W.cell? ⟨b, o + k * 2 + 1, none⟩ = some (.int .i64 (rc l k))) := fun W hb' =>
        ⟨(hb'.cell (p := ⟨b, o + k * 2, none⟩) hb0).trans (hcc k (by omega)).1, (hb'.cell (p := ⟨b, o + k * 2 + 1, none⟩) hb0).trans (hcc k (by omega)).2⟩
      obtain ⟨y0, y1⟩ := CC.out _ hb
      have DV := Lib.hid (fun W => ref01.div_yes (mid l k) 86400 W ⟨mb.1, mb.2.1⟩ (by unfold ref01.fit; omega) (by omega))
      have QM : mid l k = if ra l k - ahd l k + (if rc l k - ahd l k = -1 then 1 else 0) ≤ 9223372036854775807 then ra l k - ahd l k + (if rc l k - ahd l k = -1 then 1 else 0) else ra l k - ahd l k + (if rc l k - ahd l k = -1 then 1 else 0) - 18446744073709551616 := rfl
      obtain ⟨M0, hM0⟩ : ∃ M0 : Int, M0 = if ra l k - ahd l k ≤ 9223372036854775807 then ra l k - ahd l k else ra l k - ahd l k - 18446744073709551616 := ⟨_, rfl⟩
      have e1 : IntKind.i64.wrap (ra l k - ahd l k) = M0 := by
        rw [hM0]
        split
        · exact IntWalk.i64_in _ (by omega)
        · exact wrap_hi _ (by omega) (by omega)
      have TW := tb_whole hg hfit
      by_cases hw : mid l k % 86400 = 0
      · have QD := lkd_of hw
        rw [hw] at DV
        have BX := Lib.hid (fun w5 (hb5 : Below wr.heap.size wr w5) => (⟨(tcs_cells (kept H1 hb5)).1, by have := hb5.size; omega⟩ : w5.cell? ⟨w.heap.size + 1, 0, none⟩ = some (.slice A' k c') ∧ w.heap.size + 1 + 1 ≤ w5.heap.size))
        have BR := Lib.hid (fun w5 (hb5 : Below wr.heap.size wr w5) => LRow.below (W := w5) ho hb5)
        have BG := Lib.hid (fun w5 (hb5 : Below wr.heap.size wr w5) w6 (hg6 : w5.grownBy w6 (Value.slice A' k c').ownBlock) =>
          (⟨(hg6.block _ (hp_lt (kept H0 hb5)) (by intro e; have := World.ownsRow.lt (BR.out w5 hb5) _ e.symm; omega)).trans (kept H0 hb5),
            (hg6.block _ (hp_lt (kept H1 hb5)) (by intro e; have := World.ownsRow.lt (BR.out w5 hb5) _ e.symm; omega)).trans (kept H1 hb5)⟩ : w6.heap[w.heap.size]? = some (.cells (tcs none 0 0 false 0) 24) ∧ w6.heap[w.heap.size + 1]? = some (.cells (tcs A' k c' false 0) 24)))
        have BW : Hid (∀ w5, Below wr.heap.size wr w5 → ∀ w6, w5.grownBy w6 (Value.slice A' k c').ownBlock → ∀ v, Below w.heap.size w (w6.setCell ⟨w.heap.size + 1, 0, none⟩ v)) := fun w5 hb5 w6 hg6 v => by
          have hbz := btr hb hb5
          exact (hbz.grown hg6 hbz.size (fun j hj => by have := World.ownsRow.lt (BR.out w5 hb5) j hj; omega)).setCell (by show w.heap.size ≤ w.heap.size + 1; omega) _
        have R : Hid (∀ A2 c2 w5 w6 p q, p = lkd l k → q = rc l k - ahd l k → Below wr.heap.size wr w5 →
            LRow w6 (w.heap.size + 1 + 1) (.slice A2 (k + 1) c2) (lkF l k ++ [(p, q, false)]) → w5.grownBy w6 (Value.slice A' k c').ownBlock → KHead l w (.int .i64 (rc l k)) (.int .i64 ((k : Int) + 1)) (w6.setCell ⟨w.heap.size + 1, 0, none⟩ (.slice A2 (k + 1) c2))) := fun A2 c2 w5 w6 p q ep eq hb5 ho' hg6 => by
          subst ep eq
          obtain ⟨g0, g1⟩ := BG.out w5 hb5 w6 hg6
          refine ⟨k + 1, A2, c2, by omega, rfl, by rw [ahd_succ], BW.out w5 hb5 w6 hg6 _, ?_, tcs_set g1, ?_, fun j hj => ?_⟩
          · exact (heap_setCell_other _ ⟨w.heap.size + 1, 0, none⟩ _ _ (by show w.heap.size ≠ w.heap.size + 1; omega)).trans g0
          · rw [lkF_succ]; exact ho'.setCell (by omega) 0 _
          · rcases Nat.eq_or_lt_of_le (Nat.le_of_lt_succ hj) with rfl | q
            · exact hw
            · exact hwh j q
        clear HA hcc ho hwh TW
        generalize lkd l k = DD at *
        have mb1 := mb.1
        have mb2 := mb.2.1
        clear mb
        generalize mid l k = M at *
        generalize lkF l k = L at *
        generalize ahd l k = Y at *
        generalize hrc : rc l k = C at *
        generalize hra : ra l k = X at *
        generalize nl l = m at *
        rcases hz with rfl | rfl
        · have q0 : Y + 1 - Y = 1 := by omega
          have eM : M = M0 := by rw [QM, q0, hM0]; simp
          subst eM
          have tb : -106751991167301 ≤ M / 86400 ∧ M / 86400 ≤ 106751991167301 := by omega
          have Q0 : Hid (M / 86400 - 1 = DD) := QD.symm
          clear QD QM hM0 hf hp mb1 mb2
          go_wp2_with (first
            | (go_at_call 41; (with_reducible refine ((DV.out _).mono ?_)); rintro e w5 ⟨rfl, hb5⟩; obtain ⟨z2, z3⟩ := BX.out _ hb5; have HO := Lib.hid (BR.out _ hb5))
            | (at_builtin; refine app_leap rfl _ _ rfl (w.heap.size + 1 + 1) w5 (.slice A' k c') L _ _ _ _ rfl rfl rfl HO.out (by omega) z3 ?_; intro v' w6 ho' hg6; obtain ⟨A2, c2, rfl⟩ := LRow.slice' (m := k + 1) ho' (by simp; omega); obtain ⟨g0, g1⟩ := BG.out _ hb5 _ hg6; have fz := tcs_frozen g1; obtain ⟨f0, f1, f2⟩ := tcs_cells g1; obtain ⟨z4, z5⟩ := CC.out _ (BW.out _ hb5 _ hg6 (.slice A2 (k + 1) c2))))
          exact ⟨R.out _ _ _ _ _ _ Q0.out (by first | rfl | omega) hb5 ho' hg6, by simp [intOf]; omega⟩
        · have q0 : Y - 1 - Y = -1 := by omega
          have e2 : IntKind.i64.wrap (M0 + 1) = M := by
            rw [QM, q0, if_pos (rfl : (-1 : Int) = -1)]
            by_cases h8 : X - Y + 1 ≤ 9223372036854775807
            · rw [hM0, if_pos (show X - Y ≤ 9223372036854775807 by omega), if_pos h8]; exact IntWalk.i64_in _ (by omega)
            · by_cases h9 : X - Y ≤ 9223372036854775807
              · rw [hM0, if_pos h9, if_neg h8]; exact wrap_hi _ (by omega) (by omega)
              · rw [hM0, if_neg h9, if_neg h8, IntWalk.i64_in _ (by omega)]; omega
          have tb : -106751991167301 ≤ M / 86400 ∧ M / 86400 ≤ 106751991167301 := by omega
          have Q0 : Hid (M / 86400 - 1 = DD) := QD.symm
          clear QD QM hM0 hf hp mb1 mb2
          go_wp2_with (first
            | (go_at_call 41; (with_reducible refine ((DV.out _).mono ?_)); rintro e w5 ⟨rfl, hb5⟩; obtain ⟨z2, z3⟩ := BX.out _ hb5; have HO := Lib.hid (BR.out _ hb5))
            | (at_builtin; refine app_leap rfl _ _ rfl (w.heap.size + 1 + 1) w5 (.slice A' k c') L _ _ _ _ rfl rfl rfl HO.out (by omega) z3 ?_; intro v' w6 ho' hg6; obtain ⟨A2, c2, rfl⟩ := LRow.slice' (m := k + 1) ho' (by simp; omega); obtain ⟨g0, g1⟩ := BG.out _ hb5 _ hg6; have fz := tcs_frozen g1; obtain ⟨f0, f1, f2⟩ := tcs_cells g1; obtain ⟨z4, z5⟩ := CC.out _ (BW.out _ hb5 _ hg6 (.slice A2 (k + 1) c2))))
          exact ⟨R.out _ _ _ _ _ _ Q0.out (by first | rfl | omega) hb5 ho' hg6, by simp [intOf]; omega⟩
      · have hs : (mid l k % 86400 != 0) = true := by simpa using hw
        have R : Hid (∀ w5, Below wr.heap.size wr w5 → ∀ C, Tabled l w (.returned (.tuple #[.agg (tcs none 0 0 false 0), .bool false])) (w5.setRow w.heap.size C)) := fun w5 hb5 C => by
          refine Or.inr ⟨?_, rfl, bel_setRow (btr hb hb5) (Nat.le_refl _) _⟩
          cases ht : tb l
          · rfl
          · exact absurd ((TW.1 ht).1 k hlt) hw
        have KX := Lib.hid (fun W' (hb' : Below wr.heap.size wr W') => kept H0 hb')
        have mb1 := mb.1
        have mb2 := mb.2.1
        clear HA hcc ho hwh TW mb hw
        generalize mid l k = M at *
        generalize ahd l k = Y at *
        generalize hrc : rc l k = C at *
        generalize hra : ra l k = X at *
        generalize nl l = m at *
        rcases hz with rfl | rfl
        · have q0 : Y + 1 - Y = 1 := by omega
          have eM : M = M0 := by rw [QM, q0, hM0]; simp
          subst eM
          clear QM hM0 hf hp mb1 mb2
          go_wp2_with (first
            | (go_at_call 41; (with_reducible refine ((DV.out _).mono ?_)); rintro e w5 ⟨rfl, hb5⟩; have k2 := Lib.hid (KX.out _ hb5))
            | (refine wpList_store_row rfl 24 (.tmp 2) (.tmp 46) rfl w.heap.size (tcs none 0 0 false 0) rfl rfl 24 _ k2.out szT rfl (tcs_one _ _ _ _ _) ?_))
          exact leap.end_pair rfl _ _ w.heap.size 24 (tcs none 0 0 false 0) _ (.bool false) rfl rfl (setRow_heap _ _ _ _ _ _ k2.out) Tryd.underlying24 szT rfl (R.out _ hb5 _)
        · have q0 : Y - 1 - Y = -1 := by omega
          have e2 : IntKind.i64.wrap (M0 + 1) = M := by
            rw [QM, q0, if_pos (rfl : (-1 : Int) = -1)]
            by_cases h8 : X - Y + 1 ≤ 9223372036854775807
            · rw [hM0, if_pos (show X - Y ≤ 9223372036854775807 by omega), if_pos h8]; exact IntWalk.i64_in _ (by omega)
            · by_cases h9 : X - Y ≤ 9223372036854775807
              · rw [hM0, if_pos h9, if_neg h8]; exact wrap_hi _ (by omega) (by omega)
              · rw [hM0, if_neg h9, if_neg h8, IntWalk.i64_in _ (by omega)]; omega
          clear QM hM0 hf hp mb1 mb2
          go_wp2_with (first
            | (go_at_call 41; (with_reducible refine ((DV.out _).mono ?_)); rintro e w5 ⟨rfl, hb5⟩; have k2 := Lib.hid (KX.out _ hb5))
            | (refine wpList_store_row rfl 24 (.tmp 2) (.tmp 46) rfl w.heap.size (tcs none 0 0 false 0) rfl rfl 24 _ k2.out szT rfl (tcs_one _ _ _ _ _) ?_))
          exact leap.end_pair rfl _ _ w.heap.size 24 (tcs none 0 0 false 0) _ (.bool false) rfl rfl (setRow_heap _ _ _ _ _ _ k2.out) Tryd.underlying24 szT rfl (R.out _ hb5 _)
    · obtain rfl : k = nl l := by omega
      have TW := tb_whole hg hfit
      have RY : Hid (tb l = true → ∀ W1, Below w.heap.size w W1 → LRow W1 (w.heap.size + 1 + 1) (.slice A' (nl l) c') (lkF l (nl l)) → ∀ W5, Below W1.heap.size W1 W5 → ∀ C, Tabled l w (.returned (.tuple #[.agg (tcs A' (nl l) c' (hasX l) (lkx l)), .bool true])) (W5.setRow w.heap.size C)) := fun ht W1 hb1 ho1 W5 hb5 C => by
        obtain ⟨h2, h3, h4⟩ := lk_done (ho1.below hb5)
        exact Or.inl ⟨ht, A', c', by rw [lk_len], lps_setRow h2 _ (fun a ha e => by have := h4 a ha; omega) C, h3, bel_setRow (btr hb1 hb5) (Nat.le_refl _) _⟩
      have RN : Hid (tb l = false → ∀ W1, Below w.heap.size w W1 → ∀ W5, Below W1.heap.size W1 W5 → ∀ C, Tabled l w (.returned (.tuple #[.agg (tcs none 0 0 false 0), .bool false])) (W5.setRow w.heap.size C)) := fun ht W1 hb1 W5 hb5 C =>
        Or.inr ⟨ht, rfl, bel_setRow (btr hb1 hb5) (Nat.le_refl _) _⟩
      cases hx : hasX l
      · have e := nl_no hx
        have t : decide ((nl l : Int) < (l.length : Int)) = false := by simp; omega
        have t' : decide (nl l < l.length) = false := by simp; omega
        have ey : lkx l = 0 := by unfold lkx; rw [hx]; rfl
        have hoW := ho
        have hbW := hb
        obtain ⟨b0, b1, b2⟩ := tcs_cells H1
        have RT := Lib.hid (ref09.right_at (lk l) A' c' (hasX l) (lkx l) wr (lk_done ho).1 (by rw [lk_len]; omega))
        rw [lk_len] at RT
        have k0 := Lib.hid (H0)
        have k1 := Lib.hid (H1)
        by_cases hce : ce (lk l) (hasX l) (lkx l) = 0
        · have htb : tb l = true := TW.2 ⟨hwh, hce⟩
          have R := Lib.hid (RY.out htb _ hbW hoW)
          rw [show (ce (lk l) (hasX l) (lkx l) == 0) = true by simpa using hce] at RT
          rw [hx, ey] at R RT
          clear HA H0 H1 ho hwh TW RY RN hce htb hx hoW hbW ey e
          generalize nl l = m at *
          generalize l.length = n at *
          go_wp2_with (first
            | (go_at_call 33; (with_reducible refine (RT.out).mono ?_); rintro e w5 ⟨rfl, hb5⟩; have k2 := Lib.hid (kept k0.out hb5); have k3 := Lib.hid (kept k1.out hb5); clear b0 b1 b2; obtain ⟨b0, b1, b2⟩ := tcs_cells k3.out)
            | (refine wpList_store_row rfl 24 (.tmp 2) (.tmp 78) rfl w.heap.size (tcs A' m c' false 0) rfl rfl 24 _ k2.out szT rfl (tcs_one _ _ _ _ _) ?_))
          exact leap.end_pair rfl _ _ w.heap.size 24 (tcs A' m c' false 0) _ (.bool true) rfl rfl (setRow_heap _ _ _ _ _ _ k2.out) Tryd.underlying24 szT rfl (R.out _ hb5 _)
        · have htb : tb l = false := by cases ht : tb l; rfl; exact absurd (TW.1 ht).2 hce
          have R := Lib.hid (RN.out htb _ hbW)
          rw [show (ce (lk l) (hasX l) (lkx l) == 0) = false by simpa using hce] at RT
          rw [hx, ey] at RT
          clear HA H0 H1 ho hwh TW RY RN hce htb hx hoW hbW ey e
          generalize nl l = m at *
          generalize l.length = n at *
          go_wp2_with (first
            | (go_at_call 33; (with_reducible refine (RT.out).mono ?_); rintro e w5 ⟨rfl, hb5⟩; have k2 := Lib.hid (kept k0.out hb5))
            | (refine wpList_store_row rfl 24 (.tmp 2) (.tmp 77) rfl w.heap.size (tcs none 0 0 false 0) rfl rfl 24 _ k2.out szT rfl (tcs_one _ _ _ _ _) ?_))
          exact leap.end_pair rfl _ _ w.heap.size 24 (tcs none 0 0 false 0) _ (.bool false) rfl rfl (setRow_heap _ _ _ _ _ _ k2.out) Tryd.underlying24 szT rfl (R.out _ hb5 _)
      · have e := nl_yes hx
        have t : decide ((nl l : Int) < (l.length : Int)) = true := by simp; omega
        have t' : decide (nl l < l.length) = true := by simp; omega
        have hkl : nl l < l.length := by omega
        obtain ⟨b, o, rfl, hb0, hcc⟩ := HA.out.2 (by omega)
        have ex : IntKind.i64.wrap (ra l (nl l) - ahd l (nl l)) = lkx l := by
          have hab := hg.ahd (k := nl l) hnl
          have hp := hg.pos (i := nl l) (by omega)
          have hf := hfit (nl l)
          unfold lkx
          rw [hx, if_pos rfl]
          split
          · exact IntWalk.i64_in _ (by omega)
          · exact wrap_hi _ (by omega) (by omega)
        have ev := ex
        have hbV : Below w.heap.size w (wr.setCell ⟨w.heap.size + 1, 1, none⟩ (.bool true)) := hb.setCell (by show w.heap.size ≤ w.heap.size + 1; omega) _
        have z0 : (wr.setCell ⟨w.heap.size + 1, 1, none⟩ (.bool true)).cell? ⟨b, o + nl l * 2, none⟩ = some (.int .i64 (ra l (nl l))) := (hbV.cell (p := ⟨b, o + nl l * 2, none⟩) hb0).trans (hcc (nl l) (by omega)).1
        have hbW : Below w.heap.size w ((wr.setCell ⟨w.heap.size + 1, 1, none⟩ (.bool true)).setCell ⟨w.heap.size + 1, 2, none⟩ (.int .i64 (lkx l))) := hbV.setCell (by show w.heap.size ≤ w.heap.size + 1; omega) _
        have hoW := (ho.setCell (g := w.heap.size + 1) (by omega) 1 (.bool true)).setCell (g := w.heap.size + 1) (by omega) 2 (.int .i64 (lkx l))
        obtain ⟨a0, a1, a2⟩ := tcs_cells H1
        obtain ⟨a3, a4, a5⟩ := tcs_cells (tcs_set1 (h2 := true) H1)
        have fz := tcs_frozenAt H1 1
        have fz1 := tcs_frozenAt (tcs_set1 (h2 := true) H1) 2
        have KK0 : ((wr.setCell ⟨w.heap.size + 1, 1, none⟩ (.bool true)).setCell ⟨w.heap.size + 1, 2, none⟩ (.int .i64 (lkx l))).heap[w.heap.size]? = some (.cells (tcs none 0 0 false 0) 24) := (heap_setCell_other _ ⟨w.heap.size + 1, 2, none⟩ w.heap.size (.int .i64 (lkx l)) (by show w.heap.size ≠ w.heap.size + 1; omega)).trans ((heap_setCell_other wr ⟨w.heap.size + 1, 1, none⟩ w.heap.size (.bool true) (by show w.heap.size ≠ w.heap.size + 1; omega)).trans H0)
        have KK1 := tcs_set2 (y := lkx l) (tcs_set1 (h2 := true) H1)
        obtain ⟨b0, b1, b2⟩ := tcs_cells KK1
        have RT := Lib.hid (ref09.right_at (lk l) A' c' (hasX l) (lkx l) _ (lk_done hoW).1 (by rw [lk_len]; omega))
        rw [lk_len] at RT
        have k0 := Lib.hid (KK0)
        have k1 := Lib.hid (KK1)
        by_cases hce : ce (lk l) (hasX l) (lkx l) = 0
        · have htb : tb l = true := TW.2 ⟨hwh, hce⟩
          have R := Lib.hid (RY.out htb _ hbW hoW)
          rw [show (ce (lk l) (hasX l) (lkx l) == 0) = true by simpa using hce] at RT
          rw [hx] at R RT
          clear HA H0 H1 ho hwh TW RY RN hce htb hx hoW hbW hcc ex KK0 KK1 hbV
          generalize lkx l = LX at *
          generalize ahd l (nl l) = Y at *
          generalize ra l (nl l) = X at *
          generalize nl l = m at *
          generalize l.length = n at *
          go_wp2_with (first
            | (go_at_call 33; (with_reducible refine (RT.out).mono ?_); rintro e w5 ⟨rfl, hb5⟩; have k2 := Lib.hid (kept k0.out hb5); have k3 := Lib.hid (kept k1.out hb5); clear b0 b1 b2; obtain ⟨b0, b1, b2⟩ := tcs_cells k3.out)
            | (refine wpList_store_row rfl 24 (.tmp 2) (.tmp 78) rfl w.heap.size (tcs A' m c' true LX) rfl rfl 24 _ k2.out szT rfl (tcs_one _ _ _ _ _) ?_))
          exact leap.end_pair rfl _ _ w.heap.size 24 (tcs A' m c' true LX) _ (.bool true) rfl rfl (setRow_heap _ _ _ _ _ _ k2.out) Tryd.underlying24 szT rfl (R.out _ hb5 _)
        · have htb : tb l = false := by cases ht : tb l; rfl; exact absurd (TW.1 ht).2 hce
          have R := Lib.hid (RN.out htb _ hbW)
          rw [show (ce (lk l) (hasX l) (lkx l) == 0) = false by simpa using hce] at RT
          rw [hx] at RT
          clear HA H0 H1 ho hwh TW RY RN hce htb hx hoW hbW hcc ex KK0 KK1 hbV
          generalize lkx l = LX at *
          generalize ahd l (nl l) = Y at *
          generalize ra l (nl l) = X at *
          generalize nl l = m at *
          generalize l.length = n at *
          go_wp2_with (first
            | (go_at_call 33; (with_reducible refine (RT.out).mono ?_); rintro e w5 ⟨rfl, hb5⟩; have k2 := Lib.hid (kept k0.out hb5))
            | (refine wpList_store_row rfl 24 (.tmp 2) (.tmp 77) rfl w.heap.size (tcs none 0 0 false 0) rfl rfl 24 _ k2.out szT rfl (tcs_one _ _ _ _ _) ?_))
          exact leap.end_pair rfl _ _ w.heap.size 24 (tcs none 0 0 false 0) _ (.bool false) rfl rfl (setRow_heap _ _ _ _ _ _ k2.out) Tryd.underlying24 szT rfl (R.out _ hb5 _)
end Go.Proofs.YtcikcdeihlmbcaaDoor.ref12
