/-
  The document's own Parse of layer 11, and what it answers. Conditions: texts of at most 300000 bytes; what its reader of a line answers (Ref11One).
-/
import Derived.Test.YtiboijhfieaepaaGreatDoorM5
import Derived.Test.YtiboijhfieaepaaGreatDoorM4
namespace Go.Proofs.YtiboijhfieaepaaGreatDoor.ref11
open Go.ChangeShapes Go.WideShapes Go.ChangeAt Go.RowKit
open lx zs mem cal
open lm (Lp ce)
open leap (tcs Lps szT tcs_one tcs_cells)
open zic (fcs fcs_one szF end_two wl pbad lines_len line_size)
set_option linter.unusedVariables false
set_option maxRecDepth 100000

theorem stS_nil'' (a : Nat) (s : S) : stS [] a s = s := by
  unfold stS
  rw [if_neg (by decide), if_neg (by decide), if_neg (by decide)]
theorem row_open' {W : World} {g p : Nat} {c : Array Value} {ty : TypeId} (h : W.heap[g]? = some (.cells c ty (0, 0))) : W.frozen? ⟨g, p, none⟩ = false := by
  simp [World.frozen?, h]
theorem set_at {W : World} {g h j : Nat} {c : Array Value} {ty : TypeId} {v : Value} (hk : W.heap[h]? = some (.cells c ty (0, 0))) (hc : c[j]? = some v) (ne : h ≠ g) (t : Array Value) : (W.setRow g t).cell? ⟨h, j, none⟩ = some v :=
  (World.cell?_of_block (a := ⟨h, j, none⟩) (setRow_other _ _ _ _ ne)).trans ((row_cell hk j).trans hc)
theorem has_set {W : World} {g n c : Nat} {A : Option Addr} {x : Int} (h : W.heap[g]? = some (.cells (tcs A n c false 0) 24 (0, 0))) : ((W.setCell ⟨g, 1, none⟩ (.bool true)).setCell ⟨g, 2, none⟩ (.int .i64 x)).heap[g]? = some (.cells (tcs A n c true x) 24 (0, 0)) := heap_cell (heap_cell h)
theorem lps_cells {W : World} {A : Option Addr} {l : List Lp} {g n c j : Nat} {B : Option Addr} {has : Bool} {x : Int} {v : Value} (h : Lps W A l) (hg : W.heap[g]? = some (.cells (tcs B n c has x) 24 (0, 0))) : Lps (W.setCell ⟨g, j, none⟩ v) A l := by
  intro hl
  have hne := lps_apart h hl hg
  obtain ⟨b, o, e, hlt, hc⟩ := h hl
  have hb : (W.setCell ⟨g, j, none⟩ v).heap[b]? = W.heap[b]? := heap_other fun q => hne b o e q.symm
  refine ⟨b, o, e, by simpa [World.setCell] using hlt, fun k hk => ?_⟩
  obtain ⟨c0, c1, c2⟩ := hc k hk
  exact ⟨(World.cell?_of_block (a := ⟨b, _, none⟩) hb).trans c0, (World.cell?_of_block (a := ⟨b, _, none⟩) hb).trans c1, (World.cell?_of_block (a := ⟨b, _, none⟩) hb).trans c2⟩
set_option maxHeartbeats 16000000 in
theorem parse_at (s0 : ByteArray) (w : World) (hs : s0.size ≤ 300000) (RDH : ∀ (s : ByteArray) (W : World), s.size ≤ 300000 → Calls Tryz.prog 23 #[.string s] W fun e w' => e = .returned (.agg (rowC (zic.wl s))) ∧ Below W.heap.size W w') : Calls Tryz.prog 7 #[.string s0] w (QTold (parse ((splitS s0).map wl)) w) := by
  have hl := lines_len s0
  have LS := Lib.hid (fun (x : ByteArray) (hx : x ∈ splitS s0) => line_size hx)
  have SP : Hid (∀ W, Calls Tryz.prog 22 #[.string s0] W (lines.Told W (splitS s0))) := fun W => ref05.split_at s0 W (by omega)
  unfold lines.Told at SP
  generalize splitS s0 = X at *
  go_enter Tryz.func7, Tryz.ntmps7
  go_wp2_with (go_at_call 22; (with_reducible refine (SP.out _).mono ?_); rintro e W1 ⟨A0, c0', rfl, hS, ⟨hc, hf⟩, hb1⟩)
  have HQ : Hid (QZ w W1) := ⟨kept (hp_old (hp_new w _) _) hb1, kept (hp_new1 w _ _) hb1, btr (bal (bal (Below.refl _ _) _) _) hb1⟩
  have s1 : w.heap.size + 1 < W1.heap.size := hp_lt HQ.out.z1
  have HS := Lib.hid hS
  clear hS hf hc SP hb1
  have RDH := Lib.hid RDH
  go_loopw [6, 7, 8] (fun a x i W => QHead X W1 a x i W) (fun _ _ i _ => X.length - (intOf i).toNat)
  case atStart => exact ⟨0, S0, none, 0, rfl, rfl, rfl, Nat.zero_le _, rfl, hp_new W1 _, fun h => absurd rfl h, bal (Below.refl _ _) _⟩
  case round =>
    obtain ⟨k, s, A, c, rfl, rfl, rfl, hk, hrun, ht, hlp, hbr⟩ := hrel
    have hinv := (run_inv ((X.take k).map wl) 0 S0 inv_zero).1
    rw [hrun] at hinv
    have hlen : s.lv.length ≤ 200 := (lm.good_of hinv.good).len
    have hplc := hinv.place
    rw [List.length_map, List.length_take, Nat.min_eq_left hk, Nat.zero_add] at hplc
    have hxb := hinv.bd
    have HT := Lib.hid ht
    have HLP := Lib.hid hlp
    have QR := Lib.hid (fun W (hb : Below W1.heap.size W1 W) => HQ.out.below hb)
    by_cases hlt : k < X.length
    · obtain ⟨b, o, rfl, hbl, hcell⟩ := HS.out (by intro e; rw [e] at hlt; simp at hlt)
      have cx : wr.cell? ⟨b, o + k, none⟩ = some (.string (X[k]'hlt)) := (hbr.cell (p := ⟨b, o + k, none⟩) hbl).trans (hcell k hlt)
      obtain ⟨x, hx⟩ : ∃ x, X[k]'hlt = x := ⟨_, rfl⟩
      rw [hx] at cx
      have hxs := LS.out x (by rw [← hx]; exact List.getElem_mem hlt)
      have RD := Lib.hid (fun W => RDH.out x W (by omega))
      have d1 : decide ((k : Int) < (X.length : Int)) = true := by simp; omega
      have d2 : decide (k < X.length) = true := by simp; omega
      have BD := Lib.hid (fun he => pbad hlt hx hrun he)
      have NX := Lib.hid (fun (s' : S) (he : stE (wl x) s = 0) (hs : stS (wl x) (k + 1) s = s') (A' : Option Addr) (c' : Nat) (W' : World) ht hl hb => qnext (W1 := W1) (A := A') (c := c') (W' := W') hlt hx hrun he hs ht hl hb)
      clear hcell LS hinv hrun ht hlp RDH
      generalize wl x = ws at *
      have hkd := kd_le ws
      have PE : Hid (∀ E, stE ws s = E → E ≠ 0 → ∀ W, QZ w W → ∀ t f, QTold (parse (X.map wl)) w (.returned (.tuple #[.agg (tcs none 0 0 false 0), .agg (fcs (k + 1) E)])) ((W.setRow w.heap.size t).setRow (w.heap.size + 1) f)) := fun E hE h0 W hz t f => by
        rw [BD.out (by rw [hE]; exact h0), hE]
        exact qbad hz (k + 1) E t f
      by_cases hbad : kd ws = 3 ∨ (kd ws = 1 ∧ lfT ws = false) ∨ (kd ws = 2 ∧ moT (mo ws) = false)
      · obtain ⟨r1, r2⟩ := row_bad hbad s
        rw [r1] at RD
        unfold brow at RD
        have PE2 := Lib.hid (PE.out 2 r2 (by decide))
        clear PE NX BD r1 r2 hbad
        go_wp2_with (first
          | (go_at_call 23; (with_reducible refine (RD.out _).mono ?_); rintro e wa ⟨rfl, hba⟩; have HBA := Lib.hid (btr hbr hba); have la := Nat.lt_of_lt_of_le (hp_lt HT.out) hba.size; have HZ := Lib.hid (fun ob => QR.out _ (bal HBA.out ob)))
          | (refine wpList_store_row rfl 24 (.tmp 2) (.tmp 69) rfl w.heap.size (tcs none 0 0 false 0) rfl rfl _ _ (HZ.out _).z0 szT rfl (tcs_one _ _ _ _ _) ?_)
          | (refine wpList_store_row rfl 29 (.tmp 3) (.tmp 73) rfl (w.heap.size + 1) (fcs (k + 1) 2) rfl rfl _ _ ((HZ.out _).fl _) szF rfl (fcs_one _ _) ?_))
        refine end_two rfl _ _ w.heap.size (w.heap.size + 1) 24 29 (tcs none 0 0 false 0) (fcs (k + 1) 2) _ _ rfl rfl ?_ (setRow_heap _ _ _ _ _ _ ((HZ.out _).fl _)) Tryz.underlying24 Tryz.underlying29 szT szF rfl (PE2.out _ (HZ.out _) _ _)
        rw [setRow_other _ _ _ _ (by omega)]
        exact setRow_heap _ _ _ _ _ _ (HZ.out _).z0
      · skip
        by_cases h0 : kd ws = 0
        · have r1 : rowC ws = zrow := by unfold rowC; rw [if_pos h0]
          have r2 : stE ws s = 0 := by unfold stE; rw [if_pos h0]
          have r3 : stS ws (k + 1) s = s := by rw [kd_len.2.2.1 h0, stS_nil'']
          rw [r1] at RD
          unfold zrow at RD
          have NX0 := Lib.hid (fun W' (hb : Below wr.heap.size wr W') (hbW : Below W1.heap.size W1 W') => NX.out s r2 r3 A c W' (kept HT.out hb) (HLP.out.below hb) hbW)
          clear PE NX BD r1 r2 r3 hbad h0
          go_wp2_with (first
            | (go_at_call 23; (with_reducible refine (RD.out _).mono ?_); rintro e wa ⟨rfl, hba⟩; have HBA := Lib.hid (btr hbr hba); have la := Nat.lt_of_lt_of_le (hp_lt HT.out) hba.size; have HA0 := Lib.hid hba))
          go_roundw
          case rel => exact NX0.out _ (bal HA0.out _) (bal HBA.out _)
          case measure => simp [intOf]; omega
        · skip
          by_cases h1 : kd ws = 1
          · have hq : lfT ws = true := by
              cases hq : lfT ws with
              | true => rfl
              | false => exact absurd (.inr (.inl ⟨h1, hq⟩)) hbad
            obtain ⟨r1, r2, r3, r4⟩ := row_leap h1 hq s
            rw [r1] at RD
            have AD : Hid (∀ W, Lps W A s.lv → Calls Tryz.prog 24 #[.agg #[.slice A s.lv.length c, .bool false, .int .i64 0], .agg #[.int .i64 1, .int .i64 (nmI (g ws 1)), .int .i64 (mon (g ws 2)), .int .i64 (nmI (g ws 3)), .int .i64 (clkI (g ws 4)), .string (if decide (g ws 5 = [45]) = true then ⟨#[45]⟩ else ⟨#[43]⟩), .bool (rkR (g ws 6))]] W (ATold (adL s.lv (nmI (g ws 1)) (mon (g ws 2)) (nmI (g ws 3)) (clkI (g ws 4)) (decide (g ws 5 = [45])) (rkR (g ws 6))) (adE s.lv (nmI (g ws 1)) (mon (g ws 2)) (nmI (g ws 3)) (clkI (g ws 4)) (decide (g ws 5 = [45])) (rkR (g ws 6))) W)) := fun W h => add_at s.lv A c 1 _ _ _ _ _ _ W h (by omega)
            unfold ATold at AD
            have r5 : stE ws s = 0 → stS ws (k + 1) s = ⟨adL s.lv (nmI (g ws 1)) (mon (g ws 2)) (nmI (g ws 3)) (clkI (g ws 4)) (decide (g ws 5 = [45])) (rkR (g ws 6)), s.xl, s.ex⟩ := fun h => by
              have := r3 h
              rw [r4 0] at this
              rw [r4 (k + 1), ← this]
            generalize adL s.lv (nmI (g ws 1)) (mon (g ws 2)) (nmI (g ws 3)) (clkI (g ws 4)) (decide (g ws 5 = [45])) (rkR (g ws 6)) = L' at *
            generalize adE s.lv (nmI (g ws 1)) (mon (g ws 2)) (nmI (g ws 3)) (clkI (g ws 4)) (decide (g ws 5 = [45])) (rkR (g ws 6)) = E' at *
            generalize (if decide (g ws 5 = [45]) = true then (⟨#[45]⟩ : ByteArray) else ⟨#[43]⟩) = sg at *
            generalize nmI (g ws 1) = y at *
            generalize mon (g ws 2) = m at *
            generalize nmI (g ws 3) = d at *
            generalize clkI (g ws 4) = sc at *
            generalize rkR (g ws 6) = rk at *
            by_cases hE : E' = 0
            · have NX1 := Lib.hid (fun A' c' W' ht hl hb => NX.out ⟨L', s.xl, s.ex⟩ (r2.trans hE) (r5 (r2.trans hE)) A' c' W' ht hl hb)
              subst hE
              clear PE NX BD r1 r2 r3 r4 r5 hbad h1 hq h0
              go_wp2_with (first
                | (go_at_call 23; (with_reducible refine (RD.out _).mono ?_); rintro e wa ⟨rfl, hba⟩; have HBA := Lib.hid (btr hbr hba); have la := Nat.lt_of_lt_of_le (hp_lt HT.out) hba.size; have c0 := fun ob => (tcs_cells (kept HT.out (bal hba ob))).1; have c1 := fun ob => (tcs_cells (kept HT.out (bal hba ob))).2.1; have c2 := fun ob => (tcs_cells (kept HT.out (bal hba ob))).2.2; have HL := Lib.hid (fun ob => HLP.out.below (bal hba ob)))
                | (go_at_call 24; (with_reducible refine (AD.out _ (HL.out _)).mono ?_); rintro e wb ⟨A', c', rfl, hlb, hbb⟩; have HTB := Lib.hid (kept HT.out (btr (bal hba _) hbb)); have KR := Lib.hid (kept (hp_new wa _) hbb); have HBB := Lib.hid (btr (bal HBA.out _) hbb); have HLB := Lib.hid hlb; clear hlb; have r0 := fun t => set_at (g := W1.heap.size) KR.out (j := 0) rfl (by omega) t; have HZ := Lib.hid (fun t => QR.out _ (bel_setRow HBB.out (Nat.le_refl _) t)))
                | (refine wpList_store_row rfl 24 (.tmp 5) (.tmp 33) rfl W1.heap.size (tcs A' _ c' false 0) rfl rfl _ _ HTB.out szT rfl (tcs_one _ _ _ _ _) ?_))
              go_roundw
              case rel => exact NX1.out _ _ _ (setRow_heap _ _ _ _ _ _ HTB.out) (lps_row HLB.out HTB.out) (bel_setRow HBB.out (Nat.le_refl _) _)
              case measure => simp [intOf]; omega
            · have PE2 := Lib.hid (PE.out E' r2 hE)
              have ne0 : (E' != 0) = true := by simpa using hE
              have ne1 : (E' == 0) = false := by simpa using hE
              clear PE NX BD r1 r2 r3 r4 r5 hbad h1 hq h0 hE
              go_wp2_with (first
                | (go_at_call 23; (with_reducible refine (RD.out _).mono ?_); rintro e wa ⟨rfl, hba⟩; have HBA := Lib.hid (btr hbr hba); have la := Nat.lt_of_lt_of_le (hp_lt HT.out) hba.size; have c0 := fun ob => (tcs_cells (kept HT.out (bal hba ob))).1; have c1 := fun ob => (tcs_cells (kept HT.out (bal hba ob))).2.1; have c2 := fun ob => (tcs_cells (kept HT.out (bal hba ob))).2.2; have HL := Lib.hid (fun ob => HLP.out.below (bal hba ob)))
                | (go_at_call 24; (with_reducible refine (AD.out _ (HL.out _)).mono ?_); rintro e wb ⟨A', c', rfl, hlb, hbb⟩; have HTB := Lib.hid (kept HT.out (btr (bal hba _) hbb)); have KR := Lib.hid (kept (hp_new wa _) hbb); have HBB := Lib.hid (btr (bal HBA.out _) hbb); have HLB := Lib.hid hlb; clear hlb; have r0 := fun t => set_at (g := W1.heap.size) KR.out (j := 0) rfl (by omega) t; have HZ := Lib.hid (fun t => QR.out _ (bel_setRow HBB.out (Nat.le_refl _) t)))
                | (refine wpList_store_row rfl 24 (.tmp 5) (.tmp 33) rfl W1.heap.size (tcs A' _ c' false 0) rfl rfl _ _ HTB.out szT rfl (tcs_one _ _ _ _ _) ?_)
                | (refine wpList_store_row rfl 24 (.tmp 2) (.tmp 69) rfl w.heap.size (tcs none 0 0 false 0) rfl rfl _ _ (HZ.out _).z0 szT rfl (tcs_one _ _ _ _ _) ?_)
                | (refine wpList_store_row rfl 29 (.tmp 3) (.tmp 73) rfl (w.heap.size + 1) (fcs (k + 1) E') rfl rfl _ _ ((HZ.out _).fl _) szF rfl (fcs_one _ _) ?_))
              refine end_two rfl _ _ w.heap.size (w.heap.size + 1) 24 29 (tcs none 0 0 false 0) (fcs (k + 1) E') _ _ rfl rfl ?_ (setRow_heap _ _ _ _ _ _ ((HZ.out _).fl _)) Tryz.underlying24 Tryz.underlying29 szT szF rfl (PE2.out _ (HZ.out _) _ _)
              rw [setRow_other _ _ _ _ (by omega)]
              exact setRow_heap _ _ _ _ _ _ (HZ.out _).z0
          · skip
            have h2 : kd ws = 2 := by omega
            have hq : moT (mo ws) = true := by
              cases hq : moT (mo ws) with
              | true => rfl
              | false => exact absurd (.inr (.inr ⟨h2, hq⟩)) hbad
            obtain ⟨r1, r2, r3⟩ := row_exp h2 hq s
            rw [moN_words, moS_words] at r3
            rw [r1] at RD
            have sb := clkI_bd (g ws 4)
            generalize nmI (g ws 1) = y at *
            generalize mon (g ws 2) = m at *
            generalize nmI (g ws 3) = d at *
            generalize clkI (g ws 4) = sc at *
            by_cases v : Vld y m d
            · have NM := Lib.hid (fun W => ref03.number_on (w := W) W (Below.refl _ _) y m d v)
              have hv : vldB y m d = true := (vldB_iff y m d).2 v
              have nb := num_bd v
              rw [hv] at r2 r3
              rw [if_pos rfl] at r3
              generalize num y m d = n at *
              clear v hv
              by_cases hx0 : s.xl = 0
              · have px : decide ((s.xl : Int) > 0) = false := decide_eq_false (by omega)
                have px2 : decide (0 < (s.xl : Int)) = false := decide_eq_false (by omega)
                have px3 : decide (0 < s.xl) = false := decide_eq_false (by omega)
                rw [if_neg (fun k => k hx0)] at r2
                by_cases hsc : sc = 86400
                · have q1 : ((sc : Int) == 86400) = true := by simpa using hsc
                  rw [if_pos (.inr hsc)] at r2
                  clear hsc
                  have PE2 := Lib.hid (PE.out 9 r2 (by decide))
                  clear PE NX BD r1 r2 r3 hbad h0 h1 h2 hq
                  go_wp2_with (first
                    | (go_at_call 23; (with_reducible refine (RD.out _).mono ?_); rintro e wa ⟨rfl, hba⟩; have HBA := Lib.hid (btr hbr hba); have la := Nat.lt_of_lt_of_le (hp_lt HT.out) hba.size)
                    | (go_at_call 25; (with_reducible refine (NM.out _).mono ?_); rintro e wb ⟨rfl, hbb⟩; have HTB := Lib.hid (kept HT.out (btr (bal hba _) hbb)); have KR := Lib.hid (kept (hp_new wa _) hbb); have HBB := Lib.hid (btr (bal HBA.out _) hbb); have HLB := Lib.hid (HLP.out.below (btr (bal hba _) hbb)); have r0 := row_cell KR.out 0; have r4 := row_cell KR.out 4; have HZ := Lib.hid (QR.out _ HBB.out))
                    | (refine wpList_store_row rfl 24 (.tmp 2) (.tmp 69) rfl w.heap.size (tcs none 0 0 false 0) rfl rfl _ _ HZ.out.z0 szT rfl (tcs_one _ _ _ _ _) ?_)
                    | (refine wpList_store_row rfl 29 (.tmp 3) (.tmp 73) rfl (w.heap.size + 1) (fcs (k + 1) 9) rfl rfl _ _ (HZ.out.fl _) szF rfl (fcs_one _ _) ?_))
                  refine end_two rfl _ _ w.heap.size (w.heap.size + 1) 24 29 (tcs none 0 0 false 0) (fcs (k + 1) 9) _ _ rfl rfl ?_ (setRow_heap _ _ _ _ _ _ (HZ.out.fl _)) Tryz.underlying24 Tryz.underlying29 szT szF rfl (PE2.out _ HZ.out _ _)
                  rw [setRow_other _ _ _ _ (by omega)]
                  exact setRow_heap _ _ _ _ _ _ HZ.out.z0
                · have q1 : ((sc : Int) == 86400) = false := by simpa using hsc
                  rw [if_neg (fun k => by rcases k with k | k; exact absurd k (by decide); exact hsc k)] at r2
                  have NX2 := Lib.hid (fun A' c' W' ht hl hb => NX.out ⟨s.lv, k + 1, n * 86400 + sc⟩ r2 (r3 (k + 1)) A' c' W' ht hl hb)
                  have EX : Hid (86400 * n + sc = n * 86400 + sc) := by show _ = _; omega
                  clear PE NX BD r1 r2 r3 hbad h0 h1 h2 hq
                  go_wp2_with (first
                    | (go_at_call 23; (with_reducible refine (RD.out _).mono ?_); rintro e wa ⟨rfl, hba⟩; have HBA := Lib.hid (btr hbr hba); have la := Nat.lt_of_lt_of_le (hp_lt HT.out) hba.size)
                    | (go_at_call 25; (with_reducible refine (NM.out _).mono ?_); rintro e wb ⟨rfl, hbb⟩; have HTB := Lib.hid (kept HT.out (btr (bal hba _) hbb)); have KR := Lib.hid (kept (hp_new wa _) hbb); have HBB := Lib.hid (btr (bal HBA.out _) hbb); have HLB := Lib.hid (HLP.out.below (btr (bal hba _) hbb)); have r0 := row_cell KR.out 0; have r4 := row_cell KR.out 4; have HZ := Lib.hid (QR.out _ HBB.out)))
                  go_roundw
                  case rel =>
                    rw [EX.out]
                    exact NX2.out _ _ _ HTB.out HLB.out HBB.out
                  case measure => simp [intOf]; omega
              · have px : decide ((s.xl : Int) > 0) = true := decide_eq_true (by omega)
                have px2 : decide (0 < (s.xl : Int)) = true := decide_eq_true (by omega)
                have px3 : decide (0 < s.xl) = true := decide_eq_true (by omega)
                rw [if_pos hx0] at r2
                by_cases hsc : sc = 86400
                · have q1 : ((sc : Int) == 86400) = true := by simpa using hsc
                  clear hsc
                  have PE2 := Lib.hid (PE.out 2 r2 (by decide))
                  clear PE NX BD r1 r2 r3 hbad h0 h1 h2 hq
                  go_wp2_with (first
                    | (go_at_call 23; (with_reducible refine (RD.out _).mono ?_); rintro e wa ⟨rfl, hba⟩; have HBA := Lib.hid (btr hbr hba); have la := Nat.lt_of_lt_of_le (hp_lt HT.out) hba.size)
                    | (go_at_call 25; (with_reducible refine (NM.out _).mono ?_); rintro e wb ⟨rfl, hbb⟩; have HTB := Lib.hid (kept HT.out (btr (bal hba _) hbb)); have KR := Lib.hid (kept (hp_new wa _) hbb); have HBB := Lib.hid (btr (bal HBA.out _) hbb); have HLB := Lib.hid (HLP.out.below (btr (bal hba _) hbb)); have r0 := row_cell KR.out 0; have r4 := row_cell KR.out 4; have HZ := Lib.hid (QR.out _ HBB.out))
                    | (refine wpList_store_row rfl 24 (.tmp 2) (.tmp 69) rfl w.heap.size (tcs none 0 0 false 0) rfl rfl _ _ HZ.out.z0 szT rfl (tcs_one _ _ _ _ _) ?_)
                    | (refine wpList_store_row rfl 29 (.tmp 3) (.tmp 73) rfl (w.heap.size + 1) (fcs (k + 1) 2) rfl rfl _ _ (HZ.out.fl _) szF rfl (fcs_one _ _) ?_))
                  refine end_two rfl _ _ w.heap.size (w.heap.size + 1) 24 29 (tcs none 0 0 false 0) (fcs (k + 1) 2) _ _ rfl rfl ?_ (setRow_heap _ _ _ _ _ _ (HZ.out.fl _)) Tryz.underlying24 Tryz.underlying29 szT szF rfl (PE2.out _ HZ.out _ _)
                  rw [setRow_other _ _ _ _ (by omega)]
                  exact setRow_heap _ _ _ _ _ _ HZ.out.z0
                · have q1 : ((sc : Int) == 86400) = false := by simpa using hsc
                  clear hsc
                  have PE2 := Lib.hid (PE.out 2 r2 (by decide))
                  clear PE NX BD r1 r2 r3 hbad h0 h1 h2 hq
                  go_wp2_with (first
                    | (go_at_call 23; (with_reducible refine (RD.out _).mono ?_); rintro e wa ⟨rfl, hba⟩; have HBA := Lib.hid (btr hbr hba); have la := Nat.lt_of_lt_of_le (hp_lt HT.out) hba.size)
                    | (go_at_call 25; (with_reducible refine (NM.out _).mono ?_); rintro e wb ⟨rfl, hbb⟩; have HTB := Lib.hid (kept HT.out (btr (bal hba _) hbb)); have KR := Lib.hid (kept (hp_new wa _) hbb); have HBB := Lib.hid (btr (bal HBA.out _) hbb); have HLB := Lib.hid (HLP.out.below (btr (bal hba _) hbb)); have r0 := row_cell KR.out 0; have r4 := row_cell KR.out 4; have HZ := Lib.hid (QR.out _ HBB.out))
                    | (refine wpList_store_row rfl 24 (.tmp 2) (.tmp 69) rfl w.heap.size (tcs none 0 0 false 0) rfl rfl _ _ HZ.out.z0 szT rfl (tcs_one _ _ _ _ _) ?_)
                    | (refine wpList_store_row rfl 29 (.tmp 3) (.tmp 73) rfl (w.heap.size + 1) (fcs (k + 1) 2) rfl rfl _ _ (HZ.out.fl _) szF rfl (fcs_one _ _) ?_))
                  refine end_two rfl _ _ w.heap.size (w.heap.size + 1) 24 29 (tcs none 0 0 false 0) (fcs (k + 1) 2) _ _ rfl rfl ?_ (setRow_heap _ _ _ _ _ _ (HZ.out.fl _)) Tryz.underlying24 Tryz.underlying29 szT szF rfl (PE2.out _ HZ.out _ _)
                  rw [setRow_other _ _ _ _ (by omega)]
                  exact setRow_heap _ _ _ _ _ _ HZ.out.z0
            · have NM := Lib.hid (fun W => ref03.number_off (w := W) W (Below.refl _ _) y m d v)
              have hv : vldB y m d = false := by
                cases hq : vldB y m d with
                | false => rfl
                | true => exact absurd ((vldB_iff y m d).1 hq) v
              rw [hv] at r2
              clear v hv r3
              have r3 : True := trivial
              by_cases hx0 : s.xl = 0
              · have px : decide ((s.xl : Int) > 0) = false := decide_eq_false (by omega)
                have px2 : decide (0 < (s.xl : Int)) = false := decide_eq_false (by omega)
                have px3 : decide (0 < s.xl) = false := decide_eq_false (by omega)
                rw [if_neg (fun k => k hx0), if_pos (.inl rfl)] at r2
                skip
                have PE2 := Lib.hid (PE.out 9 r2 (by decide))
                clear PE NX BD r1 r2 r3 hbad h0 h1 h2 hq
                go_wp2_with (first
                  | (go_at_call 23; (with_reducible refine (RD.out _).mono ?_); rintro e wa ⟨rfl, hba⟩; have HBA := Lib.hid (btr hbr hba); have la := Nat.lt_of_lt_of_le (hp_lt HT.out) hba.size)
                  | (go_at_call 25; (with_reducible refine (NM.out _).mono ?_); rintro e wb ⟨rfl, hbb⟩; have HTB := Lib.hid (kept HT.out (btr (bal hba _) hbb)); have KR := Lib.hid (kept (hp_new wa _) hbb); have HBB := Lib.hid (btr (bal HBA.out _) hbb); have HLB := Lib.hid (HLP.out.below (btr (bal hba _) hbb)); have r0 := row_cell KR.out 0; have r4 := row_cell KR.out 4; have HZ := Lib.hid (QR.out _ HBB.out))
                  | (refine wpList_store_row rfl 24 (.tmp 2) (.tmp 69) rfl w.heap.size (tcs none 0 0 false 0) rfl rfl _ _ HZ.out.z0 szT rfl (tcs_one _ _ _ _ _) ?_)
                  | (refine wpList_store_row rfl 29 (.tmp 3) (.tmp 73) rfl (w.heap.size + 1) (fcs (k + 1) 9) rfl rfl _ _ (HZ.out.fl _) szF rfl (fcs_one _ _) ?_))
                refine end_two rfl _ _ w.heap.size (w.heap.size + 1) 24 29 (tcs none 0 0 false 0) (fcs (k + 1) 9) _ _ rfl rfl ?_ (setRow_heap _ _ _ _ _ _ (HZ.out.fl _)) Tryz.underlying24 Tryz.underlying29 szT szF rfl (PE2.out _ HZ.out _ _)
                rw [setRow_other _ _ _ _ (by omega)]
                exact setRow_heap _ _ _ _ _ _ HZ.out.z0
              · have px : decide ((s.xl : Int) > 0) = true := decide_eq_true (by omega)
                have px2 : decide (0 < (s.xl : Int)) = true := decide_eq_true (by omega)
                have px3 : decide (0 < s.xl) = true := decide_eq_true (by omega)
                rw [if_pos hx0] at r2
                skip
                have PE2 := Lib.hid (PE.out 2 r2 (by decide))
                clear PE NX BD r1 r2 r3 hbad h0 h1 h2 hq
                go_wp2_with (first
                  | (go_at_call 23; (with_reducible refine (RD.out _).mono ?_); rintro e wa ⟨rfl, hba⟩; have HBA := Lib.hid (btr hbr hba); have la := Nat.lt_of_lt_of_le (hp_lt HT.out) hba.size)
                  | (go_at_call 25; (with_reducible refine (NM.out _).mono ?_); rintro e wb ⟨rfl, hbb⟩; have HTB := Lib.hid (kept HT.out (btr (bal hba _) hbb)); have KR := Lib.hid (kept (hp_new wa _) hbb); have HBB := Lib.hid (btr (bal HBA.out _) hbb); have HLB := Lib.hid (HLP.out.below (btr (bal hba _) hbb)); have r0 := row_cell KR.out 0; have r4 := row_cell KR.out 4; have HZ := Lib.hid (QR.out _ HBB.out))
                  | (refine wpList_store_row rfl 24 (.tmp 2) (.tmp 69) rfl w.heap.size (tcs none 0 0 false 0) rfl rfl _ _ HZ.out.z0 szT rfl (tcs_one _ _ _ _ _) ?_)
                  | (refine wpList_store_row rfl 29 (.tmp 3) (.tmp 73) rfl (w.heap.size + 1) (fcs (k + 1) 2) rfl rfl _ _ (HZ.out.fl _) szF rfl (fcs_one _ _) ?_))
                refine end_two rfl _ _ w.heap.size (w.heap.size + 1) 24 29 (tcs none 0 0 false 0) (fcs (k + 1) 2) _ _ rfl rfl ?_ (setRow_heap _ _ _ _ _ _ (HZ.out.fl _)) Tryz.underlying24 Tryz.underlying29 szT szF rfl (PE2.out _ HZ.out _ _)
                rw [setRow_other _ _ _ _ (by omega)]
                exact setRow_heap _ _ _ _ _ _ HZ.out.z0
    · obtain rfl : k = X.length := by omega
      rw [List.take_of_length_le (Nat.le_refl _)] at hrun
      have hfin := run_fin hrun
      have d1 : decide ((X.length : Int) < (X.length : Int)) = false := decide_eq_false (by omega)
      have d2 : decide (X.length < X.length) = false := decide_eq_false (by omega)
      have HZr := Lib.hid (QR.out _ hbr)
      obtain ⟨c0, c1, c2⟩ := tcs_cells ht
      have PG : Hid (∀ has x, parse (X.map wl) = ⟨0, 0, s.lv, has, x⟩ → ∀ W, QZ w W → Lps W A s.lv → ∀ t f, QTold (parse (X.map wl)) w (.returned (.tuple #[.agg (tcs A s.lv.length c has x), .agg (fcs 0 0)])) ((W.setRow w.heap.size t).setRow (w.heap.size + 1) f)) := fun has x e W hz hl t f => by
        rw [e]
        exact qgood hz hl t f
      clear LS hrun hinv RDH
      by_cases hxl : s.xl = 0
      · have hpr : parse (X.map wl) = ⟨0, 0, s.lv, false, 0⟩ := by rw [hfin]; unfold fin; rw [if_pos hxl]
        have px : decide ((s.xl : Int) > 0) = false := decide_eq_false (by omega)
        have px2 : decide (0 < (s.xl : Int)) = false := decide_eq_false (by omega)
        have px3 : decide (0 < s.xl) = false := decide_eq_false (by omega)
        have PG1 := Lib.hid (PG.out _ _ hpr)
        clear PG hpr hfin hxl ht hlp
        go_wp2_with (first
          | (refine wpList_store_row rfl 24 (.tmp 2) (.tmp 85) rfl w.heap.size (tcs A s.lv.length c false 0) rfl rfl _ _ HZr.out.z0 szT rfl (tcs_one _ _ _ _ _) ?_)
          | (refine wpList_store_row rfl 29 (.tmp 3) (.tmp 86) rfl (w.heap.size + 1) (fcs 0 0) rfl rfl _ _ (HZr.out.fl _) szF rfl (fcs_one _ _) ?_))
        refine end_two rfl _ _ w.heap.size (w.heap.size + 1) 24 29 (tcs A s.lv.length c false 0) (fcs 0 0) _ _ rfl rfl ?_ (setRow_heap _ _ _ _ _ _ (HZr.out.fl _)) Tryz.underlying24 Tryz.underlying29 szT szF rfl (PG1.out _ HZr.out HLP.out _ _)
        rw [setRow_other _ _ _ _ (by omega)]
        exact setRow_heap _ _ _ _ _ _ HZr.out.z0
      · have px : decide ((s.xl : Int) > 0) = true := decide_eq_true (by omega)
        have px2 : decide (0 < (s.xl : Int)) = true := decide_eq_true (by omega)
        have px3 : decide (0 < s.xl) = true := decide_eq_true (by omega)
        have fz1 := row_open' (p := 1) ht
        have fz2 := row_open' (p := 2) (heap_cell (j := 1) (v := .bool true) ht)
        have k2 := row_cell (heap_cell (j := 1) (v := .bool true) ht) 2
        have H8 := Lib.hid (has_set (x := s.ex) ht)
        obtain ⟨e0, e1, e2⟩ := tcs_cells H8.out
        have L8 : Hid (Lps ((wr.setCell ⟨W1.heap.size, 1, none⟩ (.bool true)).setCell ⟨W1.heap.size, 2, none⟩ (.int .i64 s.ex)) A s.lv) := lps_cells (lps_cells hlp ht) (has := true) (x := 0) (n := s.lv.length) (c := c) (B := A) (heap_cell ht)
        have B8 : Hid (Below W1.heap.size W1 ((wr.setCell ⟨W1.heap.size, 1, none⟩ (.bool true)).setCell ⟨W1.heap.size, 2, none⟩ (.int .i64 s.ex))) := (hbr.setCell (p := ⟨W1.heap.size, 1, none⟩) (Nat.le_refl _) _).setCell (p := ⟨W1.heap.size, 2, none⟩) (Nat.le_refl _) _
        have RI := Lib.hid (fun W hl => ref09.right_at s.lv A c true s.ex W hl (by omega))
        by_cases hce : ce s.lv true s.ex = 0
        · have hpr : parse (X.map wl) = ⟨0, 0, s.lv, true, s.ex⟩ := by rw [hfin]; unfold fin; rw [if_neg hxl, if_pos hce]
          have PG1 := Lib.hid (PG.out _ _ hpr)
          rw [show (ce s.lv true s.ex == 0) = true by rw [hce]; rfl] at RI
          clear PG hpr hfin hxl hce ht hlp
          go_wp2_with (first
            | (go_at_call 26; (with_reducible refine (RI.out _ L8.out).mono ?_); rintro e wc ⟨rfl, hbc⟩; have HZ := Lib.hid (QR.out _ (btr B8.out hbc)); have LC := Lib.hid (L8.out.below hbc); clear c0 c1 c2 e0 e1 e2; obtain ⟨c0, c1, c2⟩ := tcs_cells (kept H8.out hbc))
            | (refine wpList_store_row rfl 24 (.tmp 2) (.tmp 85) rfl w.heap.size (tcs A s.lv.length c true s.ex) rfl rfl _ _ HZ.out.z0 szT rfl (tcs_one _ _ _ _ _) ?_)
            | (refine wpList_store_row rfl 29 (.tmp 3) (.tmp 86) rfl (w.heap.size + 1) (fcs 0 0) rfl rfl _ _ (HZ.out.fl _) szF rfl (fcs_one _ _) ?_))
          refine end_two rfl _ _ w.heap.size (w.heap.size + 1) 24 29 (tcs A s.lv.length c true s.ex) (fcs 0 0) _ _ rfl rfl ?_ (setRow_heap _ _ _ _ _ _ (HZ.out.fl _)) Tryz.underlying24 Tryz.underlying29 szT szF rfl (PG1.out _ HZ.out LC.out _ _)
          rw [setRow_other _ _ _ _ (by omega)]
          exact setRow_heap _ _ _ _ _ _ HZ.out.z0
        · have hpr : parse (X.map wl) = bad s.xl 9 := by rw [hfin]; unfold fin; rw [if_neg hxl, if_neg hce]
          have PB1 : Hid (∀ W, QZ w W → ∀ t f, QTold (parse (X.map wl)) w (.returned (.tuple #[.agg (tcs none 0 0 false 0), .agg (fcs s.xl 9)])) ((W.setRow w.heap.size t).setRow (w.heap.size + 1) f)) := fun W hz t f => by
            rw [hpr]
            exact qbad hz s.xl 9 t f
          rw [show (ce s.lv true s.ex == 0) = false by simpa using hce] at RI
          clear PG hpr hfin hxl hce ht hlp
          go_wp2_with (first
            | (go_at_call 26; (with_reducible refine (RI.out _ L8.out).mono ?_); rintro e wc ⟨rfl, hbc⟩; have HZ := Lib.hid (QR.out _ (btr B8.out hbc)))
            | (refine wpList_store_row rfl 24 (.tmp 2) (.tmp 82) rfl w.heap.size (tcs none 0 0 false 0) rfl rfl _ _ HZ.out.z0 szT rfl (tcs_one _ _ _ _ _) ?_)
            | (refine wpList_store_row rfl 29 (.tmp 3) (.tmp 84) rfl (w.heap.size + 1) (fcs s.xl 9) rfl rfl _ _ (HZ.out.fl _) szF rfl (fcs_one _ _) ?_))
          refine end_two rfl _ _ w.heap.size (w.heap.size + 1) 24 29 (tcs none 0 0 false 0) (fcs s.xl 9) _ _ rfl rfl ?_ (setRow_heap _ _ _ _ _ _ (HZ.out.fl _)) Tryz.underlying24 Tryz.underlying29 szT szF rfl (PB1.out _ HZ.out _ _)
          rw [setRow_other _ _ _ _ (by omega)]
          exact setRow_heap _ _ _ _ _ _ HZ.out.z0
end Go.Proofs.YtiboijhfieaepaaGreatDoor.ref11
