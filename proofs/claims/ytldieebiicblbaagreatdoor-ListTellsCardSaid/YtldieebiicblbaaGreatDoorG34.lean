/-
  The document's own Parse of layer 10, and what it answers. Conditions: texts of at most 300000 bytes; and, as a premise, what the document's block of SHA-1 answers.
-/
import Derived.Test.YtldieebiicblbaaGreatDoorG33
namespace Go.Proofs.YtldieebiicblbaaGreatDoor.ref10
open Go.ChangeShapes Go.WideShapes Go.ChangeAt Go.RowKit
open lx ls mem
open lm (Lp ce)
open leap (tcs Lps szT tcs_one tcs_cells)
open list (fcs fcs_one szF end_two run_fin)
set_option linter.unusedVariables false
set_option maxRecDepth 100000

theorem row_open' {W : World} {g p : Nat} {c : Array Value} {ty : TypeId} (h : W.heap[g]? = some (.cells c ty (0, 0))) : W.frozen? ⟨g, p, none⟩ = false := by
  simp [World.frozen?, h]
theorem heap_cell {w : World} {g j : Nat} {c : Array Value} {t : TypeId} {v : Value} (h : w.heap[g]? = some (.cells c t (0, 0))) : (w.setCell ⟨g, j, none⟩ v).heap[g]? = some (.cells (c.setIfInBounds j v) t (0, 0)) := heap_setCell_same w g j _ _ _ h
theorem heap_other {w : World} {g j k : Nat} {v : Value} (h : g ≠ k) : (w.setCell ⟨g, j, none⟩ v).heap[k]? = w.heap[k]? := heap_setCell_other w ⟨g, j, none⟩ k v (by show k ≠ g; exact fun e => h e.symm)
theorem set_at {W : World} {g h j : Nat} {c : Array Value} {ty : TypeId} {v : Value} (hk : W.heap[h]? = some (.cells c ty (0, 0))) (hc : c[j]? = some v) (ne : h ≠ g) (t : Array Value) : (W.setRow g t).cell? ⟨h, j, none⟩ = some v :=
  (World.cell?_of_block (a := ⟨h, j, none⟩) (setRow_other _ _ _ _ ne)).trans ((row_cell hk j).trans hc)
theorem has_set {W : World} {g n c : Nat} {A : Option Addr} {x : Int} (h : W.heap[g]? = some (.cells (tcs A n c false 0) 24 (0, 0))) : ((W.setCell ⟨g, 1, none⟩ (.bool true)).setCell ⟨g, 2, none⟩ (.int .i64 x)).heap[g]? = some (.cells (tcs A n c true x) 24 (0, 0)) := heap_cell (heap_cell h)
theorem lps_cells {W : World} {A : Option Addr} {l : List Lp} {g n c j : Nat} {B : Option Addr} {has : Bool} {x : Int} {v : Value} (h : Lps W A l) (hg : W.heap[g]? = some (.cells (tcs B n c has x) 24 (0, 0))) : Lps (W.setCell ⟨g, j, none⟩ v) A l := by
  intro hl
  have hne := lps_apart h hl hg
  obtain ⟨b, o, e, hlt, hc⟩ := h hl
  have hb : (W.setCell ⟨g, j, none⟩ v).heap[b]? = W.heap[b]? := heap_other fun q => hne b o e q.symm
  refine ⟨b, o, e, by simpa [World.setCell] using hlt, fun k hk => ?_⟩
  obtain ⟨c0, c1, c2⟩ := hc k hk
  exact ⟨(World.cell?_of_block (a := ⟨b, _, none⟩) hb).trans c0, (World.cell?_of_block (a := ⟨b, _, none⟩) hb).trans c1, (World.cell?_of_block (a := ⟨b, _, none⟩) hb).trans c2⟩
set_option maxHeartbeats 16000000 in
theorem parse_at (HB : ref06.BlockOk) (s0 : ByteArray) (w : World) (hs : s0.size ≤ 300000) : Calls Tryz.prog 7 #[.string s0] w (QTold (parse ((splitS s0).map L)) w) := by
  have RO := Lib.hid (fun W => rows_at s0 W hs)
  unfold RowsTold at RO
  have hn : ((splitS s0).map L).length ≤ 300000 := by rw [List.length_map]; have := list.lines_len s0; omega
  have HH := Lib.hid (fun W => hash_at HB s0 W hs)
  have htot : tot ((splitS s0).map L) ≤ 300000 := by
    have := list.spl_tot (L s0) []
    unfold splitS
    rw [List.map_map, show (L ∘ B) = id by funext x; exact L_B x, List.map_id]
    rw [L_len] at this
    simp at this
    omega
  generalize (splitS s0).map L = ls at *
  have FN1 : Hid (∀ W A c, Rws W A ls → Calls Tryz.prog 19 #[.slice A ls.length c, .int .i64 1] W fun e w' => e = .returned (.int .i64 (fdI 1 ls)) ∧ Below W.heap.size W w') := fun W A c h => find_at ls A c 1 W h (by omega) (by decide)
  have FN2 : Hid (∀ W A c, Rws W A ls → Calls Tryz.prog 19 #[.slice A ls.length c, .int .i64 2] W fun e w' => e = .returned (.int .i64 (fdI 2 ls)) ∧ Below W.heap.size W w') := fun W A c h => find_at ls A c 2 W h (by omega) (by decide)
  have FN3 : Hid (∀ W A c, Rws W A ls → Calls Tryz.prog 19 #[.slice A ls.length c, .int .i64 3] W fun e w' => e = .returned (.int .i64 (fdI 3 ls)) ∧ Below W.heap.size W w') := fun W A c h => find_at ls A c 3 W h (by omega) (by decide)
  go_enter Tryz.func7, Tryz.ntmps7
  go_wp2_with (go_at_call 18; (with_reducible refine (RO.out _).mono ?_); rintro e W1 ⟨A0, c0', rfl, hR, hb1⟩)
  have HQ : Hid (QZ w W1) := ⟨kept (hp_old (hp_new w _) _) hb1, kept (hp_new1 w _ _) hb1, btr (bal (bal (Below.refl _ _) _) _) hb1⟩
  have s1 : w.heap.size + 1 < W1.heap.size := hp_lt HQ.out.z1
  have HS := Lib.hid hR
  clear hR RO hb1
  go_loopw [6, 7] (fun a i W => QHead ls W1 a i W) (fun _ i _ => ls.length - (intOf i).toNat)
  case atStart => exact ⟨0, S0, none, 0, rfl, rfl, Nat.zero_le _, rfl, pinv_zero, hp_new W1 _, fun h => absurd rfl h, bal (Below.refl _ _) _⟩
  case round =>
    obtain ⟨k, s, A, c, rfl, rfl, hk, hrun, hpi, ht, hlp, hbr⟩ := hrel
    have hinv := (run_inv (ls.take k) 0 S0 inv_zero).1
    rw [hrun] at hinv
    have hlen : s.lv.length ≤ 200 := (lm.good_of hinv.good).len
    have hct := list.run_ct (ls.take k) 0 S0 (by decide)
    rw [hrun] at hct
    have hct : 0 ≤ s.ct ∧ s.ct ≤ 9223372036854775807 := hct
    have HT := Lib.hid ht
    have HLP := Lib.hid hlp
    have QR := Lib.hid (fun W (hb : Below W1.heap.size W1 W) => HQ.out.below hb)
    by_cases hlt : k < ls.length
    · obtain ⟨b, o, ps, rfl, hbl, hcell⟩ := HS.out.below hbr (by intro e; rw [e] at hlt; simp at hlt)
      obtain ⟨⟨x0, x1, x2, x3, x4⟩, _⟩ := hcell k hlt
      have HR := Lib.hid (fun W (hb : Below W1.heap.size W1 W) => HS.out.below hb)
      have d1 : decide ((k : Int) < (ls.length : Int)) = true := by simp; omega
      have d2 : decide (k < ls.length) = true := by simp; omega
      have BD := Lib.hid (fun he => pbad hlt hrun he)
      have NX := Lib.hid (fun (s' : S) (he : stE (ls.getD k []) s = 0) (hs : stS (ls.getD k []) (k + 1) s = s') (A' : Option Addr) (c' : Nat) (W' : World) ht hl hb => qnext (W1 := W1) (A := A') (c := c') (W' := W') hlt hrun hpi he hs ht hl hb)
      have FH : Hid (∀ kind, kd (ls.getD k []) = kind → (kind = 1 ∨ kind = 2 ∨ kind = 3) → (s.p kind = 0 → fdI kind ls = (k : Nat)) ∧ (s.p kind ≠ 0 → fdI kind ls ≠ (k : Nat))) := fun kind e hk => by
        rw [hpi.p kind (by omega)]
        exact find_here hlt e
      have hkd := kd_le (ls.getD k [])
      have PE : Hid (∀ E, stE (ls.getD k []) s = E → E ≠ 0 → ∀ W, QZ w W → ∀ t f, QTold (parse ls) w (.returned (.tuple #[.agg (tcs none 0 0 false 0), .agg (fcs (k + 1) E)])) ((W.setRow w.heap.size t).setRow (w.heap.size + 1) f)) := fun E hE h0 W hz t f => by
        rw [BD.out (by rw [hE]; exact h0), hE]
        exact qbad hz (k + 1) E t f
      have OB : Hid ((s.p 5 = 0 ∧ offs s = -1) ∨ (s.p 5 ≠ 0 ∧ offs s = s.ct)) := by
        show _ ∨ _
        unfold offs
        by_cases g : s.p 5 = 0
        · exact .inl ⟨g, if_pos g⟩
        · exact .inr ⟨g, if_neg g⟩
      clear hcell hrun ht hlp hpi hinv
      generalize ls.getD k [] = y at *
      have g1b := list.g1_bd y
      have g2b := list.g2_bd y
      by_cases h04 : kd y = 0 ∨ kd y = 4
      · obtain ⟨r2, r3⟩ := line_skip h04 (k + 1) s
        have hok : ok y = true := by unfold ok; rw [if_pos h04]
        have NX0 := Lib.hid (fun W' (hb : Below wr.heap.size wr W') (hbW : Below W1.heap.size W1 W') => NX.out s r2 r3 A c W' (kept HT.out hb) (HLP.out.below hb) hbW)
        rw [hok] at x1
        generalize (wo y).length = WL at *
        generalize o1 y = V1 at *
        generalize o2 y = V2 at *
        clear PE NX BD r2 r3 hok FH OB g1b g2b
        rcases h04 with h | h
        all_goals
          rw [h] at x0
          clear h hkd
          as_aux_lemma =>
            skip
            go_wp2_with fail
            go_roundw
            case rel => exact NX0.out _ (bal (Below.refl _ _) _) (bal hbr _)
            case measure => simp [intOf]; omega
      · skip
        cases hok : ok y with
        | false =>
          have r2 := line_bad hok s
          have PE2 := Lib.hid (PE.out 2 r2 (by decide))
          have HZ := Lib.hid (fun ob => QR.out _ (bal hbr ob))
          rw [hok] at x1
          generalize (wo y).length = WL at *
          generalize o1 y = V1 at *
          generalize o2 y = V2 at *
          have h4 : kd y = 1 ∨ kd y = 2 ∨ kd y = 3 ∨ kd y = 5 := by omega
          clear PE NX BD r2 hok FH OB g1b g2b h04 hkd
          rcases h4 with h | h | h | h
          all_goals
            rw [h] at x0
            clear h
            as_aux_lemma =>
              skip
              go_wp2_with (first
                | ((with_reducible refine wpList_store_row ?_ 24 (.tmp 2) (.tmp 55) ?_ w.heap.size (tcs none 0 0 false 0) ?_ ?_ 24 (tcs none 0 0 false 0) ?_ ?_ ?_ ?_ ?_); (next => rfl); (next => rfl); (next => rfl); (next => rfl); (next => exact (HZ.out _).z0); (next => exact szT); (next => rfl); (next => exact tcs_one _ _ _ _ _))
                | ((with_reducible refine wpList_store_row ?_ 29 (.tmp 3) (.tmp 58) ?_ (w.heap.size + 1) (fcs (k + 1) 2) ?_ ?_ 29 (fcs 0 0) ?_ ?_ ?_ ?_ ?_); (next => rfl); (next => rfl); (next => rfl); (next => rfl); (next => exact (HZ.out _).fl _); (next => exact szF); (next => rfl); (next => exact fcs_one _ _)))
              refine end_two rfl _ _ w.heap.size (w.heap.size + 1) 24 29 (tcs none 0 0 false 0) (fcs (k + 1) 2) _ _ rfl rfl ?_ (setRow_heap _ _ _ _ _ _ ((HZ.out _).fl _)) Tryz.underlying24 Tryz.underlying29 szT szF rfl (PE2.out _ (HZ.out _) _ _)
              rw [setRow_other _ _ _ _ (by omega)]
              exact setRow_heap _ _ _ _ _ _ (HZ.out _).z0
        | true =>
          rw [hok] at x1
          by_cases h5 : kd y = 5
          · rw [h5] at x0
            rw [o1_ok (by omega) hok] at x3
            rw [o2_ok h5 hok] at x4
            rcases OB.out with ⟨g, e⟩ | ⟨g, e⟩
            · obtain ⟨r2, r3, r4⟩ := line_first h5 g hok (k + 1) (by omega)
              have PO := Lib.hid (fun W => ref07.posix_yes (g1 y) W (And.intro (by omega) (by omega)) g1b.1)
              have HZ := Lib.hid (fun ob => QR.out _ (bal hbr ob))
              by_cases hgo : g1 y = 2272060800 ∧ g2 y = 10
              · rw [if_neg (by omega)] at r2
                have NX1 : Hid (∀ W', Below wr.heap.size wr W' → Below W1.heap.size W1 W' → QHead ls W1 (.int .i64 (g2 y)) (.int .i64 ((k : Int) + 1)) W') := fun W' hb hbW => by
                  have := NX.out (stS y (k + 1) s) r2 rfl A c W' (by rw [r3]; exact kept HT.out hb) (by rw [r3]; exact HLP.out.below hb) hbW
                  rw [r4] at this
                  exact this
                have t1 : (g1 y - 2208988800 != 63072000) = false := by rw [hgo.1]; rfl
                have t2 : (g2 y != 10) = false := by rw [hgo.2]; rfl
                generalize (wo y).length = WL at *
                generalize offs s = F at *
                subst e
                clear PE NX BD r2 r3 r4 hok FH OB h04 hkd h5 g hgo
                generalize g1 y = V1 at *
                generalize g2 y = V2 at *
                as_aux_lemma =>
                  skip
                  go_wp2_with (first
                    | (go_at_call 20; (with_reducible refine (PO.out _).mono ?_); rintro e wp ⟨rfl, rfl⟩))
                  go_roundw
                  case rel => exact NX1.out _ (bal (Below.refl _ _) _) (bal hbr _)
                  case measure => simp [intOf]; omega
              · rw [if_pos (by omega)] at r2
                have PE2 := Lib.hid (PE.out 9 r2 (by decide))
                have D : (g1 y - 2208988800 != 63072000) = true ∨ ((g1 y - 2208988800 != 63072000) = false ∧ (g2 y != 10) = true) := by
                  by_cases q : g1 y = 2272060800
                  · exact .inr ⟨by rw [q]; rfl, by simp; omega⟩
                  · exact .inl (by simp; omega)
                generalize (wo y).length = WL at *
                generalize offs s = F at *
                subst e
                clear PE NX BD r2 r3 r4 hok FH OB h04 hkd h5 g hgo
                generalize g1 y = V1 at *
                generalize g2 y = V2 at *
                rcases D with t1 | ⟨t1, t2⟩
                all_goals
                  as_aux_lemma =>
                    skip
                    go_wp2_with (first
                      | (go_at_call 20; (with_reducible refine (PO.out _).mono ?_); rintro e wp ⟨rfl, rfl⟩)
                      | ((with_reducible refine wpList_store_row ?_ 24 (.tmp 2) (.tmp 86) ?_ w.heap.size (tcs none 0 0 false 0) ?_ ?_ 24 (tcs none 0 0 false 0) ?_ ?_ ?_ ?_ ?_); (next => rfl); (next => rfl); (next => rfl); (next => rfl); (next => exact (HZ.out _).z0); (next => exact szT); (next => rfl); (next => exact tcs_one _ _ _ _ _))
                      | ((with_reducible refine wpList_store_row ?_ 29 (.tmp 3) (.tmp 90) ?_ (w.heap.size + 1) (fcs (k + 1) 9) ?_ ?_ 29 (fcs 0 0) ?_ ?_ ?_ ?_ ?_); (next => rfl); (next => rfl); (next => rfl); (next => rfl); (next => exact (HZ.out _).fl _); (next => exact szF); (next => rfl); (next => exact fcs_one _ _)))
                    refine end_two rfl _ _ w.heap.size (w.heap.size + 1) 24 29 (tcs none 0 0 false 0) (fcs (k + 1) 9) _ _ rfl rfl ?_ (setRow_heap _ _ _ _ _ _ ((HZ.out _).fl _)) Tryz.underlying24 Tryz.underlying29 szT szF rfl (PE2.out _ (HZ.out _) _ _)
                    rw [setRow_other _ _ _ _ (by omega)]
                    exact setRow_heap _ _ _ _ _ _ (HZ.out _).z0
            · obtain ⟨r2, r3, r4⟩ := line_next h5 g hok (k + 1)
              have AD : Hid (∀ W, Lps W A s.lv → Calls Tryz.prog 21 #[.agg #[.slice A s.lv.length c, .bool false, .int .i64 0], .agg #[.int .i64 5, .bool true, .slice (ps k).1 (wo y).length (ps k).2, .int .i64 (g1 y), .int .i64 (g2 y)], .int .i64 s.ct] W (ATold (nxL s.lv (g1 y) (g2 y - s.ct)) (lE (g1 y) (g2 y - s.ct) s.lv) W)) := fun W h => next_at s.lv A c 5 (g1 y) (g2 y) s.ct true (ps k).1 (wo y).length (ps k).2 W h (by omega) g1b g2b hct
              unfold ATold at AD
              have HL := Lib.hid (fun ob => HLP.out.below (bal (Below.refl wr.heap.size wr) ob))
              have cc0 := fun ob => (tcs_cells (kept HT.out (bal (Below.refl wr.heap.size wr) ob))).1
              have cc1 := fun ob => (tcs_cells (kept HT.out (bal (Below.refl wr.heap.size wr) ob))).2.1
              have cc2 := fun ob => (tcs_cells (kept HT.out (bal (Below.refl wr.heap.size wr) ob))).2.2
              have t0 : decide (s.ct < 0) = false := by simp; omega
              by_cases he : lE (g1 y) (g2 y - s.ct) s.lv = 0
              · have NX1 : Hid (∀ A' c' W', W'.heap[W1.heap.size]? = some (.cells (tcs A' (nxL s.lv (g1 y) (g2 y - s.ct)).length c' false 0) 24 (0, 0)) → Lps W' A' (nxL s.lv (g1 y) (g2 y - s.ct)) → Below W1.heap.size W1 W' → QHead ls W1 (.int .i64 (g2 y)) (.int .i64 ((k : Int) + 1)) W') := fun A' c' W' ht hl hbW => by
                  have := NX.out (stS y (k + 1) s) (r2.trans he) rfl A' c' W' (by rw [r3 he]; exact ht) (by rw [r3 he]; exact hl) hbW
                  rw [r4] at this
                  exact this
                rw [he] at AD
                generalize nxL s.lv (g1 y) (g2 y - s.ct) = L' at *
                generalize (wo y).length = WL at *
                generalize offs s = F at *
                subst e
                generalize s.ct = CT at *
                clear PE NX BD r2 r3 r4 hok FH OB h04 hkd h5 g he
                generalize g1 y = V1 at *
                generalize g2 y = V2 at *
                as_aux_lemma =>
                  skip
                  go_wp2_with (first
                    | (go_at_call 21; (with_reducible refine (AD.out _ (HL.out _)).mono ?_); rintro e wb ⟨A', c', rfl, hlb, hbb⟩; have HTB := Lib.hid (kept HT.out (btr (bal (Below.refl _ _) _) hbb)); have KR := Lib.hid (kept (hp_new wr _) hbb); have HBB := Lib.hid (btr (bal hbr _) hbb); have HLB := Lib.hid hlb; clear hlb; have r4_ := fun t => set_at (g := W1.heap.size) KR.out (j := 4) rfl (by have := hp_lt HT.out; omega) t; have HZ := Lib.hid (fun t => QR.out _ (bel_setRow HBB.out (Nat.le_refl _) t)))
                    | ((with_reducible refine wpList_store_row ?_ 24 (.tmp 5) (.tmp 82) ?_ W1.heap.size (tcs A' L'.length c' false 0) ?_ ?_ 24 (tcs A s.lv.length c false 0) ?_ ?_ ?_ ?_ ?_); (next => rfl); (next => rfl); (next => rfl); (next => rfl); (next => exact HTB.out); (next => exact szT); (next => rfl); (next => exact tcs_one _ _ _ _ _)))
                  go_roundw
                  case rel => exact NX1.out _ _ _ (setRow_heap _ _ _ _ _ _ HTB.out) (lps_row HLB.out HTB.out) (bel_setRow HBB.out (Nat.le_refl _) _)
                  case measure => simp [intOf]; omega
              · have PE2 := Lib.hid (PE.out _ r2 he)
                have ne0 : (lE (g1 y) (g2 y - s.ct) s.lv != 0) = true := by simpa using he
                generalize nxL s.lv (g1 y) (g2 y - s.ct) = L' at *
                generalize lE (g1 y) (g2 y - s.ct) s.lv = E' at *
                generalize (wo y).length = WL at *
                generalize offs s = F at *
                subst e
                generalize s.ct = CT at *
                clear PE NX BD r2 r3 r4 hok FH OB h04 hkd h5 g he
                generalize g1 y = V1 at *
                generalize g2 y = V2 at *
                as_aux_lemma =>
                  skip
                  go_wp2_with (first
                    | (go_at_call 21; (with_reducible refine (AD.out _ (HL.out _)).mono ?_); rintro e wb ⟨A', c', rfl, hlb, hbb⟩; have HTB := Lib.hid (kept HT.out (btr (bal (Below.refl _ _) _) hbb)); have KR := Lib.hid (kept (hp_new wr _) hbb); have HBB := Lib.hid (btr (bal hbr _) hbb); have HLB := Lib.hid hlb; clear hlb; have r4_ := fun t => set_at (g := W1.heap.size) KR.out (j := 4) rfl (by have := hp_lt HT.out; omega) t; have HZ := Lib.hid (fun t => QR.out _ (bel_setRow HBB.out (Nat.le_refl _) t)))
                    | ((with_reducible refine wpList_store_row ?_ 24 (.tmp 5) (.tmp 82) ?_ W1.heap.size (tcs A' L'.length c' false 0) ?_ ?_ 24 (tcs A s.lv.length c false 0) ?_ ?_ ?_ ?_ ?_); (next => rfl); (next => rfl); (next => rfl); (next => rfl); (next => exact HTB.out); (next => exact szT); (next => rfl); (next => exact tcs_one _ _ _ _ _))
                    | ((with_reducible refine wpList_store_row ?_ 24 (.tmp 2) (.tmp 86) ?_ w.heap.size (tcs none 0 0 false 0) ?_ ?_ 24 (tcs none 0 0 false 0) ?_ ?_ ?_ ?_ ?_); (next => rfl); (next => rfl); (next => rfl); (next => rfl); (next => exact (HZ.out _).z0); (next => exact szT); (next => rfl); (next => exact tcs_one _ _ _ _ _))
                    | ((with_reducible refine wpList_store_row ?_ 29 (.tmp 3) (.tmp 90) ?_ (w.heap.size + 1) (fcs (k + 1) E') ?_ ?_ 29 (fcs 0 0) ?_ ?_ ?_ ?_ ?_); (next => rfl); (next => rfl); (next => rfl); (next => rfl); (next => exact (HZ.out _).fl _); (next => exact szF); (next => rfl); (next => exact fcs_one _ _)))
                  refine end_two rfl _ _ w.heap.size (w.heap.size + 1) 24 29 (tcs none 0 0 false 0) (fcs (k + 1) E') _ _ rfl rfl ?_ (setRow_heap _ _ _ _ _ _ ((HZ.out _).fl _)) Tryz.underlying24 Tryz.underlying29 szT szF rfl (PE2.out _ (HZ.out _) _ _)
                  rw [setRow_other _ _ _ _ (by omega)]
                  exact setRow_heap _ _ _ _ _ _ (HZ.out _).z0
          · have h3 : kd y = 1 ∨ kd y = 2 ∨ kd y = 3 := by omega
            by_cases hz : s.p (kd y) = 0
            · obtain ⟨r2, r3, r4⟩ := line_mark h3 hz hok (k + 1)
              have NX1 : Hid (∀ W', Below wr.heap.size wr W' → Below W1.heap.size W1 W' → QHead ls W1 (.int .i64 (offs s)) (.int .i64 ((k : Int) + 1)) W') := fun W' hb hbW => by
                have := NX.out (stS y (k + 1) s) r2 rfl A c W' (by rw [r3]; exact kept HT.out hb) (by rw [r3]; exact HLP.out.below hb) hbW
                rw [r4] at this
                exact this
              have FK : Hid ((fdI (kd y) ls != (k : Int)) = false) := by show _ = _; rw [(FH.out (kd y) rfl h3).1 hz]; simp
              generalize (wo y).length = WL at *
              generalize o1 y = V1 at *
              generalize o2 y = V2 at *
              clear PE NX BD r2 r3 r4 hok FH OB g1b g2b h04 hkd hz h5
              rcases h3 with h | h | h
              · rw [h] at x0 FK
                have fk := FK.out
                clear h FK
                as_aux_lemma =>
                  skip
                  go_wp2_with (first
                    | (go_at_call 19; (with_reducible refine (FN1.out _ _ _ (HR.out _ (bal hbr _))).mono ?_); rintro e wf ⟨rfl, hbf⟩; have HBF := Lib.hid (btr (bal hbr _) hbf); have KX := Lib.hid (kept (hp_new wr _) hbf); have y0 := row_cell KX.out 0; have HZF := Lib.hid (QR.out _ HBF.out); have HF0 := Lib.hid (btr (bal (Below.refl _ _) _) hbf)))
                  go_roundw
                  case rel => exact NX1.out _ HF0.out HBF.out
                  case measure => simp [intOf]; omega
              · rw [h] at x0 FK
                have fk := FK.out
                clear h FK
                as_aux_lemma =>
                  skip
                  go_wp2_with (first
                    | (go_at_call 19; (with_reducible refine (FN2.out _ _ _ (HR.out _ (bal hbr _))).mono ?_); rintro e wf ⟨rfl, hbf⟩; have HBF := Lib.hid (btr (bal hbr _) hbf); have KX := Lib.hid (kept (hp_new wr _) hbf); have y0 := row_cell KX.out 0; have HZF := Lib.hid (QR.out _ HBF.out); have HF0 := Lib.hid (btr (bal (Below.refl _ _) _) hbf)))
                  go_roundw
                  case rel => exact NX1.out _ HF0.out HBF.out
                  case measure => simp [intOf]; omega
              · rw [h] at x0 FK
                have fk := FK.out
                clear h FK
                as_aux_lemma =>
                  skip
                  go_wp2_with (first
                    | (go_at_call 19; (with_reducible refine (FN3.out _ _ _ (HR.out _ (bal hbr _))).mono ?_); rintro e wf ⟨rfl, hbf⟩; have HBF := Lib.hid (btr (bal hbr _) hbf); have KX := Lib.hid (kept (hp_new wr _) hbf); have y0 := row_cell KX.out 0; have HZF := Lib.hid (QR.out _ HBF.out); have HF0 := Lib.hid (btr (bal (Below.refl _ _) _) hbf)))
                  go_roundw
                  case rel => exact NX1.out _ HF0.out HBF.out
                  case measure => simp [intOf]; omega
            · have r2 := line_twice h3 hz
              have PE2 := Lib.hid (PE.out 2 r2 (by decide))
              have FK : Hid ((fdI (kd y) ls != (k : Int)) = true) := by show _ = _; simpa using (FH.out (kd y) rfl h3).2 hz
              generalize (wo y).length = WL at *
              generalize o1 y = V1 at *
              generalize o2 y = V2 at *
              clear PE NX BD r2 hok FH OB g1b g2b h04 hkd hz h5
              rcases h3 with h | h | h
              · rw [h] at x0 FK
                have fk := FK.out
                clear h FK
                as_aux_lemma =>
                  skip
                  go_wp2_with (first
                    | (go_at_call 19; (with_reducible refine (FN1.out _ _ _ (HR.out _ (bal hbr _))).mono ?_); rintro e wf ⟨rfl, hbf⟩; have HBF := Lib.hid (btr (bal hbr _) hbf); have KX := Lib.hid (kept (hp_new wr _) hbf); have y0 := row_cell KX.out 0; have HZF := Lib.hid (QR.out _ HBF.out); have HF0 := Lib.hid (btr (bal (Below.refl _ _) _) hbf))
                    | ((with_reducible refine wpList_store_row ?_ 24 (.tmp 2) (.tmp 55) ?_ w.heap.size (tcs none 0 0 false 0) ?_ ?_ 24 (tcs none 0 0 false 0) ?_ ?_ ?_ ?_ ?_); (next => rfl); (next => rfl); (next => rfl); (next => rfl); (next => exact HZF.out.z0); (next => exact szT); (next => rfl); (next => exact tcs_one _ _ _ _ _))
                    | ((with_reducible refine wpList_store_row ?_ 29 (.tmp 3) (.tmp 58) ?_ (w.heap.size + 1) (fcs (k + 1) 2) ?_ ?_ 29 (fcs 0 0) ?_ ?_ ?_ ?_ ?_); (next => rfl); (next => rfl); (next => rfl); (next => rfl); (next => exact HZF.out.fl _); (next => exact szF); (next => rfl); (next => exact fcs_one _ _)))
                  refine end_two rfl _ _ w.heap.size (w.heap.size + 1) 24 29 (tcs none 0 0 false 0) (fcs (k + 1) 2) _ _ rfl rfl ?_ (setRow_heap _ _ _ _ _ _ (HZF.out.fl _)) Tryz.underlying24 Tryz.underlying29 szT szF rfl (PE2.out _ HZF.out _ _)
                  rw [setRow_other _ _ _ _ (by omega)]
                  exact setRow_heap _ _ _ _ _ _ HZF.out.z0
              · rw [h] at x0 FK
                have fk := FK.out
                clear h FK
                as_aux_lemma =>
                  skip
                  go_wp2_with (first
                    | (go_at_call 19; (with_reducible refine (FN2.out _ _ _ (HR.out _ (bal hbr _))).mono ?_); rintro e wf ⟨rfl, hbf⟩; have HBF := Lib.hid (btr (bal hbr _) hbf); have KX := Lib.hid (kept (hp_new wr _) hbf); have y0 := row_cell KX.out 0; have HZF := Lib.hid (QR.out _ HBF.out); have HF0 := Lib.hid (btr (bal (Below.refl _ _) _) hbf))
                    | ((with_reducible refine wpList_store_row ?_ 24 (.tmp 2) (.tmp 55) ?_ w.heap.size (tcs none 0 0 false 0) ?_ ?_ 24 (tcs none 0 0 false 0) ?_ ?_ ?_ ?_ ?_); (next => rfl); (next => rfl); (next => rfl); (next => rfl); (next => exact HZF.out.z0); (next => exact szT); (next => rfl); (next => exact tcs_one _ _ _ _ _))
                    | ((with_reducible refine wpList_store_row ?_ 29 (.tmp 3) (.tmp 58) ?_ (w.heap.size + 1) (fcs (k + 1) 2) ?_ ?_ 29 (fcs 0 0) ?_ ?_ ?_ ?_ ?_); (next => rfl); (next => rfl); (next => rfl); (next => rfl); (next => exact HZF.out.fl _); (next => exact szF); (next => rfl); (next => exact fcs_one _ _)))
                  refine end_two rfl _ _ w.heap.size (w.heap.size + 1) 24 29 (tcs none 0 0 false 0) (fcs (k + 1) 2) _ _ rfl rfl ?_ (setRow_heap _ _ _ _ _ _ (HZF.out.fl _)) Tryz.underlying24 Tryz.underlying29 szT szF rfl (PE2.out _ HZF.out _ _)
                  rw [setRow_other _ _ _ _ (by omega)]
                  exact setRow_heap _ _ _ _ _ _ HZF.out.z0
              · rw [h] at x0 FK
                have fk := FK.out
                clear h FK
                as_aux_lemma =>
                  skip
                  go_wp2_with (first
                    | (go_at_call 19; (with_reducible refine (FN3.out _ _ _ (HR.out _ (bal hbr _))).mono ?_); rintro e wf ⟨rfl, hbf⟩; have HBF := Lib.hid (btr (bal hbr _) hbf); have KX := Lib.hid (kept (hp_new wr _) hbf); have y0 := row_cell KX.out 0; have HZF := Lib.hid (QR.out _ HBF.out); have HF0 := Lib.hid (btr (bal (Below.refl _ _) _) hbf))
                    | ((with_reducible refine wpList_store_row ?_ 24 (.tmp 2) (.tmp 55) ?_ w.heap.size (tcs none 0 0 false 0) ?_ ?_ 24 (tcs none 0 0 false 0) ?_ ?_ ?_ ?_ ?_); (next => rfl); (next => rfl); (next => rfl); (next => rfl); (next => exact HZF.out.z0); (next => exact szT); (next => rfl); (next => exact tcs_one _ _ _ _ _))
                    | ((with_reducible refine wpList_store_row ?_ 29 (.tmp 3) (.tmp 58) ?_ (w.heap.size + 1) (fcs (k + 1) 2) ?_ ?_ 29 (fcs 0 0) ?_ ?_ ?_ ?_ ?_); (next => rfl); (next => rfl); (next => rfl); (next => rfl); (next => exact HZF.out.fl _); (next => exact szF); (next => rfl); (next => exact fcs_one _ _)))
                  refine end_two rfl _ _ w.heap.size (w.heap.size + 1) 24 29 (tcs none 0 0 false 0) (fcs (k + 1) 2) _ _ rfl rfl ?_ (setRow_heap _ _ _ _ _ _ (HZF.out.fl _)) Tryz.underlying24 Tryz.underlying29 szT szF rfl (PE2.out _ HZF.out _ _)
                  rw [setRow_other _ _ _ _ (by omega)]
                  exact setRow_heap _ _ _ _ _ _ HZF.out.z0
    · obtain rfl : k = ls.length := by omega
      rw [List.take_of_length_le (Nat.le_refl _)] at hrun hpi hinv
      have hfin := run_fin hrun
      have d1 : decide ((ls.length : Int) < (ls.length : Int)) = false := decide_eq_false (by omega)
      have d2 : decide (ls.length < ls.length) = false := decide_eq_false (by omega)
      have hrn : True := trivial
      obtain ⟨c0, c1, c2⟩ := tcs_cells ht
      have PG : Hid (∀ has x, parse ls = ⟨0, 0, s.lv, has, x⟩ → ∀ W, QZ w W → Lps W A s.lv → ∀ t f, QTold (parse ls) w (.returned (.tuple #[.agg (tcs A s.lv.length c has x), .agg (fcs 0 0)])) ((W.setRow w.heap.size t).setRow (w.heap.size + 1) f)) := fun has x e W hz hl t f => by
        rw [e]
        exact qgood hz hl t f
      have PB : Hid (∀ n e, parse ls = bad n e → ∀ W, QZ w W → ∀ t f, QTold (parse ls) w (.returned (.tuple #[.agg (tcs none 0 0 false 0), .agg (fcs n e)])) ((W.setRow w.heap.size t).setRow (w.heap.size + 1) f)) := fun n e h W hz t f => by
        rw [h]
        exact qbad hz n e t f
      by_cases g5 : s.p 5 = 0
      · have hpr : parse ls = bad (ls.length + 1) 2 := by rw [hfin]; unfold fin; rw [if_pos g5]
        have PX := Lib.hid (PB.out _ _ hpr)
        have HZr := Lib.hid (QR.out _ hbr)
        have e : offs s = -1 := by unfold offs; rw [if_pos g5]
        generalize offs s = F at *
        subst e
        clear PG PB hpr hfin HH g5 hinv hpi hrun ht hlp hrn
        as_aux_lemma =>
          skip
          go_wp2_with (first
            | ((with_reducible refine wpList_store_row ?_ 24 (.tmp 2) (.tmp 95) ?_ w.heap.size (tcs none 0 0 false 0) ?_ ?_ 24 (tcs none 0 0 false 0) ?_ ?_ ?_ ?_ ?_); (next => rfl); (next => rfl); (next => rfl); (next => rfl); (next => exact HZr.out.z0); (next => exact szT); (next => rfl); (next => exact tcs_one _ _ _ _ _))
            | ((with_reducible refine wpList_store_row ?_ 29 (.tmp 3) (.tmp 99) ?_ (w.heap.size + 1) (fcs (ls.length + 1) 2) ?_ ?_ 29 (fcs 0 0) ?_ ?_ ?_ ?_ ?_); (next => rfl); (next => rfl); (next => rfl); (next => rfl); (next => exact HZr.out.fl _); (next => exact szF); (next => rfl); (next => exact fcs_one _ _)))
          refine end_two rfl _ _ w.heap.size (w.heap.size + 1) 24 29 (tcs none 0 0 false 0) (fcs (ls.length + 1) 2) _ _ rfl rfl ?_ (setRow_heap _ _ _ _ _ _ (HZr.out.fl _)) Tryz.underlying24 Tryz.underlying29 szT szF rfl (PX.out _ HZr.out _ _)
          rw [setRow_other _ _ _ _ (by omega)]
          exact setRow_heap _ _ _ _ _ _ HZr.out.z0
      · have e : offs s = s.ct := by unfold offs; rw [if_neg g5]
        generalize offs s = F at *
        subst e
        have t0 : decide (s.ct < 0) = false := by simp; omega
        have E2 : fdI 2 ls = if s.p 2 = 0 then -1 else (s.p 2 : Int) - 1 := by rw [find_all, hpi.p 2 (by omega)]
        have E3 : fdI 3 ls = if s.p 3 = 0 then -1 else (s.p 3 : Int) - 1 := by rw [find_all, hpi.p 3 (by omega)]
        have hpos : ls ≠ [] := fun e => by
          have := hpi.p 5 (by omega)
          rw [e] at this
          exact g5 this
        obtain ⟨b, o, ps, rfl, hbl, hcell⟩ := HS.out hpos
        have HR := Lib.hid (fun W (hb : Below W1.heap.size W1 W) => HS.out.below hb)
        by_cases g2 : s.p 2 = 0
        · rw [if_pos g2] at E2
          rw [E2] at FN2
          by_cases g3 : s.p 3 = 0
          · rw [if_pos g3] at E3
            rw [E3] at FN3
            have hpr : parse ls = ⟨0, 0, s.lv, false, 0⟩ := by
              rw [hfin]; unfold fin
              rw [if_neg g5, if_neg (show ¬ (s.p 2 ≠ 0 ∧ ce s.lv true s.ex ≠ 0) from fun q => q.1 g2), if_neg (fun q => q.1 g3)]
              simp [g2]
            have PG1 := Lib.hid (PG.out _ _ hpr)
            clear PG PB hpr hfin hcell HH E2 E3 g2 g3 g5 hinv hpi hrun ht hlp hrn
            as_aux_lemma =>
              skip
              go_wp2_with (first
                | (go_at_call 19; first | ((with_reducible refine (FN2.out _ _ _ (HR.out _ hbr)).mono ?_); rintro e wf ⟨rfl, hbf⟩; have HBf := Lib.hid (btr hbr hbf); have HTf := Lib.hid (kept HT.out hbf); have HLf := Lib.hid (HLP.out.below hbf)) | ((with_reducible refine (FN3.out _ _ _ (HR.out _ HBf.out)).mono ?_); rintro e wg ⟨rfl, hbg⟩; have HBg := Lib.hid (btr HBf.out hbg); have HTg := Lib.hid (kept HTf.out hbg); have HLg := Lib.hid (HLf.out.below hbg); have HZg := Lib.hid (QR.out _ HBg.out); clear c0 c1 c2; obtain ⟨c0, c1, c2⟩ := tcs_cells HTg.out))
                | ((with_reducible refine wpList_store_row ?_ 24 (.tmp 2) (.tmp 146) ?_ w.heap.size (tcs A s.lv.length c false 0) ?_ ?_ 24 (tcs none 0 0 false 0) ?_ ?_ ?_ ?_ ?_); (next => rfl); (next => rfl); (next => rfl); (next => rfl); (next => exact HZg.out.z0); (next => exact szT); (next => rfl); (next => exact tcs_one _ _ _ _ _))
                | ((with_reducible refine wpList_store_row ?_ 29 (.tmp 3) (.tmp 147) ?_ (w.heap.size + 1) (fcs 0 0) ?_ ?_ 29 (fcs 0 0) ?_ ?_ ?_ ?_ ?_); (next => rfl); (next => rfl); (next => rfl); (next => rfl); (next => exact HZg.out.fl _); (next => exact szF); (next => rfl); (next => exact fcs_one _ _)))
              refine end_two rfl _ _ w.heap.size (w.heap.size + 1) 24 29 (tcs A s.lv.length c false 0) (fcs 0 0) _ _ rfl rfl ?_ (setRow_heap _ _ _ _ _ _ (HZg.out.fl _)) Tryz.underlying24 Tryz.underlying29 szT szF rfl (PG1.out _ HZg.out HLg.out _ _)
              rw [setRow_other _ _ _ _ (by omega)]
              exact setRow_heap _ _ _ _ _ _ HZg.out.z0
          · obtain ⟨q3, hq3⟩ : ∃ q, s.p 3 = q + 1 := ⟨s.p 3 - 1, by omega⟩
            have hl3 : q3 < ls.length := by
              have e := hpi.p 3 (by omega)
              have := fdp_line (kind := 3) (l := ls) (by rw [← e]; exact g3)
              rw [← e] at this
              omega
            rw [if_neg g3, hq3, show ((q3 + 1 : Nat) : Int) - 1 = (q3 : Int) by omega] at E3
            rw [E3] at FN3
            obtain ⟨hh1, hh2⟩ := hpi.h g3
            rw [hq3, Nat.add_sub_cancel] at hh1 hh2
            have ge3 : decide (0 ≤ (q3 : Int)) = true := by simp
            obtain ⟨⟨_, _, z2, _, _⟩, zS⟩ := hcell q3 hl3
            rw [wo_hash hh2] at z2 zS
            obtain ⟨b4, o4, e4, hb4, hc4⟩ := strs_cell zS (by simp)
            rw [e4] at z2
            have z4 : W1.cell? ⟨b4, o4, none⟩ = some (.string (B ((ls.getD q3 []).drop 2))) := hc4 0 (by simp)
            have ZW : Hid (∀ W, Below W1.heap.size W1 W → W.cell? ⟨b, o + q3 * 5 + 2, none⟩ = some (.slice (some ⟨b4, o4, none⟩) 1 (ps q3).2) ∧ W.cell? ⟨b4, o4, none⟩ = some (.string (B ((ls.getD q3 []).drop 2)))) := fun W hb => ⟨(hb.cell (p := ⟨b, o + q3 * 5 + 2, none⟩) hbl).trans z2, (hb.cell (p := ⟨b4, o4, none⟩) hb4).trans z4⟩
            have hyl : (ls.getD q3 []).length ≤ 300000 := by
              have := list.mem_tot (show ls.getD q3 [] ∈ ls by rw [List.getD_eq_getElem?_getD, List.getElem?_eq_getElem hl3]; exact List.getElem_mem hl3)
              omega
            have HX : Hid (∀ W, Calls Tryz.prog 23 #[.string (B ((ls.getD q3 []).drop 2))] W fun e w' => e = .returned (.tuple #[.agg #[.int .u32 (s.h 0 : Nat), .int .u32 (s.h 1 : Nat), .int .u32 (s.h 2 : Nat), .int .u32 (s.h 3 : Nat), .int .u32 (s.h 4 : Nat)], .bool (nx.hT (B ((ls.getD q3 []).drop 2)))]) ∧ Below W.heap.size W w') := fun W => by
              rw [hh1]
              exact ref07.hash_at _ W (by rw [B_size, List.length_drop]; omega)
            generalize B ((ls.getD q3 []).drop 2) = YS at *
            have WD : Hid (∀ W, Below W1.heap.size W1 W → Calls Tryz.prog 24 #[.agg (sx.cs .u8 (sx.dig (sx.sumV (sha.nats (hsh ls)))) 20)] W fun e w' => e = .returned (.agg #[.int .u32 (hq ls 0 : Nat), .int .u32 (hq ls 1 : Nat), .int .u32 (hq ls 2 : Nat), .int .u32 (hq ls 3 : Nat), .int .u32 (hq ls 4 : Nat)]) ∧ Below W.heap.size W w') := fun W _ => sha.refwords_any _ W (fun j _ => sx.dig_lt _ j)
            have HHx : Hid (∀ W, Below W1.heap.size W1 W → Calls Tryz.prog 12 #[.string s0] W fun e w' => e = .returned (.agg (sx.cs .u8 (sx.dig (sx.sumV (sha.nats (hsh ls)))) 20)) ∧ Below W.heap.size W w') := fun W _ => HH.out W
            generalize sx.cs .u8 (sx.dig (sx.sumV (sha.nats (hsh ls)))) 20 = DG at *
            have EQ0 : ∀ W, (Op.equalIn 10000 43 (.agg #[.int .u32 (s.h 0 : Nat), .int .u32 (s.h 1 : Nat), .int .u32 (s.h 2 : Nat), .int .u32 (s.h 3 : Nat), .int .u32 (s.h 4 : Nat)]) (.agg #[.int .u32 (hq ls 0 : Nat), .int .u32 (hq ls 1 : Nat), .int .u32 (hq ls 2 : Nat), .int .u32 (hq ls 3 : Nat), .int .u32 (hq ls 4 : Nat)])).run Tryz.prog W = .ok (h5 s.h (hq ls)) W := fun W => list.eq_h5 s.h (hq ls) W
            cases h6 : h5 s.h (hq ls) with
            | true =>
              have hpr : parse ls = ⟨0, 0, s.lv, false, 0⟩ := by
                  rw [hfin]; unfold fin
                  rw [if_neg g5, if_neg (show ¬ (s.p 2 ≠ 0 ∧ ce s.lv true s.ex ≠ 0) from fun q => q.1 g2), if_neg (fun q => by rw [h6] at q; exact absurd q.2 (by decide))]
                  simp [g2]
              have PX := Lib.hid (PG.out _ _ hpr)
              rw [h6] at EQ0
              have EQ := EQ0
              clear PG PB hpr hfin hcell HH E2 E3 g2 g3 g5 hinv hpi hrun ht hlp hrn EQ0 h6 hh1 hh2 hq3 zS z2 hc4 z4 e4 hyl
              generalize hq ls = qd at *
              as_aux_lemma =>
                skip
                go_wp2_with (first
                  | (go_at_call 19; first | ((with_reducible refine (FN2.out _ _ _ (HR.out _ hbr)).mono ?_); rintro e wf ⟨rfl, hbf⟩; have HBf := Lib.hid (btr hbr hbf); have HTf := Lib.hid (kept HT.out hbf); have HLf := Lib.hid (HLP.out.below hbf)) | ((with_reducible refine (FN3.out _ _ _ (HR.out _ HBf.out)).mono ?_); rintro e wg ⟨rfl, hbg⟩; have HBg := Lib.hid (btr HBf.out hbg); have HTg := Lib.hid (kept HTf.out hbg); have HLg := Lib.hid (HLf.out.below hbg); have HZg := Lib.hid (QR.out _ HBg.out); obtain ⟨z5, z6⟩ := ZW.out _ HBg.out))
                  | (go_at_call 23; (with_reducible refine (HX.out _).mono ?_); rintro e wh ⟨rfl, hbh⟩; have HBh := Lib.hid (btr HBg.out hbh); have HTh := Lib.hid (kept HTg.out hbh); have HLh := Lib.hid (HLg.out.below hbh)))
                have HZh := QR.out _ (bal HBh.out (.cells #[.int .u32 (s.h 0 : Nat), .int .u32 (s.h 1 : Nat), .int .u32 (s.h 2 : Nat), .int .u32 (s.h 3 : Nat), .int .u32 (s.h 4 : Nat)] 43))
                have KH := hp_new wh (.cells #[.int .u32 (s.h 0 : Nat), .int .u32 (s.h 1 : Nat), .int .u32 (s.h 2 : Nat), .int .u32 (s.h 3 : Nat), .int .u32 (s.h 4 : Nat)] 43)
                have HTi := Lib.hid (hp_old HTh.out (.cells #[.int .u32 (s.h 0 : Nat), .int .u32 (s.h 1 : Nat), .int .u32 (s.h 2 : Nat), .int .u32 (s.h 3 : Nat), .int .u32 (s.h 4 : Nat)] 43))
                have HLi := Lib.hid (HLh.out.below (bal (Below.refl _ _) (.cells #[.int .u32 (s.h 0 : Nat), .int .u32 (s.h 1 : Nat), .int .u32 (s.h 2 : Nat), .int .u32 (s.h 3 : Nat), .int .u32 (s.h 4 : Nat)] 43)))
                have HBi := Lib.hid (bal HBh.out (.cells #[.int .u32 (s.h 0 : Nat), .int .u32 (s.h 1 : Nat), .int .u32 (s.h 2 : Nat), .int .u32 (s.h 3 : Nat), .int .u32 (s.h 4 : Nat)] 43))
                generalize wh.alloc (.cells #[.int .u32 (s.h 0 : Nat), .int .u32 (s.h 1 : Nat), .int .u32 (s.h 2 : Nat), .int .u32 (s.h 3 : Nat), .int .u32 (s.h 4 : Nat)] 43) = wi at *
                have k0 := fun d' os => cell_regrown (row_cell KH 0) d' os
                have k1 := fun d' os => cell_regrown (row_cell KH 1) d' os
                have k2 := fun d' os => cell_regrown (row_cell KH 2) d' os
                have k3 := fun d' os => cell_regrown (row_cell KH 3) d' os
                have k4 := fun d' os => cell_regrown (row_cell KH 4) d' os
                have XH := Lib.hid (fun d' os => below_at (T := fun W => Below W1.heap.size W1 W) HHx.out (fun W hb => btr HBi.out hb) d' os)
                have XW := Lib.hid (fun d' os => below_at (T := fun W => Below W1.heap.size W1 W) WD.out (fun W hb => btr HBi.out hb) d' os)
                refine wp_region_quiet_below (by kernel_rfl) (by kernel_rfl) ?_
                repeat (quiet_step ((first | (go_at_call 12; with_reducible exact XH.out _ _) | (go_at_call 24; with_reducible exact XW.out _ _))))
                refine wpQuiet_nil ?_
                intro _ hw'
                obtain ⟨⟨dq, osq⟩, hw''⟩ := hw'
                subst hw''
                have hbz := below_regrown wi dq osq
                have HZ7 := Lib.hid (QR.out _ (btr HBi.out hbz))
                have HT7 := Lib.hid (kept HTi.out hbz)
                have HL7 := Lib.hid (HLi.out.below hbz)
                generalize Sort.grow (redrawn wi dq) osq = W7 at *
                clear k0 k1 k2 k3 k4 XH XW EQ
                (try clear c0 c1 c2)
                obtain ⟨c0, c1, c2⟩ := tcs_cells HT7.out
                go_wp2_with (first
                  | ((with_reducible refine wpList_store_row ?_ 24 (.tmp 2) (.tmp 146) ?_ w.heap.size (tcs A s.lv.length c false 0) ?_ ?_ 24 (tcs none 0 0 false 0) ?_ ?_ ?_ ?_ ?_); (next => rfl); (next => rfl); (next => rfl); (next => rfl); (next => exact HZ7.out.z0); (next => exact szT); (next => rfl); (next => exact tcs_one _ _ _ _ _))
                  | ((with_reducible refine wpList_store_row ?_ 29 (.tmp 3) (.tmp 147) ?_ (w.heap.size + 1) (fcs 0 0) ?_ ?_ 29 (fcs 0 0) ?_ ?_ ?_ ?_ ?_); (next => rfl); (next => rfl); (next => rfl); (next => rfl); (next => exact HZ7.out.fl _); (next => exact szF); (next => rfl); (next => exact fcs_one _ _)))
                refine end_two rfl _ _ w.heap.size (w.heap.size + 1) 24 29 (tcs A s.lv.length c false 0) (fcs 0 0) _ _ rfl rfl ?_ (setRow_heap _ _ _ _ _ _ (HZ7.out.fl _)) Tryz.underlying24 Tryz.underlying29 szT szF rfl (PX.out _ HZ7.out HL7.out _ _)
                rw [setRow_other _ _ _ _ (by omega)]
                exact setRow_heap _ _ _ _ _ _ HZ7.out.z0
            | false =>
              have hpr : parse ls = bad (q3 + 1) 3 := by
                  rw [hfin]; unfold fin
                  rw [if_neg g5, if_neg (show ¬ (s.p 2 ≠ 0 ∧ ce s.lv true s.ex ≠ 0) from fun q => q.1 g2), if_pos ⟨g3, h6⟩, hq3]
              have PX := Lib.hid (PB.out _ _ hpr)
              rw [h6] at EQ0
              have EQ := EQ0
              clear PG PB hpr hfin hcell HH E2 E3 g2 g3 g5 hinv hpi hrun ht hlp hrn EQ0 h6 hh1 hh2 hq3 zS z2 hc4 z4 e4 hyl
              generalize hq ls = qd at *
              as_aux_lemma =>
                skip
                go_wp2_with (first
                  | (go_at_call 19; first | ((with_reducible refine (FN2.out _ _ _ (HR.out _ hbr)).mono ?_); rintro e wf ⟨rfl, hbf⟩; have HBf := Lib.hid (btr hbr hbf); have HTf := Lib.hid (kept HT.out hbf); have HLf := Lib.hid (HLP.out.below hbf)) | ((with_reducible refine (FN3.out _ _ _ (HR.out _ HBf.out)).mono ?_); rintro e wg ⟨rfl, hbg⟩; have HBg := Lib.hid (btr HBf.out hbg); have HTg := Lib.hid (kept HTf.out hbg); have HLg := Lib.hid (HLf.out.below hbg); have HZg := Lib.hid (QR.out _ HBg.out); obtain ⟨z5, z6⟩ := ZW.out _ HBg.out))
                  | (go_at_call 23; (with_reducible refine (HX.out _).mono ?_); rintro e wh ⟨rfl, hbh⟩; have HBh := Lib.hid (btr HBg.out hbh); have HTh := Lib.hid (kept HTg.out hbh); have HLh := Lib.hid (HLg.out.below hbh)))
                have HZh := QR.out _ (bal HBh.out (.cells #[.int .u32 (s.h 0 : Nat), .int .u32 (s.h 1 : Nat), .int .u32 (s.h 2 : Nat), .int .u32 (s.h 3 : Nat), .int .u32 (s.h 4 : Nat)] 43))
                have KH := hp_new wh (.cells #[.int .u32 (s.h 0 : Nat), .int .u32 (s.h 1 : Nat), .int .u32 (s.h 2 : Nat), .int .u32 (s.h 3 : Nat), .int .u32 (s.h 4 : Nat)] 43)
                have HTi := Lib.hid (hp_old HTh.out (.cells #[.int .u32 (s.h 0 : Nat), .int .u32 (s.h 1 : Nat), .int .u32 (s.h 2 : Nat), .int .u32 (s.h 3 : Nat), .int .u32 (s.h 4 : Nat)] 43))
                have HLi := Lib.hid (HLh.out.below (bal (Below.refl _ _) (.cells #[.int .u32 (s.h 0 : Nat), .int .u32 (s.h 1 : Nat), .int .u32 (s.h 2 : Nat), .int .u32 (s.h 3 : Nat), .int .u32 (s.h 4 : Nat)] 43)))
                have HBi := Lib.hid (bal HBh.out (.cells #[.int .u32 (s.h 0 : Nat), .int .u32 (s.h 1 : Nat), .int .u32 (s.h 2 : Nat), .int .u32 (s.h 3 : Nat), .int .u32 (s.h 4 : Nat)] 43))
                generalize wh.alloc (.cells #[.int .u32 (s.h 0 : Nat), .int .u32 (s.h 1 : Nat), .int .u32 (s.h 2 : Nat), .int .u32 (s.h 3 : Nat), .int .u32 (s.h 4 : Nat)] 43) = wi at *
                have k0 := fun d' os => cell_regrown (row_cell KH 0) d' os
                have k1 := fun d' os => cell_regrown (row_cell KH 1) d' os
                have k2 := fun d' os => cell_regrown (row_cell KH 2) d' os
                have k3 := fun d' os => cell_regrown (row_cell KH 3) d' os
                have k4 := fun d' os => cell_regrown (row_cell KH 4) d' os
                have XH := Lib.hid (fun d' os => below_at (T := fun W => Below W1.heap.size W1 W) HHx.out (fun W hb => btr HBi.out hb) d' os)
                have XW := Lib.hid (fun d' os => below_at (T := fun W => Below W1.heap.size W1 W) WD.out (fun W hb => btr HBi.out hb) d' os)
                refine wp_region_quiet_below (by kernel_rfl) (by kernel_rfl) ?_
                repeat (quiet_step ((first | (go_at_call 12; with_reducible exact XH.out _ _) | (go_at_call 24; with_reducible exact XW.out _ _))))
                refine wpQuiet_nil ?_
                intro _ hw'
                obtain ⟨⟨dq, osq⟩, hw''⟩ := hw'
                subst hw''
                have hbz := below_regrown wi dq osq
                have HZ7 := Lib.hid (QR.out _ (btr HBi.out hbz))
                have HT7 := Lib.hid (kept HTi.out hbz)
                have HL7 := Lib.hid (HLi.out.below hbz)
                generalize Sort.grow (redrawn wi dq) osq = W7 at *
                clear k0 k1 k2 k3 k4 XH XW EQ
                (try clear c0 c1 c2)
                obtain ⟨c0, c1, c2⟩ := tcs_cells HT7.out
                go_wp2_with (first
                  | ((with_reducible refine wpList_store_row ?_ 24 (.tmp 2) (.tmp 142) ?_ w.heap.size (tcs none 0 0 false 0) ?_ ?_ 24 (tcs none 0 0 false 0) ?_ ?_ ?_ ?_ ?_); (next => rfl); (next => rfl); (next => rfl); (next => rfl); (next => exact HZ7.out.z0); (next => exact szT); (next => rfl); (next => exact tcs_one _ _ _ _ _))
                  | ((with_reducible refine wpList_store_row ?_ 29 (.tmp 3) (.tmp 145) ?_ (w.heap.size + 1) (fcs (q3 + 1) 3) ?_ ?_ 29 (fcs 0 0) ?_ ?_ ?_ ?_ ?_); (next => rfl); (next => rfl); (next => rfl); (next => rfl); (next => exact HZ7.out.fl _); (next => exact szF); (next => rfl); (next => exact fcs_one _ _)))
                refine end_two rfl _ _ w.heap.size (w.heap.size + 1) 24 29 (tcs none 0 0 false 0) (fcs (q3 + 1) 3) _ _ rfl rfl ?_ (setRow_heap _ _ _ _ _ _ (HZ7.out.fl _)) Tryz.underlying24 Tryz.underlying29 szT szF rfl (PX.out _ HZ7.out _ _)
                rw [setRow_other _ _ _ _ (by omega)]
                exact setRow_heap _ _ _ _ _ _ HZ7.out.z0
        · obtain ⟨q2, hq2⟩ : ∃ q, s.p 2 = q + 1 := ⟨s.p 2 - 1, by omega⟩
          have hl2 : q2 < ls.length := by
            have e := hpi.p 2 (by omega)
            have := fdp_line (kind := 2) (l := ls) (by rw [← e]; exact g2)
            rw [← e] at this
            omega
          rw [if_neg g2, hq2, show ((q2 + 1 : Nat) : Int) - 1 = (q2 : Int) by omega] at E2
          rw [E2] at FN2
          obtain ⟨hx1, hx2, hx3⟩ := hpi.ex g2
          rw [hq2, Nat.add_sub_cancel] at hx1 hx2 hx3
          have ge2 : decide (0 ≤ (q2 : Int)) = true := by simp
          obtain ⟨⟨_, _, _, v3, _⟩, _⟩ := hcell q2 hl2
          rw [o1_ok (by omega) hx3] at v3
          have X3 : Hid (∀ W, Below W1.heap.size W1 W → W.cell? ⟨b, o + q2 * 5 + 3, none⟩ = some (.int .i64 (g1 (ls.getD q2 [])))) := fun W hb => (hb.cell (p := ⟨b, o + q2 * 5 + 3, none⟩) hbl).trans v3
          have gb := list.g1_bd (ls.getD q2 [])
          have PO : Hid (∀ W, Calls Tryz.prog 20 #[.int .i64 (g1 (ls.getD q2 []))] W fun e w' => e = .returned (.tuple #[.int .i64 s.ex, .bool true]) ∧ W = w') := fun W => by
            rw [hx1]
            exact ref07.posix_yes _ W (And.intro (by omega) (by omega)) gb.1
          have RI := Lib.hid (fun W hl => ref09.right_at s.lv A c true s.ex W hl (by omega))
          generalize g1 (ls.getD q2 []) = GV at *
          clear hx1 hx2 hx3 v3 gb
          by_cases hce : ce s.lv true s.ex = 0
          · rw [show (ce s.lv true s.ex == 0) = true by rw [hce]; rfl] at RI
            by_cases g3 : s.p 3 = 0
            · rw [if_pos g3] at E3
              rw [E3] at FN3
              have hpr : parse ls = ⟨0, 0, s.lv, true, s.ex⟩ := by
                rw [hfin]; unfold fin
                rw [if_neg g5, if_neg (show ¬ (s.p 2 ≠ 0 ∧ ce s.lv true s.ex ≠ 0) from fun q => q.2 hce), if_neg (fun q => q.1 g3)]
                simp [g2]
              have PG1 := Lib.hid (PG.out _ _ hpr)
              clear PG PB hpr hfin hcell HH E2 E3 g2 g3 g5 hinv hpi hrun ht hlp hrn
              as_aux_lemma =>
                skip
                go_wp2_with (first
                  | (go_at_call 19; first | ((with_reducible refine (FN2.out _ _ _ (HR.out _ hbr)).mono ?_); rintro e wf ⟨rfl, hbf⟩; have HBf := Lib.hid (btr hbr hbf); have HTf := Lib.hid (kept HT.out hbf); have HLf := Lib.hid (HLP.out.below hbf); have fz1 := row_open' (p := 1) HTf.out; have z3 := X3.out _ (HBf.out.setCell (p := ⟨W1.heap.size, 1, none⟩) (Nat.le_refl _) (.bool true)); have fz2 := row_open' (p := 2) (heap_cell (j := 1) (v := .bool true) HTf.out); have k2 := row_cell (heap_cell (j := 1) (v := .bool true) HTf.out) 2; have H8 := Lib.hid (has_set (x := s.ex) HTf.out); clear c0 c1 c2; obtain ⟨c0, c1, c2⟩ := tcs_cells HTf.out; obtain ⟨e0, e1, e2⟩ := tcs_cells H8.out; have L8 := Lib.hid (lps_cells (j := 2) (v := .int .i64 s.ex) (lps_cells (j := 1) (v := .bool true) HLf.out HTf.out) (has := true) (x := 0) (n := s.lv.length) (c := c) (B := A) (heap_cell HTf.out)); have B8 := Lib.hid ((HBf.out.setCell (p := ⟨W1.heap.size, 1, none⟩) (Nat.le_refl _) (.bool true)).setCell (p := ⟨W1.heap.size, 2, none⟩) (Nat.le_refl _) (.int .i64 s.ex))) | ((with_reducible refine (FN3.out _ _ _ (HR.out _ HBc.out)).mono ?_); rintro e wg ⟨rfl, hbg⟩; have HBg := Lib.hid (btr HBc.out hbg); have HTg := Lib.hid (kept HTc.out hbg); have HLg := Lib.hid (HLc.out.below hbg); have HZg := Lib.hid (QR.out _ HBg.out); clear c0 c1 c2; obtain ⟨c0, c1, c2⟩ := tcs_cells HTg.out))
                  | (go_at_call 20; (with_reducible refine (PO.out _).mono ?_); rintro e wp ⟨rfl, rfl⟩)
                  | (go_at_call 22; (with_reducible refine (RI.out _ L8.out).mono ?_); rintro e wc ⟨rfl, hbc⟩; have HBc := Lib.hid (btr B8.out hbc); have HTc := Lib.hid (kept H8.out hbc); have HLc := Lib.hid (L8.out.below hbc); have HZc := Lib.hid (QR.out _ HBc.out); clear e0 e1 e2)
                  | ((with_reducible refine wpList_store_row ?_ 24 (.tmp 2) (.tmp 146) ?_ w.heap.size (tcs A s.lv.length c true s.ex) ?_ ?_ 24 (tcs none 0 0 false 0) ?_ ?_ ?_ ?_ ?_); (next => rfl); (next => rfl); (next => rfl); (next => rfl); (next => exact HZg.out.z0); (next => exact szT); (next => rfl); (next => exact tcs_one _ _ _ _ _))
                  | ((with_reducible refine wpList_store_row ?_ 29 (.tmp 3) (.tmp 147) ?_ (w.heap.size + 1) (fcs 0 0) ?_ ?_ 29 (fcs 0 0) ?_ ?_ ?_ ?_ ?_); (next => rfl); (next => rfl); (next => rfl); (next => rfl); (next => exact HZg.out.fl _); (next => exact szF); (next => rfl); (next => exact fcs_one _ _)))
                refine end_two rfl _ _ w.heap.size (w.heap.size + 1) 24 29 (tcs A s.lv.length c true s.ex) (fcs 0 0) _ _ rfl rfl ?_ (setRow_heap _ _ _ _ _ _ (HZg.out.fl _)) Tryz.underlying24 Tryz.underlying29 szT szF rfl (PG1.out _ HZg.out HLg.out _ _)
                rw [setRow_other _ _ _ _ (by omega)]
                exact setRow_heap _ _ _ _ _ _ HZg.out.z0
            · obtain ⟨q3, hq3⟩ : ∃ q, s.p 3 = q + 1 := ⟨s.p 3 - 1, by omega⟩
              have hl3 : q3 < ls.length := by
                have e := hpi.p 3 (by omega)
                have := fdp_line (kind := 3) (l := ls) (by rw [← e]; exact g3)
                rw [← e] at this
                omega
              rw [if_neg g3, hq3, show ((q3 + 1 : Nat) : Int) - 1 = (q3 : Int) by omega] at E3
              rw [E3] at FN3
              obtain ⟨hh1, hh2⟩ := hpi.h g3
              rw [hq3, Nat.add_sub_cancel] at hh1 hh2
              have ge3 : decide (0 ≤ (q3 : Int)) = true := by simp
              obtain ⟨⟨_, _, z2, _, _⟩, zS⟩ := hcell q3 hl3
              rw [wo_hash hh2] at z2 zS
              obtain ⟨b4, o4, e4, hb4, hc4⟩ := strs_cell zS (by simp)
              rw [e4] at z2
              have z4 : W1.cell? ⟨b4, o4, none⟩ = some (.string (B ((ls.getD q3 []).drop 2))) := hc4 0 (by simp)
              have ZW : Hid (∀ W, Below W1.heap.size W1 W → W.cell? ⟨b, o + q3 * 5 + 2, none⟩ = some (.slice (some ⟨b4, o4, none⟩) 1 (ps q3).2) ∧ W.cell? ⟨b4, o4, none⟩ = some (.string (B ((ls.getD q3 []).drop 2)))) := fun W hb => ⟨(hb.cell (p := ⟨b, o + q3 * 5 + 2, none⟩) hbl).trans z2, (hb.cell (p := ⟨b4, o4, none⟩) hb4).trans z4⟩
              have hyl : (ls.getD q3 []).length ≤ 300000 := by
                have := list.mem_tot (show ls.getD q3 [] ∈ ls by rw [List.getD_eq_getElem?_getD, List.getElem?_eq_getElem hl3]; exact List.getElem_mem hl3)
                omega
              have HX : Hid (∀ W, Calls Tryz.prog 23 #[.string (B ((ls.getD q3 []).drop 2))] W fun e w' => e = .returned (.tuple #[.agg #[.int .u32 (s.h 0 : Nat), .int .u32 (s.h 1 : Nat), .int .u32 (s.h 2 : Nat), .int .u32 (s.h 3 : Nat), .int .u32 (s.h 4 : Nat)], .bool (nx.hT (B ((ls.getD q3 []).drop 2)))]) ∧ Below W.heap.size W w') := fun W => by
                rw [hh1]
                exact ref07.hash_at _ W (by rw [B_size, List.length_drop]; omega)
              generalize B ((ls.getD q3 []).drop 2) = YS at *
              have WD : Hid (∀ W, Below W1.heap.size W1 W → Calls Tryz.prog 24 #[.agg (sx.cs .u8 (sx.dig (sx.sumV (sha.nats (hsh ls)))) 20)] W fun e w' => e = .returned (.agg #[.int .u32 (hq ls 0 : Nat), .int .u32 (hq ls 1 : Nat), .int .u32 (hq ls 2 : Nat), .int .u32 (hq ls 3 : Nat), .int .u32 (hq ls 4 : Nat)]) ∧ Below W.heap.size W w') := fun W _ => sha.refwords_any _ W (fun j _ => sx.dig_lt _ j)
              have HHx : Hid (∀ W, Below W1.heap.size W1 W → Calls Tryz.prog 12 #[.string s0] W fun e w' => e = .returned (.agg (sx.cs .u8 (sx.dig (sx.sumV (sha.nats (hsh ls)))) 20)) ∧ Below W.heap.size W w') := fun W _ => HH.out W
              generalize sx.cs .u8 (sx.dig (sx.sumV (sha.nats (hsh ls)))) 20 = DG at *
              have EQ0 : ∀ W, (Op.equalIn 10000 43 (.agg #[.int .u32 (s.h 0 : Nat), .int .u32 (s.h 1 : Nat), .int .u32 (s.h 2 : Nat), .int .u32 (s.h 3 : Nat), .int .u32 (s.h 4 : Nat)]) (.agg #[.int .u32 (hq ls 0 : Nat), .int .u32 (hq ls 1 : Nat), .int .u32 (hq ls 2 : Nat), .int .u32 (hq ls 3 : Nat), .int .u32 (hq ls 4 : Nat)])).run Tryz.prog W = .ok (h5 s.h (hq ls)) W := fun W => list.eq_h5 s.h (hq ls) W
              cases h6 : h5 s.h (hq ls) with
              | true =>
                have hpr : parse ls = ⟨0, 0, s.lv, true, s.ex⟩ := by
                    rw [hfin]; unfold fin
                    rw [if_neg g5, if_neg (show ¬ (s.p 2 ≠ 0 ∧ ce s.lv true s.ex ≠ 0) from fun q => q.2 hce), if_neg (fun q => by rw [h6] at q; exact absurd q.2 (by decide))]
                    simp [g2]
                have PX := Lib.hid (PG.out _ _ hpr)
                rw [h6] at EQ0
                have EQ := EQ0
                clear PG PB hpr hfin hcell HH E2 E3 g2 g3 g5 hinv hpi hrun ht hlp hrn EQ0 h6 hh1 hh2 hq3 zS z2 hc4 z4 e4 hyl
                generalize hq ls = qd at *
                as_aux_lemma =>
                  skip
                  go_wp2_with (first
                    | (go_at_call 19; first | ((with_reducible refine (FN2.out _ _ _ (HR.out _ hbr)).mono ?_); rintro e wf ⟨rfl, hbf⟩; have HBf := Lib.hid (btr hbr hbf); have HTf := Lib.hid (kept HT.out hbf); have HLf := Lib.hid (HLP.out.below hbf); have fz1 := row_open' (p := 1) HTf.out; have z3 := X3.out _ (HBf.out.setCell (p := ⟨W1.heap.size, 1, none⟩) (Nat.le_refl _) (.bool true)); have fz2 := row_open' (p := 2) (heap_cell (j := 1) (v := .bool true) HTf.out); have k2 := row_cell (heap_cell (j := 1) (v := .bool true) HTf.out) 2; have H8 := Lib.hid (has_set (x := s.ex) HTf.out); clear c0 c1 c2; obtain ⟨c0, c1, c2⟩ := tcs_cells HTf.out; obtain ⟨e0, e1, e2⟩ := tcs_cells H8.out; have L8 := Lib.hid (lps_cells (j := 2) (v := .int .i64 s.ex) (lps_cells (j := 1) (v := .bool true) HLf.out HTf.out) (has := true) (x := 0) (n := s.lv.length) (c := c) (B := A) (heap_cell HTf.out)); have B8 := Lib.hid ((HBf.out.setCell (p := ⟨W1.heap.size, 1, none⟩) (Nat.le_refl _) (.bool true)).setCell (p := ⟨W1.heap.size, 2, none⟩) (Nat.le_refl _) (.int .i64 s.ex))) | ((with_reducible refine (FN3.out _ _ _ (HR.out _ HBc.out)).mono ?_); rintro e wg ⟨rfl, hbg⟩; have HBg := Lib.hid (btr HBc.out hbg); have HTg := Lib.hid (kept HTc.out hbg); have HLg := Lib.hid (HLc.out.below hbg); have HZg := Lib.hid (QR.out _ HBg.out); obtain ⟨z5, z6⟩ := ZW.out _ HBg.out))
                    | (go_at_call 20; (with_reducible refine (PO.out _).mono ?_); rintro e wp ⟨rfl, rfl⟩)
                    | (go_at_call 22; (with_reducible refine (RI.out _ L8.out).mono ?_); rintro e wc ⟨rfl, hbc⟩; have HBc := Lib.hid (btr B8.out hbc); have HTc := Lib.hid (kept H8.out hbc); have HLc := Lib.hid (L8.out.below hbc); have HZc := Lib.hid (QR.out _ HBc.out); clear e0 e1 e2)
                    | (go_at_call 23; (with_reducible refine (HX.out _).mono ?_); rintro e wh ⟨rfl, hbh⟩; have HBh := Lib.hid (btr HBg.out hbh); have HTh := Lib.hid (kept HTg.out hbh); have HLh := Lib.hid (HLg.out.below hbh)))
                  have HZh := QR.out _ (bal HBh.out (.cells #[.int .u32 (s.h 0 : Nat), .int .u32 (s.h 1 : Nat), .int .u32 (s.h 2 : Nat), .int .u32 (s.h 3 : Nat), .int .u32 (s.h 4 : Nat)] 43))
                  have KH := hp_new wh (.cells #[.int .u32 (s.h 0 : Nat), .int .u32 (s.h 1 : Nat), .int .u32 (s.h 2 : Nat), .int .u32 (s.h 3 : Nat), .int .u32 (s.h 4 : Nat)] 43)
                  have HTi := Lib.hid (hp_old HTh.out (.cells #[.int .u32 (s.h 0 : Nat), .int .u32 (s.h 1 : Nat), .int .u32 (s.h 2 : Nat), .int .u32 (s.h 3 : Nat), .int .u32 (s.h 4 : Nat)] 43))
                  have HLi := Lib.hid (HLh.out.below (bal (Below.refl _ _) (.cells #[.int .u32 (s.h 0 : Nat), .int .u32 (s.h 1 : Nat), .int .u32 (s.h 2 : Nat), .int .u32 (s.h 3 : Nat), .int .u32 (s.h 4 : Nat)] 43)))
                  have HBi := Lib.hid (bal HBh.out (.cells #[.int .u32 (s.h 0 : Nat), .int .u32 (s.h 1 : Nat), .int .u32 (s.h 2 : Nat), .int .u32 (s.h 3 : Nat), .int .u32 (s.h 4 : Nat)] 43))
                  generalize wh.alloc (.cells #[.int .u32 (s.h 0 : Nat), .int .u32 (s.h 1 : Nat), .int .u32 (s.h 2 : Nat), .int .u32 (s.h 3 : Nat), .int .u32 (s.h 4 : Nat)] 43) = wi at *
                  have k0 := fun d' os => cell_regrown (row_cell KH 0) d' os
                  have k1 := fun d' os => cell_regrown (row_cell KH 1) d' os
                  have k2 := fun d' os => cell_regrown (row_cell KH 2) d' os
                  have k3 := fun d' os => cell_regrown (row_cell KH 3) d' os
                  have k4 := fun d' os => cell_regrown (row_cell KH 4) d' os
                  have XH := Lib.hid (fun d' os => below_at (T := fun W => Below W1.heap.size W1 W) HHx.out (fun W hb => btr HBi.out hb) d' os)
                  have XW := Lib.hid (fun d' os => below_at (T := fun W => Below W1.heap.size W1 W) WD.out (fun W hb => btr HBi.out hb) d' os)
                  refine wp_region_quiet_below (by kernel_rfl) (by kernel_rfl) ?_
                  repeat (quiet_step ((first | (go_at_call 12; with_reducible exact XH.out _ _) | (go_at_call 24; with_reducible exact XW.out _ _))))
                  refine wpQuiet_nil ?_
                  intro _ hw'
                  obtain ⟨⟨dq, osq⟩, hw''⟩ := hw'
                  subst hw''
                  have hbz := below_regrown wi dq osq
                  have HZ7 := Lib.hid (QR.out _ (btr HBi.out hbz))
                  have HT7 := Lib.hid (kept HTi.out hbz)
                  have HL7 := Lib.hid (HLi.out.below hbz)
                  generalize Sort.grow (redrawn wi dq) osq = W7 at *
                  clear k0 k1 k2 k3 k4 XH XW EQ
                  (try clear c0 c1 c2)
                  obtain ⟨c0, c1, c2⟩ := tcs_cells HT7.out
                  go_wp2_with (first
                    | ((with_reducible refine wpList_store_row ?_ 24 (.tmp 2) (.tmp 146) ?_ w.heap.size (tcs A s.lv.length c true s.ex) ?_ ?_ 24 (tcs none 0 0 false 0) ?_ ?_ ?_ ?_ ?_); (next => rfl); (next => rfl); (next => rfl); (next => rfl); (next => exact HZ7.out.z0); (next => exact szT); (next => rfl); (next => exact tcs_one _ _ _ _ _))
                    | ((with_reducible refine wpList_store_row ?_ 29 (.tmp 3) (.tmp 147) ?_ (w.heap.size + 1) (fcs 0 0) ?_ ?_ 29 (fcs 0 0) ?_ ?_ ?_ ?_ ?_); (next => rfl); (next => rfl); (next => rfl); (next => rfl); (next => exact HZ7.out.fl _); (next => exact szF); (next => rfl); (next => exact fcs_one _ _)))
                  refine end_two rfl _ _ w.heap.size (w.heap.size + 1) 24 29 (tcs A s.lv.length c true s.ex) (fcs 0 0) _ _ rfl rfl ?_ (setRow_heap _ _ _ _ _ _ (HZ7.out.fl _)) Tryz.underlying24 Tryz.underlying29 szT szF rfl (PX.out _ HZ7.out HL7.out _ _)
                  rw [setRow_other _ _ _ _ (by omega)]
                  exact setRow_heap _ _ _ _ _ _ HZ7.out.z0
              | false =>
                have hpr : parse ls = bad (q3 + 1) 3 := by
                    rw [hfin]; unfold fin
                    rw [if_neg g5, if_neg (show ¬ (s.p 2 ≠ 0 ∧ ce s.lv true s.ex ≠ 0) from fun q => q.2 hce), if_pos ⟨g3, h6⟩, hq3]
                have PX := Lib.hid (PB.out _ _ hpr)
                rw [h6] at EQ0
                have EQ := EQ0
                clear PG PB hpr hfin hcell HH E2 E3 g2 g3 g5 hinv hpi hrun ht hlp hrn EQ0 h6 hh1 hh2 hq3 zS z2 hc4 z4 e4 hyl
                generalize hq ls = qd at *
                as_aux_lemma =>
                  skip
                  go_wp2_with (first
                    | (go_at_call 19; first | ((with_reducible refine (FN2.out _ _ _ (HR.out _ hbr)).mono ?_); rintro e wf ⟨rfl, hbf⟩; have HBf := Lib.hid (btr hbr hbf); have HTf := Lib.hid (kept HT.out hbf); have HLf := Lib.hid (HLP.out.below hbf); have fz1 := row_open' (p := 1) HTf.out; have z3 := X3.out _ (HBf.out.setCell (p := ⟨W1.heap.size, 1, none⟩) (Nat.le_refl _) (.bool true)); have fz2 := row_open' (p := 2) (heap_cell (j := 1) (v := .bool true) HTf.out); have k2 := row_cell (heap_cell (j := 1) (v := .bool true) HTf.out) 2; have H8 := Lib.hid (has_set (x := s.ex) HTf.out); clear c0 c1 c2; obtain ⟨c0, c1, c2⟩ := tcs_cells HTf.out; obtain ⟨e0, e1, e2⟩ := tcs_cells H8.out; have L8 := Lib.hid (lps_cells (j := 2) (v := .int .i64 s.ex) (lps_cells (j := 1) (v := .bool true) HLf.out HTf.out) (has := true) (x := 0) (n := s.lv.length) (c := c) (B := A) (heap_cell HTf.out)); have B8 := Lib.hid ((HBf.out.setCell (p := ⟨W1.heap.size, 1, none⟩) (Nat.le_refl _) (.bool true)).setCell (p := ⟨W1.heap.size, 2, none⟩) (Nat.le_refl _) (.int .i64 s.ex))) | ((with_reducible refine (FN3.out _ _ _ (HR.out _ HBc.out)).mono ?_); rintro e wg ⟨rfl, hbg⟩; have HBg := Lib.hid (btr HBc.out hbg); have HTg := Lib.hid (kept HTc.out hbg); have HLg := Lib.hid (HLc.out.below hbg); have HZg := Lib.hid (QR.out _ HBg.out); obtain ⟨z5, z6⟩ := ZW.out _ HBg.out))
                    | (go_at_call 20; (with_reducible refine (PO.out _).mono ?_); rintro e wp ⟨rfl, rfl⟩)
                    | (go_at_call 22; (with_reducible refine (RI.out _ L8.out).mono ?_); rintro e wc ⟨rfl, hbc⟩; have HBc := Lib.hid (btr B8.out hbc); have HTc := Lib.hid (kept H8.out hbc); have HLc := Lib.hid (L8.out.below hbc); have HZc := Lib.hid (QR.out _ HBc.out); clear e0 e1 e2)
                    | (go_at_call 23; (with_reducible refine (HX.out _).mono ?_); rintro e wh ⟨rfl, hbh⟩; have HBh := Lib.hid (btr HBg.out hbh); have HTh := Lib.hid (kept HTg.out hbh); have HLh := Lib.hid (HLg.out.below hbh)))
                  have HZh := QR.out _ (bal HBh.out (.cells #[.int .u32 (s.h 0 : Nat), .int .u32 (s.h 1 : Nat), .int .u32 (s.h 2 : Nat), .int .u32 (s.h 3 : Nat), .int .u32 (s.h 4 : Nat)] 43))
                  have KH := hp_new wh (.cells #[.int .u32 (s.h 0 : Nat), .int .u32 (s.h 1 : Nat), .int .u32 (s.h 2 : Nat), .int .u32 (s.h 3 : Nat), .int .u32 (s.h 4 : Nat)] 43)
                  have HTi := Lib.hid (hp_old HTh.out (.cells #[.int .u32 (s.h 0 : Nat), .int .u32 (s.h 1 : Nat), .int .u32 (s.h 2 : Nat), .int .u32 (s.h 3 : Nat), .int .u32 (s.h 4 : Nat)] 43))
                  have HLi := Lib.hid (HLh.out.below (bal (Below.refl _ _) (.cells #[.int .u32 (s.h 0 : Nat), .int .u32 (s.h 1 : Nat), .int .u32 (s.h 2 : Nat), .int .u32 (s.h 3 : Nat), .int .u32 (s.h 4 : Nat)] 43)))
                  have HBi := Lib.hid (bal HBh.out (.cells #[.int .u32 (s.h 0 : Nat), .int .u32 (s.h 1 : Nat), .int .u32 (s.h 2 : Nat), .int .u32 (s.h 3 : Nat), .int .u32 (s.h 4 : Nat)] 43))
                  generalize wh.alloc (.cells #[.int .u32 (s.h 0 : Nat), .int .u32 (s.h 1 : Nat), .int .u32 (s.h 2 : Nat), .int .u32 (s.h 3 : Nat), .int .u32 (s.h 4 : Nat)] 43) = wi at *
                  have k0 := fun d' os => cell_regrown (row_cell KH 0) d' os
                  have k1 := fun d' os => cell_regrown (row_cell KH 1) d' os
                  have k2 := fun d' os => cell_regrown (row_cell KH 2) d' os
                  have k3 := fun d' os => cell_regrown (row_cell KH 3) d' os
                  have k4 := fun d' os => cell_regrown (row_cell KH 4) d' os
                  have XH := Lib.hid (fun d' os => below_at (T := fun W => Below W1.heap.size W1 W) HHx.out (fun W hb => btr HBi.out hb) d' os)
                  have XW := Lib.hid (fun d' os => below_at (T := fun W => Below W1.heap.size W1 W) WD.out (fun W hb => btr HBi.out hb) d' os)
                  refine wp_region_quiet_below (by kernel_rfl) (by kernel_rfl) ?_
                  repeat (quiet_step ((first | (go_at_call 12; with_reducible exact XH.out _ _) | (go_at_call 24; with_reducible exact XW.out _ _))))
                  refine wpQuiet_nil ?_
                  intro _ hw'
                  obtain ⟨⟨dq, osq⟩, hw''⟩ := hw'
                  subst hw''
                  have hbz := below_regrown wi dq osq
                  have HZ7 := Lib.hid (QR.out _ (btr HBi.out hbz))
                  have HT7 := Lib.hid (kept HTi.out hbz)
                  have HL7 := Lib.hid (HLi.out.below hbz)
                  generalize Sort.grow (redrawn wi dq) osq = W7 at *
                  clear k0 k1 k2 k3 k4 XH XW EQ
                  (try clear c0 c1 c2)
                  obtain ⟨c0, c1, c2⟩ := tcs_cells HT7.out
                  go_wp2_with (first
                    | ((with_reducible refine wpList_store_row ?_ 24 (.tmp 2) (.tmp 142) ?_ w.heap.size (tcs none 0 0 false 0) ?_ ?_ 24 (tcs none 0 0 false 0) ?_ ?_ ?_ ?_ ?_); (next => rfl); (next => rfl); (next => rfl); (next => rfl); (next => exact HZ7.out.z0); (next => exact szT); (next => rfl); (next => exact tcs_one _ _ _ _ _))
                    | ((with_reducible refine wpList_store_row ?_ 29 (.tmp 3) (.tmp 145) ?_ (w.heap.size + 1) (fcs (q3 + 1) 3) ?_ ?_ 29 (fcs 0 0) ?_ ?_ ?_ ?_ ?_); (next => rfl); (next => rfl); (next => rfl); (next => rfl); (next => exact HZ7.out.fl _); (next => exact szF); (next => rfl); (next => exact fcs_one _ _)))
                  refine end_two rfl _ _ w.heap.size (w.heap.size + 1) 24 29 (tcs none 0 0 false 0) (fcs (q3 + 1) 3) _ _ rfl rfl ?_ (setRow_heap _ _ _ _ _ _ (HZ7.out.fl _)) Tryz.underlying24 Tryz.underlying29 szT szF rfl (PX.out _ HZ7.out _ _)
                  rw [setRow_other _ _ _ _ (by omega)]
                  exact setRow_heap _ _ _ _ _ _ HZ7.out.z0
          · have hpr : parse ls = bad (q2 + 1) 9 := by rw [hfin]; unfold fin; rw [if_neg g5, if_pos ⟨g2, hce⟩, hq2]
            have PX := Lib.hid (PB.out _ _ hpr)
            rw [show (ce s.lv true s.ex == 0) = false by simpa using hce] at RI
            clear PG PB hpr hfin hcell HH E2 E3 g2 g5 hinv hpi hrun ht hlp hrn hce
            as_aux_lemma =>
              skip
              go_wp2_with (first
                | (go_at_call 19; ((with_reducible refine (FN2.out _ _ _ (HR.out _ hbr)).mono ?_); rintro e wf ⟨rfl, hbf⟩; have HBf := Lib.hid (btr hbr hbf); have HTf := Lib.hid (kept HT.out hbf); have HLf := Lib.hid (HLP.out.below hbf); have fz1 := row_open' (p := 1) HTf.out; have z3 := X3.out _ (HBf.out.setCell (p := ⟨W1.heap.size, 1, none⟩) (Nat.le_refl _) (.bool true)); have fz2 := row_open' (p := 2) (heap_cell (j := 1) (v := .bool true) HTf.out); have k2 := row_cell (heap_cell (j := 1) (v := .bool true) HTf.out) 2; have H8 := Lib.hid (has_set (x := s.ex) HTf.out); clear c0 c1 c2; obtain ⟨c0, c1, c2⟩ := tcs_cells HTf.out; obtain ⟨e0, e1, e2⟩ := tcs_cells H8.out; have L8 := Lib.hid (lps_cells (j := 2) (v := .int .i64 s.ex) (lps_cells (j := 1) (v := .bool true) HLf.out HTf.out) (has := true) (x := 0) (n := s.lv.length) (c := c) (B := A) (heap_cell HTf.out)); have B8 := Lib.hid ((HBf.out.setCell (p := ⟨W1.heap.size, 1, none⟩) (Nat.le_refl _) (.bool true)).setCell (p := ⟨W1.heap.size, 2, none⟩) (Nat.le_refl _) (.int .i64 s.ex))))
                | (go_at_call 20; (with_reducible refine (PO.out _).mono ?_); rintro e wp ⟨rfl, rfl⟩)
                | (go_at_call 22; (with_reducible refine (RI.out _ L8.out).mono ?_); rintro e wc ⟨rfl, hbc⟩; have HBc := Lib.hid (btr B8.out hbc); have HTc := Lib.hid (kept H8.out hbc); have HLc := Lib.hid (L8.out.below hbc); have HZc := Lib.hid (QR.out _ HBc.out); clear e0 e1 e2)
                | ((with_reducible refine wpList_store_row ?_ 24 (.tmp 2) (.tmp 118) ?_ w.heap.size (tcs none 0 0 false 0) ?_ ?_ 24 (tcs none 0 0 false 0) ?_ ?_ ?_ ?_ ?_); (next => rfl); (next => rfl); (next => rfl); (next => rfl); (next => exact HZc.out.z0); (next => exact szT); (next => rfl); (next => exact tcs_one _ _ _ _ _))
                | ((with_reducible refine wpList_store_row ?_ 29 (.tmp 3) (.tmp 121) ?_ (w.heap.size + 1) (fcs (q2 + 1) 9) ?_ ?_ 29 (fcs 0 0) ?_ ?_ ?_ ?_ ?_); (next => rfl); (next => rfl); (next => rfl); (next => rfl); (next => exact HZc.out.fl _); (next => exact szF); (next => rfl); (next => exact fcs_one _ _)))
              refine end_two rfl _ _ w.heap.size (w.heap.size + 1) 24 29 (tcs none 0 0 false 0) (fcs (q2 + 1) 9) _ _ rfl rfl ?_ (setRow_heap _ _ _ _ _ _ (HZc.out.fl _)) Tryz.underlying24 Tryz.underlying29 szT szF rfl (PX.out _ HZc.out _ _)
              rw [setRow_other _ _ _ _ (by omega)]
              exact setRow_heap _ _ _ _ _ _ HZc.out.z0
end Go.Proofs.YtldieebiicblbaaGreatDoor.ref10
