/-
  The document's own reader of a line, layer 11: lines of leaps; and of any line. Conditions: texts of at most 300000 bytes.
-/
import Derived.Test.YtiboijhfieaepaaGreatDoorM4
namespace Go.Proofs.YtiboijhfieaepaaGreatDoor.ref11
open Go.ChangeShapes Go.WideShapes Go.ChangeAt Go.RowKit
open lx zs mem cal
open zic (Wds Small lit_is head_g lw_small)
set_option linter.unusedVariables false
set_option maxRecDepth 100000

theorem out_facts {w7 : World} {g b oo q : Nat} {a y m d sc : Int} {s5 : ByteArray} {v5 : Value} {c1 c0 : Array Value} {k : Nat} (KO : w7.heap[g]? = some (.cells #[.int .i64 a, .int .i64 y, .int .i64 m, .int .i64 d, .int .i64 sc, .string s5, .bool false] 51 (0, 0))) (c5 : w7.cell? ⟨b, oo + 5, none⟩ = some v5) (hne : g ≠ b)
    (K1 : w7.heap[q]? = some (.cells c1 51 (0, 0))) (h1 : g ≠ q) (K0 : w7.heap[k]? = some (.cells c0 51 (0, 0))) (h0 : g ≠ k) (v : Value) :
    (w7.setCell ⟨g, 6, none⟩ v).cell? ⟨b, oo + 5, none⟩ = some v5 ∧ (w7.setCell ⟨g, 6, none⟩ v).cell? ⟨g, 6, none⟩ = some v ∧ (w7.setCell ⟨g, 6, none⟩ v).heap[g]? = some (.cells #[.int .i64 a, .int .i64 y, .int .i64 m, .int .i64 d, .int .i64 sc, .string s5, v] 51 (0, 0)) ∧
    (w7.setCell ⟨g, 6, none⟩ v).heap[q]? = some (.cells c1 51 (0, 0)) ∧ (w7.setCell ⟨g, 6, none⟩ v).heap[k]? = some (.cells c0 51 (0, 0)) :=
  ⟨(World.cell?_of_block (a := ⟨b, oo + 5, none⟩) (heap_other hne)).trans c5, row_cell (heap_cell KO) 6, heap_cell KO, (heap_other h1).trans K1, (heap_other h0).trans K0⟩
set_option maxHeartbeats 16000000 in
theorem read_one_t (s : ByteArray) (w : World) (hs : s.size ≤ 300000) (hk : kd (zic.wl s) = 1) (hg : moT (mo (zic.wl s)) = true) : Calls Tryz.prog 23 #[.string s] w fun e w' => e = .returned (.agg (rowC (zic.wl s))) ∧ Below w.heap.size w w' := by
  have hx : Small (zic.wl s) := lw_small (L s) (by rw [L_len]; exact hs)
  have WD : Hid (∀ W, Calls Tryz.prog 49 #[.string s] W (lines.Told W ((zic.wl s).map B))) := fun W => words_at s W (by omega)
  unfold lines.Told at WD
  rw [List.length_map] at WD
  generalize zic.wl s = X at *
  have FO := Lib.hid (fun W => fold_first X hx W)
  have CE : Hid (∀ W A, lines.Strs W A (X.map B) → 0 < X.length → ∃ b o, A = some ⟨b, o, none⟩ ∧ b < W.heap.size ∧ ∀ k, k < X.length → W.cell? ⟨b, o + k, none⟩ = some (.string (B (g X k)))) := fun W A h hl => Wds.cell h hl
  have N1 := Lib.hid (fun W => num_word X hx 1 W)
  have M2 := Lib.hid (fun W => month_word X hx 2 W)
  have N3 := Lib.hid (fun W => num_word X hx 3 W)
  have C4 := Lib.hid (fun W => clock_at (g X 4) W (hx.2 4))
  have e1 : ((B (fw X)).toList == [108, 101, 97, 112]) = decide (fw X = leapL) := lit_is _ _
  have e2 : ((B (fw X)).toList == [101, 120, 112, 105, 114, 101, 115]) = decide (fw X = expL) := lit_is _ _
  have mw := moT_words X
  rw [mw] at hg
  have F6 := Lib.hid (fun W => fold_word X hx 6 W)
  have BR := Lib.hid (fun W => beg_roll X hx 6 W)
  have BS := Lib.hid (fun W => beg_stat X hx 6 W)
  obtain ⟨p, q⟩ := kd_one X hk
  have E0 : Hid (rowC X = if moT (mo X) = true ∧ (rkR (g X 6) = true ∨ ((g X 6).map fld).isPrefixOf statL = true) ∧ (g X 5 = [43] ∨ g X 5 = [45]) then #[.int .i64 1, .int .i64 (nmI (g X 1)), .int .i64 (mon (g X 2)), .int .i64 (nmI (g X 3)), .int .i64 (clkI (g X 4)), .string (B (g X 5)), .bool (rkR (g X 6))] else brow) := by
    show _ = _
    have hl : lfT X = true ↔ moT (mo X) = true ∧ (rkR (g X 6) = true ∨ ((g X 6).map fld).isPrefixOf statL = true) ∧ (g X 5 = [43] ∨ g X 5 = [45]) := by
      unfold lfT rkT sgT
      simp only [Bool.and_eq_true, Bool.or_eq_true, decide_eq_true_eq]
    unfold rowC
    rw [if_neg (by omega)]
    by_cases h : lfT X = true
    · rw [if_pos ⟨hk, h⟩, if_pos (hl.1 h)]
      rfl
    · rw [if_neg (fun k => h k.2), if_neg (fun k => by have := k.1; omega), if_neg (fun k => h (hl.2 k))]
  rw [mw] at E0
  have e5 : ((B (g X 5)).toList == [43]) = decide (g X 5 = [43]) := lit_is _ _
  have e6 : ((B (g X 5)).toList == [45]) = decide (g X 5 = [45]) := lit_is _ _
  have hpos : 0 < X.length := by omega
  have hq : 7 ≤ X.length := by omega
  have n0 : ((X.length : Int) == 0) = false := by rw [beq_eq_false_iff_ne]; omega
  have t7 : ((X.length : Int) == 7) = true := beq_iff_eq.2 (by omega)
  rw [decide_eq_true p] at e1
  rw [decide_eq_false (show ¬ fw X = expL by rw [p]; decide)] at e2
  clear hk p q mw hx hs
  generalize nmI (g X 1) = y at *
  generalize nmT (g X 1) = ta at *
  generalize decide (mon (g X 2) ≠ 0) = tb at *
  generalize mon (g X 2) = m at *
  generalize nmI (g X 3) = d at *
  generalize nmT (g X 3) = tc at *
  generalize clkI (g X 4) = sc at *
  generalize clkT (g X 4) = td at *
  generalize rowC X = RC at *
  generalize B (fw X) = z at *
  generalize rkR (g X 6) = rk at *
  generalize ((g X 6).map fld).isPrefixOf statL = st at *
  rw [hg] at E0
  simp only [Bool.and_eq_true] at hg
  obtain ⟨rfl, rfl, rfl, rfl⟩ := hg
  have D : (¬ g X 5 = [43] ∧ ¬ g X 5 = [45]) ∨ (g X 5 = [43] ∧ ¬ g X 5 = [45]) ∨ (¬ g X 5 = [43] ∧ g X 5 = [45]) := by
    by_cases a : g X 5 = [43]
    · exact .inr (.inl ⟨a, by rw [a]; decide⟩)
    · by_cases b : g X 5 = [45]
      · exact .inr (.inr ⟨a, b⟩)
      · exact .inl ⟨a, b⟩
  go_enter Tryz.func23, Tryz.ntmps23
  go_wp2_with (first
    | (go_at_call 49; (with_reducible refine (WD.out _).mono ?_); rintro e w1 ⟨A, c, rfl, hS, ⟨hc, hfr⟩, hb1⟩; have hB := btr (bal (Below.refl w.heap.size w) _) hb1; have K0 := Lib.hid (kept (hp_new w _) hb1); obtain ⟨b, oo, rfl, hbl, hcell⟩ := CE.out _ _ hS hpos; have CL := Lib.hid (fun W (hb : Below w1.heap.size w1 W) k hk => (hb.cell (p := ⟨b, oo + k, none⟩) hbl).trans (hcell k hk)); have HBL := Lib.hid hbl; have c0 := fun ob => cell_zero (CL.out _ (bal (Below.refl w1.heap.size w1) ob) 0 hpos); clear hS hcell hbl)
    | (go_at_call 34; first
          | ((with_reducible refine (FO.out _).mono ?_); rintro e w2 ⟨rfl, hb2⟩; have hA := btr (bal (Below.refl w1.heap.size w1) _) hb2; have hB := btr (bal hB _) hb2; have K1 := Lib.hid (kept (hp_new w1 _) hb2); have K0 := Lib.hid (kept (hp_old K0.out _) hb2); clear FO; have c1 := CL.out _ hA 1 (by omega))
          | ((with_reducible refine (F6.out _).mono ?_); rintro e w7 ⟨rfl, hb7⟩; have KO := Lib.hid (kept (hp_new w6 _) hb7); have l1 := hp_lt K1.out; have l0 := hp_lt K0.out; have K1 := Lib.hid (kept (hp_old K1.out _) hb7); have K0 := Lib.hid (kept (hp_old K0.out _) hb7); have k6 := row_cell KO.out 6; have fz := row_open (p := 6) KO.out; have c5' := CL.out _ (btr (bal HA.out _) hb7) 5 (by omega); have hbl' := HBL.out; have OF := Lib.hid (fun v => out_facts KO.out c5' (by omega) K1.out (by omega) K0.out (by omega) v); have s5 := fun v => (OF.out v).1; have s6 := fun v => (OF.out v).2.1; have HB7 := Lib.hid (fun v => (btr (bal HB.out _) hb7).setCell (p := ⟨w6.heap.size, 6, none⟩) (by show w.heap.size ≤ w6.heap.size; omega) v)))
    | (go_at_call 40; first
          | ((with_reducible refine (N1.out _).mono ?_); rintro e w3 ⟨rfl, hb3⟩; have hA := btr hA hb3; have hB := btr hB hb3; have K1 := Lib.hid (kept K1.out hb3); have K0 := Lib.hid (kept K0.out hb3); clear N1; have c2 := CL.out _ hA 2 (by omega))
          | ((with_reducible refine (N3.out _).mono ?_); rintro e w5 ⟨rfl, hb5⟩; have hA := btr hA hb5; have hB := btr hB hb5; have K1 := Lib.hid (kept K1.out hb5); have K0 := Lib.hid (kept K0.out hb5); clear N3; have c4 := CL.out _ hA 4 (by omega)))
    | (go_at_call 11; (with_reducible refine (M2.out _).mono ?_); rintro e w4 ⟨rfl, hb4⟩; have hA := btr hA hb4; have hB := btr hB hb4; have K1 := Lib.hid (kept K1.out hb4); have K0 := Lib.hid (kept K0.out hb4); have c3 := CL.out _ hA 3 (by omega))
    | (go_at_call 13; (with_reducible refine (C4.out _).mono ?_); rintro e w6 ⟨rfl, hb6⟩; have hA := btr hA hb6; have hB := btr hB hb6; have K1 := Lib.hid (kept K1.out hb6); have K0 := Lib.hid (kept K0.out hb6); have HA := Lib.hid hA; have HB := Lib.hid hB; have c5 := fun ob => CL.out _ (bal HA.out ob) 5 (by omega); have c6 := fun ob => CL.out _ (bal HA.out ob) 6 (by omega)))
  refine (BR.out _).mono ?_
  rintro e w8 ⟨rfl, rfl⟩
  rcases D with ⟨a, b⟩ | ⟨a, b⟩ | ⟨a, b⟩
  · rw [decide_eq_false a] at e5
    rw [decide_eq_false b] at e6
    have n5 : ((B (g X 5)).toList != [43]) = true := by rw [bne, e5]; rfl
    have n6 : ((B (g X 5)).toList != [45]) = true := by rw [bne, e6]; rfl
    have E : Hid (RC = brow) := by
      show _ = _
      rw [E0.out, if_neg (fun k => by rcases k.2.2 with h | h; exact a h; exact b h)]
    clear E0 a b
    go_wp2_with (first
      | (go_at_call 36; (with_reducible refine (BS.out _).mono ?_); rintro e w9 ⟨rfl, rfl⟩)
      | ((with_reducible refine wpList_load_row ?_ 51 (.tmp 4) ?_ w1.heap.size ?_ 51 brow (0, 0) _ ?_ Tryz.underlying51 ?_ ?_ ?_); (next => rfl); (next => rfl); (next => rfl); (next => exact (OF.out (.bool rk)).2.2.2.1); (next => rfl); (next => exact szR))
      | ((with_reducible refine wpList_store_row ?_ 51 (.tmp 2) (.tmp 127) ?_ w.heap.size brow ?_ ?_ 51 #[.int .i64 0, .int .i64 0, .int .i64 0, .int .i64 0, .int .i64 0, .string ⟨#[]⟩, .bool false] ?_ ?_ ?_ ?_ ?_); (next => rfl); (next => rfl); (next => rfl); (next => rfl); (next => exact (OF.out (.bool rk)).2.2.2.2); (next => exact szR); (next => rfl); (next => exact row_one _ _ _ _ _ _ _)))
    exact end_row Tryz.results23 _ _ w.heap.size _ brow _ rfl (setRow_heap _ _ _ _ _ _ (OF.out (.bool rk)).2.2.2.2) Tryz.underlying51 szR rfl ⟨by rw [E.out], bel_setRow (HB7.out _) (Nat.le_refl _) _⟩
  · rw [decide_eq_true a] at e5
    rw [decide_eq_false b] at e6
    have n5 : ((B (g X 5)).toList != [43]) = false := by rw [bne, e5]; rfl
    have n6 : ((B (g X 5)).toList != [45]) = true := by rw [bne, e6]; rfl
    have sok : g X 5 = [43] ∨ g X 5 = [45] := by first | exact .inl a | exact .inr b
    cases rk
    · cases st
      · have E : Hid (RC = brow) := by
          show _ = _
          rw [E0.out, if_neg (fun k => by rcases k.2.1 with h | h <;> cases h)]
        clear E0 a b sok
        go_wp2_with (first
          | (go_at_call 36; (with_reducible refine (BS.out _).mono ?_); rintro e w9 ⟨rfl, rfl⟩)
          | ((with_reducible refine wpList_load_row ?_ 51 (.tmp 4) ?_ w1.heap.size ?_ 51 brow (0, 0) _ ?_ Tryz.underlying51 ?_ ?_ ?_); (next => rfl); (next => rfl); (next => rfl); (next => exact (OF.out (.bool false)).2.2.2.1); (next => rfl); (next => exact szR))
          | ((with_reducible refine wpList_store_row ?_ 51 (.tmp 2) (.tmp 127) ?_ w.heap.size brow ?_ ?_ 51 #[.int .i64 0, .int .i64 0, .int .i64 0, .int .i64 0, .int .i64 0, .string ⟨#[]⟩, .bool false] ?_ ?_ ?_ ?_ ?_); (next => rfl); (next => rfl); (next => rfl); (next => rfl); (next => exact (OF.out (.bool false)).2.2.2.2); (next => exact szR); (next => rfl); (next => exact row_one _ _ _ _ _ _ _)))
        exact end_row Tryz.results23 _ _ w.heap.size _ brow _ rfl (setRow_heap _ _ _ _ _ _ (OF.out (.bool false)).2.2.2.2) Tryz.underlying51 szR rfl ⟨by rw [E.out], bel_setRow (HB7.out _) (Nat.le_refl _) _⟩
      · have E : Hid (RC = #[.int .i64 1, .int .i64 y, .int .i64 m, .int .i64 d, .int .i64 sc, .string (B (g X 5)), .bool false]) := by
          show _ = _
          rw [E0.out, if_pos ⟨by first | rfl | trivial, .inr (by first | rfl | trivial), sok⟩]
        clear E0 a b sok
        go_wp2_with (first
          | (go_at_call 36; (with_reducible refine (BS.out _).mono ?_); rintro e w9 ⟨rfl, rfl⟩)
          | ((with_reducible refine wpList_load_row ?_ 51 (.tmp 14) ?_ w6.heap.size ?_ 51 #[.int .i64 1, .int .i64 y, .int .i64 m, .int .i64 d, .int .i64 sc, .string (B (g X 5)), .bool false] (0, 0) _ ?_ Tryz.underlying51 ?_ ?_ ?_); (next => rfl); (next => rfl); (next => rfl); (next => exact (OF.out (.bool false)).2.2.1); (next => rfl); (next => exact szR))
          | ((with_reducible refine wpList_store_row ?_ 51 (.tmp 2) (.tmp 128) ?_ w.heap.size #[.int .i64 1, .int .i64 y, .int .i64 m, .int .i64 d, .int .i64 sc, .string (B (g X 5)), .bool false] ?_ ?_ 51 #[.int .i64 0, .int .i64 0, .int .i64 0, .int .i64 0, .int .i64 0, .string ⟨#[]⟩, .bool false] ?_ ?_ ?_ ?_ ?_); (next => rfl); (next => rfl); (next => rfl); (next => rfl); (next => exact (OF.out (.bool false)).2.2.2.2); (next => exact szR); (next => rfl); (next => exact row_one _ _ _ _ _ _ _)))
        exact end_row Tryz.results23 _ _ w.heap.size _ #[.int .i64 1, .int .i64 y, .int .i64 m, .int .i64 d, .int .i64 sc, .string (B (g X 5)), .bool false] _ rfl (setRow_heap _ _ _ _ _ _ (OF.out (.bool false)).2.2.2.2) Tryz.underlying51 szR rfl ⟨by rw [E.out], bel_setRow (HB7.out _) (Nat.le_refl _) _⟩
    · have E : Hid (RC = #[.int .i64 1, .int .i64 y, .int .i64 m, .int .i64 d, .int .i64 sc, .string (B (g X 5)), .bool true]) := by
        show _ = _
        rw [E0.out, if_pos ⟨by first | rfl | trivial, .inl (by first | rfl | trivial), sok⟩]
      clear E0 a b sok
      go_wp2_with (first
        | (go_at_call 36; (with_reducible refine (BS.out _).mono ?_); rintro e w9 ⟨rfl, rfl⟩)
        | ((with_reducible refine wpList_load_row ?_ 51 (.tmp 14) ?_ w6.heap.size ?_ 51 #[.int .i64 1, .int .i64 y, .int .i64 m, .int .i64 d, .int .i64 sc, .string (B (g X 5)), .bool true] (0, 0) _ ?_ Tryz.underlying51 ?_ ?_ ?_); (next => rfl); (next => rfl); (next => rfl); (next => exact (OF.out (.bool true)).2.2.1); (next => rfl); (next => exact szR))
        | ((with_reducible refine wpList_store_row ?_ 51 (.tmp 2) (.tmp 128) ?_ w.heap.size #[.int .i64 1, .int .i64 y, .int .i64 m, .int .i64 d, .int .i64 sc, .string (B (g X 5)), .bool true] ?_ ?_ 51 #[.int .i64 0, .int .i64 0, .int .i64 0, .int .i64 0, .int .i64 0, .string ⟨#[]⟩, .bool false] ?_ ?_ ?_ ?_ ?_); (next => rfl); (next => rfl); (next => rfl); (next => rfl); (next => exact (OF.out (.bool true)).2.2.2.2); (next => exact szR); (next => rfl); (next => exact row_one _ _ _ _ _ _ _)))
      exact end_row Tryz.results23 _ _ w.heap.size _ #[.int .i64 1, .int .i64 y, .int .i64 m, .int .i64 d, .int .i64 sc, .string (B (g X 5)), .bool true] _ rfl (setRow_heap _ _ _ _ _ _ (OF.out (.bool true)).2.2.2.2) Tryz.underlying51 szR rfl ⟨by rw [E.out], bel_setRow (HB7.out _) (Nat.le_refl _) _⟩
  · rw [decide_eq_false a] at e5
    rw [decide_eq_true b] at e6
    have n5 : ((B (g X 5)).toList != [43]) = true := by rw [bne, e5]; rfl
    have n6 : ((B (g X 5)).toList != [45]) = false := by rw [bne, e6]; rfl
    have sok : g X 5 = [43] ∨ g X 5 = [45] := by first | exact .inl a | exact .inr b
    cases rk
    · cases st
      · have E : Hid (RC = brow) := by
          show _ = _
          rw [E0.out, if_neg (fun k => by rcases k.2.1 with h | h <;> cases h)]
        clear E0 a b sok
        go_wp2_with (first
          | (go_at_call 36; (with_reducible refine (BS.out _).mono ?_); rintro e w9 ⟨rfl, rfl⟩)
          | ((with_reducible refine wpList_load_row ?_ 51 (.tmp 4) ?_ w1.heap.size ?_ 51 brow (0, 0) _ ?_ Tryz.underlying51 ?_ ?_ ?_); (next => rfl); (next => rfl); (next => rfl); (next => exact (OF.out (.bool false)).2.2.2.1); (next => rfl); (next => exact szR))
          | ((with_reducible refine wpList_store_row ?_ 51 (.tmp 2) (.tmp 127) ?_ w.heap.size brow ?_ ?_ 51 #[.int .i64 0, .int .i64 0, .int .i64 0, .int .i64 0, .int .i64 0, .string ⟨#[]⟩, .bool false] ?_ ?_ ?_ ?_ ?_); (next => rfl); (next => rfl); (next => rfl); (next => rfl); (next => exact (OF.out (.bool false)).2.2.2.2); (next => exact szR); (next => rfl); (next => exact row_one _ _ _ _ _ _ _)))
        exact end_row Tryz.results23 _ _ w.heap.size _ brow _ rfl (setRow_heap _ _ _ _ _ _ (OF.out (.bool false)).2.2.2.2) Tryz.underlying51 szR rfl ⟨by rw [E.out], bel_setRow (HB7.out _) (Nat.le_refl _) _⟩
      · have E : Hid (RC = #[.int .i64 1, .int .i64 y, .int .i64 m, .int .i64 d, .int .i64 sc, .string (B (g X 5)), .bool false]) := by
          show _ = _
          rw [E0.out, if_pos ⟨by first | rfl | trivial, .inr (by first | rfl | trivial), sok⟩]
        clear E0 a b sok
        go_wp2_with (first
          | (go_at_call 36; (with_reducible refine (BS.out _).mono ?_); rintro e w9 ⟨rfl, rfl⟩)
          | ((with_reducible refine wpList_load_row ?_ 51 (.tmp 14) ?_ w6.heap.size ?_ 51 #[.int .i64 1, .int .i64 y, .int .i64 m, .int .i64 d, .int .i64 sc, .string (B (g X 5)), .bool false] (0, 0) _ ?_ Tryz.underlying51 ?_ ?_ ?_); (next => rfl); (next => rfl); (next => rfl); (next => exact (OF.out (.bool false)).2.2.1); (next => rfl); (next => exact szR))
          | ((with_reducible refine wpList_store_row ?_ 51 (.tmp 2) (.tmp 128) ?_ w.heap.size #[.int .i64 1, .int .i64 y, .int .i64 m, .int .i64 d, .int .i64 sc, .string (B (g X 5)), .bool false] ?_ ?_ 51 #[.int .i64 0, .int .i64 0, .int .i64 0, .int .i64 0, .int .i64 0, .string ⟨#[]⟩, .bool false] ?_ ?_ ?_ ?_ ?_); (next => rfl); (next => rfl); (next => rfl); (next => rfl); (next => exact (OF.out (.bool false)).2.2.2.2); (next => exact szR); (next => rfl); (next => exact row_one _ _ _ _ _ _ _)))
        exact end_row Tryz.results23 _ _ w.heap.size _ #[.int .i64 1, .int .i64 y, .int .i64 m, .int .i64 d, .int .i64 sc, .string (B (g X 5)), .bool false] _ rfl (setRow_heap _ _ _ _ _ _ (OF.out (.bool false)).2.2.2.2) Tryz.underlying51 szR rfl ⟨by rw [E.out], bel_setRow (HB7.out _) (Nat.le_refl _) _⟩
    · have E : Hid (RC = #[.int .i64 1, .int .i64 y, .int .i64 m, .int .i64 d, .int .i64 sc, .string (B (g X 5)), .bool true]) := by
        show _ = _
        rw [E0.out, if_pos ⟨by first | rfl | trivial, .inl (by first | rfl | trivial), sok⟩]
      clear E0 a b sok
      go_wp2_with (first
        | (go_at_call 36; (with_reducible refine (BS.out _).mono ?_); rintro e w9 ⟨rfl, rfl⟩)
        | ((with_reducible refine wpList_load_row ?_ 51 (.tmp 14) ?_ w6.heap.size ?_ 51 #[.int .i64 1, .int .i64 y, .int .i64 m, .int .i64 d, .int .i64 sc, .string (B (g X 5)), .bool true] (0, 0) _ ?_ Tryz.underlying51 ?_ ?_ ?_); (next => rfl); (next => rfl); (next => rfl); (next => exact (OF.out (.bool true)).2.2.1); (next => rfl); (next => exact szR))
        | ((with_reducible refine wpList_store_row ?_ 51 (.tmp 2) (.tmp 128) ?_ w.heap.size #[.int .i64 1, .int .i64 y, .int .i64 m, .int .i64 d, .int .i64 sc, .string (B (g X 5)), .bool true] ?_ ?_ 51 #[.int .i64 0, .int .i64 0, .int .i64 0, .int .i64 0, .int .i64 0, .string ⟨#[]⟩, .bool false] ?_ ?_ ?_ ?_ ?_); (next => rfl); (next => rfl); (next => rfl); (next => rfl); (next => exact (OF.out (.bool true)).2.2.2.2); (next => exact szR); (next => rfl); (next => exact row_one _ _ _ _ _ _ _)))
      exact end_row Tryz.results23 _ _ w.heap.size _ #[.int .i64 1, .int .i64 y, .int .i64 m, .int .i64 d, .int .i64 sc, .string (B (g X 5)), .bool true] _ rfl (setRow_heap _ _ _ _ _ _ (OF.out (.bool true)).2.2.2.2) Tryz.underlying51 szR rfl ⟨by rw [E.out], bel_setRow (HB7.out _) (Nat.le_refl _) _⟩
end Go.Proofs.YtiboijhfieaepaaGreatDoor.ref11
