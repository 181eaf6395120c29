/-
  The document's own reader of a line, layer 11. Conditions: texts of at most 300000 bytes.
-/
import Derived.Test.YtiboijhfieaepaaGreatDoorM3
namespace Go.Proofs.YtiboijhfieaepaaGreatDoor.ref11
open Go.ChangeShapes Go.WideShapes Go.ChangeAt Go.RowKit
open lx zs mem cal
open zic (Wds Small lit_is head_g lw_small)
set_option linter.unusedVariables false
set_option maxRecDepth 100000

theorem szR : (Tryz.prog.info? 51).map (·.size) = some 7 := by kernel_rfl
theorem row_one (a b c d e : Int) (s : ByteArray) (r : Bool) : (#[.int .i64 a, .int .i64 b, .int .i64 c, .int .i64 d, .int .i64 e, .string s, .bool r] : Array Value).all (·.oneCell') = true := by simp [Value.oneCell']
theorem fold_first (X : List (List UInt8)) (hx : Small X) (W : World) : Calls Tryz.prog 34 #[.string (B (g X 0))] W fun e w' => e = .returned (.string (B (fw X))) ∧ Below W.heap.size W w' := by
  have := ref05.fold_at (B (g X 0)) W (by rw [B_size]; exact hx.2 0)
  unfold foldS at this
  rw [L_B, show (g X 0).map fld = fw X from by unfold fw; rw [head_g]] at this
  exact this
theorem num_word (X : List (List UInt8)) (hx : Small X) (k : Nat) (W : World) : Calls Tryz.prog 40 #[.string (B (g X k))] W fun e w' => e = .returned (.tuple #[.int .i64 (nmI (g X k)), .bool (nmT (g X k))]) ∧ Below W.heap.size W w' := by
  have := ref05.number_on W (Below.refl _ _) (B (g X k)) (by rw [B_size]; exact hx.2 k)
  rw [L_B] at this
  exact this
theorem month_word (X : List (List UInt8)) (hx : Small X) (k : Nat) (W : World) : Calls Tryz.prog 11 #[.string (B (g X k))] W fun e w' => e = .returned (.tuple #[.int .i64 (mon (g X k)), .bool (decide (mon (g X k) ≠ 0))]) ∧ Below W.heap.size W w' := by
  have := month_at (B (g X k)) W (by rw [B_size]; exact hx.2 k)
  rw [L_B] at this
  exact this
theorem fold_word (X : List (List UInt8)) (hx : Small X) (k : Nat) (W : World) : Calls Tryz.prog 34 #[.string (B (g X k))] W fun e w' => e = .returned (.string (B ((g X k).map fld))) ∧ Below W.heap.size W w' := by
  have := ref05.fold_at (B (g X k)) W (by rw [B_size]; exact hx.2 k)
  unfold foldS at this
  rw [L_B] at this
  exact this
theorem beg_roll (X : List (List UInt8)) (hx : Small X) (k : Nat) (W : World) : Calls Tryz.prog 36 #[.string (B ((g X k).map fld)), .string ⟨#[114, 111, 108, 108, 105, 110, 103]⟩] W fun e w' => e = .returned (.bool (rkR (g X k))) ∧ W = w' :=
  begins_at ((g X k).map fld) rollL W (by rw [List.length_map]; exact hx.2 k) (by decide)
theorem beg_stat (X : List (List UInt8)) (hx : Small X) (k : Nat) (W : World) : Calls Tryz.prog 36 #[.string (B ((g X k).map fld)), .string ⟨#[115, 116, 97, 116, 105, 111, 110, 97, 114, 121]⟩] W fun e w' => e = .returned (.bool (((g X k).map fld).isPrefixOf statL)) ∧ W = w' :=
  begins_at ((g X k).map fld) statL W (by rw [List.length_map]; exact hx.2 k) (by decide)
theorem read_ends {w W : World} {ws : List (List UInt8)} {c : Array Value} (e : rowC ws = c) (hb : Below w.heap.size w W) : (Ending.returned (.agg c) = .returned (.agg (rowC ws))) ∧ Below w.heap.size w (W.setRow w.heap.size c) := ⟨by rw [e], bel_setRow hb (Nat.le_refl _) _⟩
theorem kd_out (X : List (List UInt8)) (h : kd X = 3) : 0 < X.length ∧ ¬ (fw X = leapL ∧ X.length = 7) ∧ ¬ (fw X = expL ∧ X.length = 5) := by
  obtain ⟨a0, r, rfl, h1, h2⟩ := other h
  exact ⟨by simp, fun k => h1 ⟨k.1, by simpa using k.2⟩, fun k => h2 ⟨k.1, by simpa using k.2⟩⟩
theorem kd_two (X : List (List UInt8)) (h : kd X = 2) : fw X = expL ∧ X.length = 5 := by
  obtain ⟨a0, a1, a2, a3, a4, rfl, h1⟩ := five h
  exact ⟨h1, rfl⟩
theorem kd_one (X : List (List UInt8)) (h : kd X = 1) : fw X = leapL ∧ X.length = 7 := by
  obtain ⟨a0, a1, a2, a3, a4, a5, a6, rfl, h1⟩ := seven h
  exact ⟨h1, rfl⟩
theorem moT_words (X : List (List UInt8)) : moT (mo X) = (nmT (g X 1) && (decide (mon (g X 2) ≠ 0) && (nmT (g X 3) && clkT (g X 4)))) := by
  unfold moT
  rw [g_mo X 0 (by decide), g_mo X 1 (by decide), g_mo X 2 (by decide), g_mo X 3 (by decide)]
theorem cell_zero {W : World} {b oo : Nat} {v : Value} (h : W.cell? ⟨b, oo + 0, none⟩ = some v) : W.cell? ⟨b, oo, none⟩ = some v := h
set_option maxHeartbeats 8000000 in
theorem read_none (s : ByteArray) (w : World) (hs : s.size ≤ 300000) (hk : kd (zic.wl s) = 0) : Calls Tryz.prog 23 #[.string s] w fun e w' => e = .returned (.agg (rowC (zic.wl s))) ∧ Below w.heap.size w w' := by
  have WD : Hid (∀ W, Calls Tryz.prog 49 #[.string s] W (lines.Told W ((zic.wl s).map B))) := fun W => words_at s W (by omega)
  unfold lines.Told at WD
  rw [List.length_map] at WD
  generalize zic.wl s = X at *
  obtain rfl := kd_len.2.2.1 hk
  have E : Hid (rowC ([] : List (List UInt8)) = zrow) := rfl
  rw [show ([] : List (List UInt8)).length = 0 from rfl] at WD
  clear hk hs
  go_enter Tryz.func23, Tryz.ntmps23
  go_wp2_with (first
    | (go_at_call 49; (with_reducible refine (WD.out _).mono ?_); rintro e w1 ⟨A, c, rfl, hS, ⟨hc, hfr⟩, hb1⟩; have hB := btr (bal (Below.refl w.heap.size w) _) hb1; have K0 := Lib.hid (kept (hp_new w _) hb1); have HB := Lib.hid hB; clear hS)
    | (refine wpList_store_row rfl 51 (.tmp 2) (.tmp 21) rfl w.heap.size zrow rfl rfl 51 _ K0.out szR rfl (row_one _ _ _ _ _ _ _) ?_))
  exact end_row Tryz.results23 _ _ w.heap.size _ zrow _ rfl (setRow_heap _ _ _ _ _ _ K0.out) Tryz.underlying51 szR rfl ⟨by rw [E.out], bel_setRow HB.out (Nat.le_refl _) _⟩
set_option maxHeartbeats 8000000 in
theorem read_bad (s : ByteArray) (w : World) (hs : s.size ≤ 300000) (hk : kd (zic.wl s) = 3) : Calls Tryz.prog 23 #[.string s] w fun e w' => e = .returned (.agg (rowC (zic.wl s))) ∧ Below w.heap.size w w' := by
  have hx : Small (zic.wl s) := lw_small (L s) (by rw [L_len]; exact hs)
  have WD : Hid (∀ W, Calls Tryz.prog 49 #[.string s] W (lines.Told W ((zic.wl s).map B))) := fun W => words_at s W (by omega)
  unfold lines.Told at WD
  rw [List.length_map] at WD
  generalize zic.wl s = X at *
  have FO := Lib.hid (fun W => fold_first X hx W)
  have CE : Hid (∀ W A, lines.Strs W A (X.map B) → 0 < X.length → ∃ b o, A = some ⟨b, o, none⟩ ∧ b < W.heap.size ∧ ∀ k, k < X.length → W.cell? ⟨b, o + k, none⟩ = some (.string (B (g X k)))) := fun W A h hl => Wds.cell h hl
  obtain ⟨hpos, o1, o2⟩ := kd_out X hk
  have E : Hid (rowC X = brow) := by
    show _ = _
    unfold rowC
    rw [if_neg (by omega), if_neg (fun k => by have := k.1; omega), if_neg (fun k => by have := k.1; omega)]
  have n0 : ((X.length : Int) == 0) = false := by rw [beq_eq_false_iff_ne]; omega
  have e1 : ((B (fw X)).toList == [108, 101, 97, 112]) = decide (fw X = leapL) := lit_is _ _
  have e2 : ((B (fw X)).toList == [101, 120, 112, 105, 114, 101, 115]) = decide (fw X = expL) := lit_is _ _
  have D : Hid ((fw X = leapL ∧ ¬ fw X = expL ∧ X.length ≠ 7) ∨ (¬ fw X = leapL ∧ fw X = expL ∧ X.length ≠ 5) ∨ (¬ fw X = leapL ∧ ¬ fw X = expL)) := by
    show _ ∨ _
    have hne : leapL ≠ expL := by decide
    by_cases p : fw X = leapL
    · exact .inl ⟨p, by rw [p]; exact hne, fun k => o1 ⟨p, k⟩⟩
    · by_cases q : fw X = expL
      · exact .inr (.inl ⟨p, q, fun k => o2 ⟨q, k⟩⟩)
      · exact .inr (.inr ⟨p, q⟩)
  have hln := hx.1
  clear hk o1 o2 hx hs
  rcases D.out with ⟨p, q, r⟩ | ⟨p, q, r⟩ | ⟨p, q⟩
  · have t7 : ((X.length : Int) == 7) = false := by rw [beq_eq_false_iff_ne]; omega
    rw [decide_eq_true p] at e1
    rw [decide_eq_false q] at e2
    clear D p q r
    generalize B (fw X) = z at *
    go_enter Tryz.func23, Tryz.ntmps23
    go_wp2_with (first
      | (go_at_call 49; (with_reducible refine (WD.out _).mono ?_); rintro e w1 ⟨A, c, rfl, hS, ⟨hc, hfr⟩, hb1⟩; have hB := btr (bal (Below.refl w.heap.size w) _) hb1; have K0 := Lib.hid (kept (hp_new w _) hb1); obtain ⟨b, oo, rfl, hbl, hcell⟩ := CE.out _ _ hS hpos; have CL := Lib.hid (fun W (hb : Below w1.heap.size w1 W) k hk => (hb.cell (p := ⟨b, oo + k, none⟩) hbl).trans (hcell k hk)); have c0 := fun ob => cell_zero (CL.out _ (bal (Below.refl w1.heap.size w1) ob) 0 hpos); clear hS hcell)
      | (go_at_call 34; (with_reducible refine (FO.out _).mono ?_); rintro e w2 ⟨rfl, hb2⟩; have hA := btr (bal (Below.refl w1.heap.size w1) _) hb2; have hB := btr (bal hB _) hb2; have K1 := Lib.hid (kept (hp_new w1 _) hb2); have K0 := Lib.hid (kept (hp_old K0.out _) hb2); have HB := Lib.hid hB)
      | (refine wpList_load_row rfl 51 (.tmp 4) rfl w1.heap.size rfl 51 brow _ _ K1.out Tryz.underlying51 rfl szR ?_)
      | (refine wpList_store_row rfl 51 (.tmp 2) (.tmp 44) rfl w.heap.size brow rfl rfl 51 _ K0.out szR rfl (row_one _ _ _ _ _ _ _) ?_))
    exact end_row Tryz.results23 _ _ w.heap.size _ brow _ rfl (setRow_heap _ _ _ _ _ _ K0.out) Tryz.underlying51 szR rfl ⟨by rw [E.out], bel_setRow HB.out (Nat.le_refl _) _⟩
  · have t5 : ((X.length : Int) == 5) = false := by rw [beq_eq_false_iff_ne]; omega
    rw [decide_eq_false p] at e1
    rw [decide_eq_true q] at e2
    clear D p q r
    generalize B (fw X) = z at *
    go_enter Tryz.func23, Tryz.ntmps23
    go_wp2_with (first
      | (go_at_call 49; (with_reducible refine (WD.out _).mono ?_); rintro e w1 ⟨A, c, rfl, hS, ⟨hc, hfr⟩, hb1⟩; have hB := btr (bal (Below.refl w.heap.size w) _) hb1; have K0 := Lib.hid (kept (hp_new w _) hb1); obtain ⟨b, oo, rfl, hbl, hcell⟩ := CE.out _ _ hS hpos; have CL := Lib.hid (fun W (hb : Below w1.heap.size w1 W) k hk => (hb.cell (p := ⟨b, oo + k, none⟩) hbl).trans (hcell k hk)); have c0 := fun ob => cell_zero (CL.out _ (bal (Below.refl w1.heap.size w1) ob) 0 hpos); clear hS hcell)
      | (go_at_call 34; (with_reducible refine (FO.out _).mono ?_); rintro e w2 ⟨rfl, hb2⟩; have hA := btr (bal (Below.refl w1.heap.size w1) _) hb2; have hB := btr (bal hB _) hb2; have K1 := Lib.hid (kept (hp_new w1 _) hb2); have K0 := Lib.hid (kept (hp_old K0.out _) hb2); have HB := Lib.hid hB)
      | (refine wpList_load_row rfl 51 (.tmp 4) rfl w1.heap.size rfl 51 brow _ _ K1.out Tryz.underlying51 rfl szR ?_)
      | (refine wpList_store_row rfl 51 (.tmp 2) (.tmp 44) rfl w.heap.size brow rfl rfl 51 _ K0.out szR rfl (row_one _ _ _ _ _ _ _) ?_))
    exact end_row Tryz.results23 _ _ w.heap.size _ brow _ rfl (setRow_heap _ _ _ _ _ _ K0.out) Tryz.underlying51 szR rfl ⟨by rw [E.out], bel_setRow HB.out (Nat.le_refl _) _⟩
  · rw [decide_eq_false p] at e1
    rw [decide_eq_false q] at e2
    clear D p q
    generalize B (fw X) = z at *
    go_enter Tryz.func23, Tryz.ntmps23
    go_wp2_with (first
      | (go_at_call 49; (with_reducible refine (WD.out _).mono ?_); rintro e w1 ⟨A, c, rfl, hS, ⟨hc, hfr⟩, hb1⟩; have hB := btr (bal (Below.refl w.heap.size w) _) hb1; have K0 := Lib.hid (kept (hp_new w _) hb1); obtain ⟨b, oo, rfl, hbl, hcell⟩ := CE.out _ _ hS hpos; have CL := Lib.hid (fun W (hb : Below w1.heap.size w1 W) k hk => (hb.cell (p := ⟨b, oo + k, none⟩) hbl).trans (hcell k hk)); have c0 := fun ob => cell_zero (CL.out _ (bal (Below.refl w1.heap.size w1) ob) 0 hpos); clear hS hcell)
      | (go_at_call 34; (with_reducible refine (FO.out _).mono ?_); rintro e w2 ⟨rfl, hb2⟩; have hA := btr (bal (Below.refl w1.heap.size w1) _) hb2; have hB := btr (bal hB _) hb2; have K1 := Lib.hid (kept (hp_new w1 _) hb2); have K0 := Lib.hid (kept (hp_old K0.out _) hb2); have HB := Lib.hid hB)
      | (refine wpList_load_row rfl 51 (.tmp 4) rfl w1.heap.size rfl 51 brow _ _ K1.out Tryz.underlying51 rfl szR ?_)
      | (refine wpList_store_row rfl 51 (.tmp 2) (.tmp 44) rfl w.heap.size brow rfl rfl 51 _ K0.out szR rfl (row_one _ _ _ _ _ _ _) ?_))
    exact end_row Tryz.results23 _ _ w.heap.size _ brow _ rfl (setRow_heap _ _ _ _ _ _ K0.out) Tryz.underlying51 szR rfl ⟨by rw [E.out], bel_setRow HB.out (Nat.le_refl _) _⟩
end Go.Proofs.YtiboijhfieaepaaGreatDoor.ref11

/-
  The document's own reader of a line, layer 11: lines of leaps and of expiries. Conditions: texts of at most 300000 bytes.
-/
namespace Go.Proofs.YtiboijhfieaepaaGreatDoor.ref11
open Go.ChangeShapes Go.WideShapes Go.ChangeAt Go.RowKit
open lx zs mem cal
open zic (Wds Small lit_is head_g lw_small)
set_option linter.unusedVariables false
set_option maxRecDepth 100000

theorem row_open {W : World} {g p : Nat} {c : Array Value} (h : W.heap[g]? = some (.cells c 51 (0, 0))) : W.frozen? ⟨g, p, none⟩ = false := by
  simp [World.frozen?, h]
theorem heap_cell {w : World} {g j : Nat} {c : Array Value} {t : TypeId} {v : Value} (h : w.heap[g]? = some (.cells c t (0, 0))) : (w.setCell ⟨g, j, none⟩ v).heap[g]? = some (.cells (c.setIfInBounds j v) t (0, 0)) := by
  simp [World.setCell, Array.getElem?_modify, h]
theorem heap_other {w : World} {g j k : Nat} {v : Value} (h : g ≠ k) : (w.setCell ⟨g, j, none⟩ v).heap[k]? = w.heap[k]? := by
  simp [World.setCell, Array.getElem?_modify, h]
set_option maxHeartbeats 16000000 in
theorem read_two (s : ByteArray) (w : World) (hs : s.size ≤ 300000) (hk : kd (zic.wl s) = 2) : Calls Tryz.prog 23 #[.string s] w fun e w' => e = .returned (.agg (rowC (zic.wl s))) ∧ Below w.heap.size w w' := by
  have hx : Small (zic.wl s) := lw_small (L s) (by rw [L_len]; exact hs)
  have WD : Hid (∀ W, Calls Tryz.prog 49 #[.string s] W (lines.Told W ((zic.wl s).map B))) := fun W => words_at s W (by omega)
  unfold lines.Told at WD
  rw [List.length_map] at WD
  generalize zic.wl s = X at *
  have FO := Lib.hid (fun W => fold_first X hx W)
  have CE : Hid (∀ W A, lines.Strs W A (X.map B) → 0 < X.length → ∃ b o, A = some ⟨b, o, none⟩ ∧ b < W.heap.size ∧ ∀ k, k < X.length → W.cell? ⟨b, o + k, none⟩ = some (.string (B (g X k)))) := fun W A h hl => Wds.cell h hl
  have N1 := Lib.hid (fun W => num_word X hx 1 W)
  have M2 := Lib.hid (fun W => month_word X hx 2 W)
  have N3 := Lib.hid (fun W => num_word X hx 3 W)
  have C4 := Lib.hid (fun W => clock_at (g X 4) W (hx.2 4))
  have e1 : ((B (fw X)).toList == [108, 101, 97, 112]) = decide (fw X = leapL) := lit_is _ _
  have e2 : ((B (fw X)).toList == [101, 120, 112, 105, 114, 101, 115]) = decide (fw X = expL) := lit_is _ _
  have mw := moT_words X
  obtain ⟨p, q⟩ := kd_two X hk
  have E0 : Hid (rowC X = if moT (mo X) = true then #[.int .i64 2, .int .i64 (nmI (g X 1)), .int .i64 (mon (g X 2)), .int .i64 (nmI (g X 3)), .int .i64 (clkI (g X 4)), .string ⟨#[]⟩, .bool false] else brow) := by
    show _ = _
    unfold rowC
    rw [if_neg (by omega), if_neg (fun k => by have := k.1; omega)]
    by_cases h : moT (mo X) = true
    · rw [if_pos ⟨hk, h⟩, if_pos h]
      rfl
    · rw [if_neg (fun k => h k.2), if_neg h]
  rw [mw] at E0
  have hpos : 0 < X.length := by omega
  have hq : 5 ≤ X.length := by omega
  have n0 : ((X.length : Int) == 0) = false := by rw [beq_eq_false_iff_ne]; omega
  have t5 : ((X.length : Int) == 5) = true := beq_iff_eq.2 (by omega)
  rw [decide_eq_true p] at e2
  rw [decide_eq_false (show ¬ fw X = leapL by rw [p]; decide)] at e1
  clear hk p q mw hx hs
  generalize nmI (g X 1) = y at *
  generalize nmT (g X 1) = ta at *
  generalize decide (mon (g X 2) ≠ 0) = tb at *
  generalize mon (g X 2) = m at *
  generalize nmI (g X 3) = d at *
  generalize nmT (g X 3) = tc at *
  generalize clkI (g X 4) = sc at *
  generalize clkT (g X 4) = td at *
  generalize rowC X = RC at *
  generalize B (fw X) = z at *
  cases hg : (ta && (tb && (tc && td))) with
  | true =>
    have E : Hid (RC = #[.int .i64 2, .int .i64 y, .int .i64 m, .int .i64 d, .int .i64 sc, .string ⟨#[]⟩, .bool false]) := by
      show _ = _
      rw [E0.out, hg]
      rfl
    simp only [Bool.and_eq_true] at hg
    obtain ⟨rfl, rfl, rfl, rfl⟩ := hg
    clear E0
    go_enter Tryz.func23, Tryz.ntmps23
    go_wp2_with (first
      | (go_at_call 49; (with_reducible refine (WD.out _).mono ?_); rintro e w1 ⟨A, c, rfl, hS, ⟨hc, hfr⟩, hb1⟩; have hB := btr (bal (Below.refl w.heap.size w) _) hb1; have K0 := Lib.hid (kept (hp_new w _) hb1); obtain ⟨b, oo, rfl, hbl, hcell⟩ := CE.out _ _ hS hpos; have CL := Lib.hid (fun W (hb : Below w1.heap.size w1 W) k hk => (hb.cell (p := ⟨b, oo + k, none⟩) hbl).trans (hcell k hk)); have HBL := Lib.hid hbl; have c0 := fun ob => cell_zero (CL.out _ (bal (Below.refl w1.heap.size w1) ob) 0 hpos); clear hS hcell hbl)
      | (go_at_call 34; (with_reducible refine (FO.out _).mono ?_); rintro e w2 ⟨rfl, hb2⟩; have hA := btr (bal (Below.refl w1.heap.size w1) _) hb2; have hB := btr (bal hB _) hb2; have K1 := Lib.hid (kept (hp_new w1 _) hb2); have K0 := Lib.hid (kept (hp_old K0.out _) hb2); clear FO; have c1 := CL.out _ hA 1 (by omega))
      | (go_at_call 40; first
            | ((with_reducible refine (N1.out _).mono ?_); rintro e w3 ⟨rfl, hb3⟩; have hA := btr hA hb3; have hB := btr hB hb3; have K1 := Lib.hid (kept K1.out hb3); have K0 := Lib.hid (kept K0.out hb3); clear N1; have c2 := CL.out _ hA 2 (by omega))
            | ((with_reducible refine (N3.out _).mono ?_); rintro e w5 ⟨rfl, hb5⟩; have hA := btr hA hb5; have hB := btr hB hb5; have K1 := Lib.hid (kept K1.out hb5); have K0 := Lib.hid (kept K0.out hb5); clear N3; have c4 := CL.out _ hA 4 (by omega)))
      | (go_at_call 11; (with_reducible refine (M2.out _).mono ?_); rintro e w4 ⟨rfl, hb4⟩; have hA := btr hA hb4; have hB := btr hB hb4; have K1 := Lib.hid (kept K1.out hb4); have K0 := Lib.hid (kept K0.out hb4); have c3 := CL.out _ hA 3 (by omega))
      | (go_at_call 13; (with_reducible refine (C4.out _).mono ?_); rintro e w6 ⟨rfl, hb6⟩; have hA := btr hA hb6; have hB := btr hB hb6; have K1 := Lib.hid (kept K1.out hb6); have K0 := Lib.hid (kept K0.out hb6); have HA := Lib.hid hA; have HB := Lib.hid hB)
      | (refine wpList_store_row rfl 51 (.tmp 2) (.tmp 128) rfl w.heap.size #[.int .i64 2, .int .i64 y, .int .i64 m, .int .i64 d, .int .i64 sc, .string ⟨#[]⟩, .bool false] rfl rfl 51 _ (hp_old K0.out _) szR rfl (row_one _ _ _ _ _ _ _) ?_))
    exact end_row Tryz.results23 _ _ w.heap.size _ #[.int .i64 2, .int .i64 y, .int .i64 m, .int .i64 d, .int .i64 sc, .string ⟨#[]⟩, .bool false] _ rfl (setRow_heap _ _ _ _ _ _ (hp_old K0.out _)) Tryz.underlying51 szR rfl ⟨by rw [E.out], bel_setRow (bal HB.out _) (Nat.le_refl _) _⟩
  | false =>
    have E : Hid (RC = brow) := by
      show _ = _
      rw [E0.out, hg]
      rfl
    clear E0
    have D : Hid (ta = false ∨ (ta = true ∧ tb = false) ∨ (ta = true ∧ tb = true ∧ tc = false) ∨ (ta = true ∧ tb = true ∧ tc = true ∧ td = false)) := by
      show _ ∨ _
      cases ta <;> cases tb <;> cases tc <;> cases td <;> simp at hg ⊢
    clear hg
    rcases D.out with rfl | ⟨rfl, rfl⟩ | ⟨rfl, rfl, rfl⟩ | ⟨rfl, rfl, rfl, rfl⟩
    all_goals
      clear D
      go_enter Tryz.func23, Tryz.ntmps23
      go_wp2_with (first
        | (go_at_call 49; (with_reducible refine (WD.out _).mono ?_); rintro e w1 ⟨A, c, rfl, hS, ⟨hc, hfr⟩, hb1⟩; have hB := btr (bal (Below.refl w.heap.size w) _) hb1; have K0 := Lib.hid (kept (hp_new w _) hb1); obtain ⟨b, oo, rfl, hbl, hcell⟩ := CE.out _ _ hS hpos; have CL := Lib.hid (fun W (hb : Below w1.heap.size w1 W) k hk => (hb.cell (p := ⟨b, oo + k, none⟩) hbl).trans (hcell k hk)); have HBL := Lib.hid hbl; have c0 := fun ob => cell_zero (CL.out _ (bal (Below.refl w1.heap.size w1) ob) 0 hpos); clear hS hcell hbl)
        | (go_at_call 34; (with_reducible refine (FO.out _).mono ?_); rintro e w2 ⟨rfl, hb2⟩; have hA := btr (bal (Below.refl w1.heap.size w1) _) hb2; have hB := btr (bal hB _) hb2; have K1 := Lib.hid (kept (hp_new w1 _) hb2); have K0 := Lib.hid (kept (hp_old K0.out _) hb2); clear FO; have c1 := CL.out _ hA 1 (by omega))
        | (go_at_call 40; first
              | ((with_reducible refine (N1.out _).mono ?_); rintro e w3 ⟨rfl, hb3⟩; have hA := btr hA hb3; have hB := btr hB hb3; have K1 := Lib.hid (kept K1.out hb3); have K0 := Lib.hid (kept K0.out hb3); clear N1; have c2 := CL.out _ hA 2 (by omega))
              | ((with_reducible refine (N3.out _).mono ?_); rintro e w5 ⟨rfl, hb5⟩; have hA := btr hA hb5; have hB := btr hB hb5; have K1 := Lib.hid (kept K1.out hb5); have K0 := Lib.hid (kept K0.out hb5); clear N3; have c4 := CL.out _ hA 4 (by omega)))
        | (go_at_call 11; (with_reducible refine (M2.out _).mono ?_); rintro e w4 ⟨rfl, hb4⟩; have hA := btr hA hb4; have hB := btr hB hb4; have K1 := Lib.hid (kept K1.out hb4); have K0 := Lib.hid (kept K0.out hb4); have c3 := CL.out _ hA 3 (by omega))
        | (go_at_call 13; (with_reducible refine (C4.out _).mono ?_); rintro e w6 ⟨rfl, hb6⟩; have hA := btr hA hb6; have hB := btr hB hb6; have K1 := Lib.hid (kept K1.out hb6); have K0 := Lib.hid (kept K0.out hb6); have HA := Lib.hid hA; have HB := Lib.hid hB)
        | (refine wpList_load_row rfl 51 (.tmp 4) rfl w1.heap.size rfl 51 brow _ _ K1.out Tryz.underlying51 rfl szR ?_)
        | (refine wpList_store_row rfl 51 (.tmp 2) (.tmp 87) rfl w.heap.size brow rfl rfl 51 _ K0.out szR rfl (row_one _ _ _ _ _ _ _) ?_))
      exact end_row Tryz.results23 _ _ w.heap.size _ brow _ rfl (setRow_heap _ _ _ _ _ _ K0.out) Tryz.underlying51 szR rfl ⟨by rw [E.out], bel_setRow HB.out (Nat.le_refl _) _⟩
end Go.Proofs.YtiboijhfieaepaaGreatDoor.ref11
