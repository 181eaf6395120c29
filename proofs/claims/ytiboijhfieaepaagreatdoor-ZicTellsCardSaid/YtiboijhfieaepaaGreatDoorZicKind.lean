/-
  What zic.kindOf, readKind and readMoment answer, as plain mathematics (zs) tells. Conditions: the names of months of package zic, and the tables of package day, hold what their initialisers lay; the library's variable MaxLen holds some number; the words have fewer than 2^32 - 15 bytes.
-/
import Derived.Test.YtiboijhfieaepaaGreatDoorZicMonth
import Derived.Test.YtiboijhfieaepaaGreatDoorLinesWords
namespace Go.Proofs.YtiboijhfieaepaaGreatDoor.zic
open Go.ChangeShapes Go.WideShapes Go.ChangeAt Go.RowKit
open lx zs mem stx cal
set_option linter.unusedVariables false
set_option maxRecDepth 100000

/-- a slice that reads as these words. -/
def Wds (w : World) (A : Option Addr) (X : List (List UInt8)) : Prop := lines.Strs w A (X.map B)
theorem Wds.below {w W : World} {A : Option Addr} {X : List (List UInt8)} (h : Wds w A X) (hb : Below w.heap.size w W) : Wds W A X := lines.Strs.below h hb
theorem Wds.cell {w : World} {A : Option Addr} {X : List (List UInt8)} (h : Wds w A X) (hl : 0 < X.length) : ∃ b o, A = some ⟨b, o, none⟩ ∧ b < w.heap.size ∧ ∀ k, k < X.length → w.cell? ⟨b, o + k, none⟩ = some (.string (B (g X k))) := by
  obtain ⟨b, o, e, hb, hc⟩ := h (by intro k; rw [List.map_eq_nil_iff] at k; rw [k] at hl; exact absurd hl (by decide))
  refine ⟨b, o, e, hb, fun k hk => ?_⟩
  have := hc k (by rw [List.length_map]; exact hk)
  rw [this, List.getElem_map]
  unfold g
  rw [List.getD_eq_getElem?_getD, List.getElem?_eq_getElem hk]
  rfl
def Small (X : List (List UInt8)) : Prop := X.length < 4294967281 ∧ ∀ k, (g X k).length < 4294967281
theorem lit_is (x : List UInt8) (c : List UInt8) : ((B x).toList == c) = decide (x = c) := by
  rw [ByteArray.toList_eq, Bool.eq_iff_iff, beq_iff_eq, decide_eq_true_eq]
  show L (B x) = c ↔ x = c
  rw [L_B]
theorem head_g (X : List (List UInt8)) : X.headD [] = g X 0 := by cases X <;> rfl
set_option maxHeartbeats 2000000 in
theorem kind_at (X : List (List UInt8)) (A : Option Addr) (c : Nat) (w : World) (h : Wds w A X) (hx : Small X) : Calls Tryz.prog 18 #[.slice A X.length c] w fun e w' => e = .returned (.int .i64 (kd X : Nat)) ∧ Below w.heap.size w w' := by
  by_cases h0 : X.length = 0
  · obtain rfl := List.eq_nil_of_length_eq_zero h0
    have E : Hid (kd ([] : List (List UInt8)) = 0) := rfl
    clear h hx h0
    rw [show (([] : List (List UInt8)).length) = 0 from rfl]
    go_enter Tryz.func18, Tryz.ntmps18
    go_wp2
    go_ret
    exact ⟨rfl, Below.refl _ _⟩
  · obtain ⟨b, o, rfl, hb, hc⟩ := h.cell (by omega)
    have hl : 0 < X.length := by omega
    have c0 := hc 0 hl
    rw [Nat.add_zero] at c0
    have FO := Lib.hid (lines.fold_at (B (g X 0)) w (by rw [B_size]; exact hx.2 0))
    unfold foldS at FO
    rw [L_B, show (g X 0).map fld = fw X from by unfold fw; rw [head_g]] at FO
    have n0 : ((X.length : Int) == 0) = false := by rw [beq_eq_false_iff_ne]; omega
    have e1 : ((B (fw X)).toList == [108, 101, 97, 112]) = decide (fw X = leapL) := lit_is _ _
    have e2 : ((B (fw X)).toList == [101, 120, 112, 105, 114, 101, 115]) = decide (fw X = expL) := lit_is _ _
    have hne : X ≠ [] := by rintro rfl; exact absurd hl (by decide)
    have E : Hid (kd X = if fw X = leapL ∧ X.length = 7 then 1 else if fw X = expL ∧ X.length = 5 then 2 else 3) := by
      show _ = _
      unfold kd
      rw [if_neg hne]
    generalize kd X = K at *
    have hln := hx.1
    clear h hc hx hne h0
    generalize B (g X 0) = y at *
    generalize X.length = n at *
    by_cases q1 : fw X = leapL
    · have q2 : ¬ fw X = expL := by rw [q1]; decide
      rw [decide_eq_true q1] at e1
      rw [decide_eq_false q2] at e2
      by_cases q3 : n = 7
      · subst q3
        obtain rfl : K = 1 := by rw [E.out, if_pos ⟨q1, rfl⟩]
        clear E q1 q2
        generalize B (fw X) = z at *
        go_enter Tryz.func18, Tryz.ntmps18
        go_wp2_with (go_at_call 32; with_reducible refine FO.out.mono ?_; rintro e w1 ⟨rfl, hb1⟩)
        go_ret
        exact ⟨rfl, hb1⟩
      · have t7 : ((n : Int) == 7) = false := by simp; omega
        obtain rfl : K = 3 := by rw [E.out, if_neg (fun k => q3 k.2), if_neg (fun k => q2 k.1)]
        clear E q1 q2
        generalize B (fw X) = z at *
        go_enter Tryz.func18, Tryz.ntmps18
        go_wp2_with (go_at_call 32; with_reducible refine FO.out.mono ?_; rintro e w1 ⟨rfl, hb1⟩)
        go_ret
        exact ⟨rfl, hb1⟩
    · rw [decide_eq_false q1] at e1
      by_cases q2 : fw X = expL
      · rw [decide_eq_true q2] at e2
        by_cases q3 : n = 5
        · subst q3
          obtain rfl : K = 2 := by rw [E.out, if_neg (fun k => q1 k.1), if_pos ⟨q2, rfl⟩]
          clear E q1 q2
          generalize B (fw X) = z at *
          go_enter Tryz.func18, Tryz.ntmps18
          go_wp2_with (go_at_call 32; with_reducible refine FO.out.mono ?_; rintro e w1 ⟨rfl, hb1⟩)
          go_ret
          exact ⟨rfl, hb1⟩
        · have t5 : ((n : Int) == 5) = false := by simp; omega
          obtain rfl : K = 3 := by rw [E.out, if_neg (fun k => q1 k.1), if_neg (fun k => q3 k.2)]
          clear E q1 q2
          generalize B (fw X) = z at *
          go_enter Tryz.func18, Tryz.ntmps18
          go_wp2_with (go_at_call 32; with_reducible refine FO.out.mono ?_; rintro e w1 ⟨rfl, hb1⟩)
          go_ret
          exact ⟨rfl, hb1⟩
      · rw [decide_eq_false q2] at e2
        obtain rfl : K = 3 := by rw [E.out, if_neg (fun k => q1 k.1), if_neg (fun k => q2 k.1)]
        clear E q1 q2
        generalize B (fw X) = z at *
        go_enter Tryz.func18, Tryz.ntmps18
        go_wp2_with (go_at_call 32; with_reducible refine FO.out.mono ?_; rintro e w1 ⟨rfl, hb1⟩)
        go_ret
        exact ⟨rfl, hb1⟩
theorem ret_bb {a b c d : Bool} (h1 : a = b) (h2 : c = d) : Ending.returned (.tuple #[.bool a, .bool c]) = .returned (.tuple #[.bool b, .bool d]) := by rw [h1, h2]
set_option maxHeartbeats 1000000 in
theorem readKind_at (x : List UInt8) (w : World) (hx : x.length < 4294967281) : Calls Tryz.prog 45 #[.string (B x)] w fun e w' => e = .returned (.tuple #[.bool (rkR x), .bool (rkT x)]) ∧ Below w.heap.size w w' := by
  have FO := Lib.hid (lines.fold_at (B x) w (by rw [B_size]; exact hx))
  unfold foldS at FO
  rw [L_B] at FO
  have P1 : Hid (∀ W, Calls Tryz.prog 33 #[.string ⟨#[114, 111, 108, 108, 105, 110, 103]⟩, .string (B (x.map fld))] W fun e w' => e = .returned (.bool (rkR x)) ∧ W = w') := fun W => pre_at rollL _ W
  have P2 : Hid (∀ W, Calls Tryz.prog 33 #[.string ⟨#[115, 116, 97, 116, 105, 111, 110, 97, 114, 121]⟩, .string (B (x.map fld))] W fun e w' => e = .returned (.bool ((x.map fld).isPrefixOf statL)) ∧ W = w') := fun W => pre_at statL _ W
  have E : Hid (rkT x = (rkR x || (x.map fld).isPrefixOf statL)) := rfl
  generalize B x = s at *
  generalize rkT x = t at *
  generalize (x.map fld).isPrefixOf statL = q at *
  generalize B (x.map fld) = y at *
  cases hr : rkR x with
  | true =>
    rw [hr] at P1 E
    go_enter Tryz.func45, Tryz.ntmps45
    go_wp2_with (first
      | (go_at_call 32; with_reducible refine FO.out.mono ?_; rintro e w1 ⟨rfl, hb1⟩)
      | (go_at_call 33; with_reducible refine (P1.out _).mono ?_; rintro e w2 ⟨rfl, rfl⟩))
    go_ret2
    exact ⟨ret_bb rfl E.out.symm, hb1⟩
  | false =>
    rw [hr] at P1 E
    go_enter Tryz.func45, Tryz.ntmps45
    go_wp2_with (first
      | (go_at_call 32; with_reducible refine FO.out.mono ?_; rintro e w1 ⟨rfl, hb1⟩)
      | (go_at_call 33; first
        | (with_reducible refine (P1.out _).mono ?_; rintro e w2 ⟨rfl, rfl⟩; clear P1)
        | (with_reducible refine (P2.out _).mono ?_; rintro e w3 ⟨rfl, rfl⟩)))
    go_ret2
    exact ⟨ret_bb rfl E.out.symm, hb1⟩

/-! a day and a second -/
theorem number_at (y m d : Int) (W : World) (T : day.Tabs W) : Calls Tryz.prog 71 #[.int .i64 y, .int .i64 m, .int .i64 d] W fun e w' => e = .returned (.tuple #[.int .i64 (if vldB y m d = true then num y m d else 0), .bool (vldB y m d)]) ∧ W = w' := by
  cases h : vldB y m d with
  | true =>
    rw [if_pos rfl]
    exact day.number_yes y m d W T ((vldB_iff _ _ _).1 h)
  | false =>
    rw [if_neg (by decide)]
    exact day.number_no y m d W T (fun k => by rw [(vldB_iff _ _ _).2 k] at h; cases h)
/-- the cells of a moment. -/
def mc (b : Bool) (n s : Int) : Array Value := #[.bool b, .int .i64 n, .int .i64 s]
theorem mc_one (b : Bool) (n s : Int) : (mc b n s).all (·.oneCell') = true := by simp [mc, Value.oneCell']
theorem szM : (Tryz.prog.info? 73).map (·.size) = some 3 := by kernel_rfl
def oN (X : List (List UInt8)) : Int := if moT X = true then moN X else 0
def oS (X : List (List UInt8)) : Int := if moT X = true then moS X else 0
set_option maxHeartbeats 4000000 in
theorem moment_at (X : List (List UInt8)) (hX : X.length = 4) (A : Option Addr) (c : Nat) (w : World) (T : day.Tabs w) (TM : lines.ML w) (TN : Nm w) (h : Wds w A X) (hx : Small X) :
    Calls Tryz.prog 44 #[.slice A 4 c] w fun e w' => e = .returned (.tuple #[.agg (mc (moT X && moD X) (oN X) (oS X)), .bool (moT X)]) ∧ Below w.heap.size w w' := by
  obtain ⟨b, o, rfl, hb, hc⟩ := h.cell (by omega)
  have g0 : Below w.heap.size w (w.alloc (.cells #[.bool false, .int .i64 0, .int .i64 0] 73)) := bal (Below.refl _ _) _
  have box := hp_new w (.cells #[.bool false, .int .i64 0, .int .i64 0] 73)
  have CC : ∀ k, k < 4 → ∀ W, Below w.heap.size w W → W.cell? ⟨b, o + k, none⟩ = some (.string (B (g X k))) := fun k hk W hW => (hW.cell (World.block_lt_of_cell? w _ (hc k (by omega)))).trans (hc k (by omega))
  have C0 := Lib.hid (CC 0 (by omega))
  have C1 := Lib.hid (CC 1 (by omega))
  have C2 := Lib.hid (CC 2 (by omega))
  have C3 := Lib.hid (CC 3 (by omega))
  rw [Nat.add_zero] at C0
  have s0 := hx.2 0
  have s1 := hx.2 1
  have s2 := hx.2 2
  have s3 := hx.2 3
  have N0 : Hid (∀ W, Calls Tryz.prog 68 #[.string (B (g X 0))] W fun e w' => e = .returned (.tuple #[.int .i64 (nmI (g X 0)), .bool (nmT (g X 0))]) ∧ Below W.heap.size W w') := fun W => by
    have := lines.number_at (B (g X 0)) W (by rw [B_size]; exact s0)
    unfold lines.NTold at this
    rw [L_B] at this
    exact this
  have N2 : Hid (∀ W, Calls Tryz.prog 68 #[.string (B (g X 2))] W fun e w' => e = .returned (.tuple #[.int .i64 (nmI (g X 2)), .bool (nmT (g X 2))]) ∧ Below W.heap.size W w') := fun W => by
    have := lines.number_at (B (g X 2)) W (by rw [B_size]; exact s2)
    unfold lines.NTold at this
    rw [L_B] at this
    exact this
  have M1 : Hid (∀ W, Below w.heap.size w W → Calls Tryz.prog 10 #[.string (B (g X 1))] W fun e w' => e = .returned (.tuple #[.int .i64 (mon (g X 1)), .bool (decide (mon (g X 1) ≠ 0))]) ∧ Below W.heap.size W w') := fun W hW => by
    have := month_at (B (g X 1)) W (TN.below hW) (by rw [B_size]; exact s1)
    rw [L_B] at this
    exact this
  have K3 : Hid (∀ W, Below w.heap.size w W → Calls Tryz.prog 12 #[.string (B (g X 3))] W fun e w' => e = .returned (.tuple #[.int .i64 (clkI (g X 3)), .bool (clkT (g X 3))]) ∧ Below W.heap.size W w') := fun W hW => clock_at _ W (TM.below hW) s3
  have D := Lib.hid (fun W (hW : Below w.heap.size w W) => number_at (nmI (g X 0)) (mon (g X 1)) (nmI (g X 2)) W (T.below hW))
  have ET : Hid (moT X = (nmT (g X 0) && (decide (mon (g X 1) ≠ 0) && (nmT (g X 2) && clkT (g X 3))))) := rfl
  have ED : Hid (moD X = vldB (nmI (g X 0)) (mon (g X 1)) (nmI (g X 2))) := rfl
  have EN : Hid (oN X = if moT X = true then (if vldB (nmI (g X 0)) (mon (g X 1)) (nmI (g X 2)) = true then num (nmI (g X 0)) (mon (g X 1)) (nmI (g X 2)) else 0) else 0) := rfl
  have ES : Hid (oS X = if moT X = true then clkI (g X 3) else 0) := rfl
  generalize moT X = mt at *
  generalize moD X = md at *
  generalize oN X = on at *
  generalize oS X = os at *
  generalize decide (mon (g X 1) ≠ 0) = t1 at *
  generalize (if vldB (nmI (g X 0)) (mon (g X 1)) (nmI (g X 2)) = true then num (nmI (g X 0)) (mon (g X 1)) (nmI (g X 2)) else 0) = dn at *
  generalize vldB (nmI (g X 0)) (mon (g X 1)) (nmI (g X 2)) = dv at *
  generalize nmI (g X 0) = i0 at *
  generalize nmT (g X 0) = t0 at *
  generalize mon (g X 1) = i1 at *
  generalize nmI (g X 2) = i2 at *
  generalize nmT (g X 2) = t2 at *
  generalize clkI (g X 3) = i3 at *
  generalize clkT (g X 3) = t3 at *
  generalize B (g X 0) = y0 at *
  generalize B (g X 1) = y1 at *
  generalize B (g X 2) = y2 at *
  generalize B (g X 3) = y3 at *
  have R : Hid (∀ W, Below w.heap.size w W → ∀ c, Below w.heap.size w (W.setRow w.heap.size c)) := fun W hW c => bel_setRow hW (Nat.le_refl _) _
  have BX := Lib.hid (fun W (hW : Below (w.alloc (.cells #[.bool false, .int .i64 0, .int .i64 0] 73)).heap.size (w.alloc (.cells #[.bool false, .int .i64 0, .int .i64 0] 73)) W) => kept box hW)
  clear T TM TN hc h hx CC s0 s1 s2 s3 box
  have c0 := C0.out _ g0
  by_cases hm : mt = true
  · subst hm
    have e := ET.out
    obtain ⟨rfl, rfl, rfl, rfl⟩ : t0 = true ∧ t1 = true ∧ t2 = true ∧ t3 = true := by
      revert e
      cases t0 <;> cases t1 <;> cases t2 <;> cases t3 <;> simp
    have e2 : Hid (on = dn ∧ os = i3 ∧ md = dv) := ⟨by rw [EN.out, if_pos rfl], by rw [ES.out, if_pos rfl], ED.out⟩
    clear e ET EN ES ED
    go_enter Tryz.func44, Tryz.ntmps44
    go_wp2_with (first
      | (go_at_call 68; first
        | (with_reducible refine (N0.out _).mono ?_; rintro e w1 ⟨rfl, hb1⟩; have h1 := btr g0 hb1; have c1 := C1.out _ h1; clear N0)
        | (with_reducible refine (N2.out _).mono ?_; rintro e w3 ⟨rfl, hb3⟩; have hb3 := btr hb2 hb3; have h3 := btr g0 hb3; have c3 := C3.out _ h3))
      | (go_at_call 10; with_reducible refine (M1.out _ h1).mono ?_; rintro e w2 ⟨rfl, hb2⟩; have hb2 := btr hb1 hb2; have h2 := btr g0 hb2; have c2 := C2.out _ h2)
      | (go_at_call 12; with_reducible refine (K3.out _ h3).mono ?_; rintro e w4 ⟨rfl, hb4⟩; have hb4 := btr hb3 hb4; have h4 := btr g0 hb4)
      | (go_at_call 71; with_reducible refine (D.out _ h4).mono ?_; rintro e w5 ⟨rfl, rfl⟩; have b5 := Lib.hid (BX.out _ hb4))
      | (refine wpList_store_row rfl 73 (.tmp 2) (.tmp 67) rfl w.heap.size (mc dv dn i3) rfl rfl _ _ b5.out szM rfl (mc_one _ _ _) ?_))
    refine leap.end_pair rfl _ _ w.heap.size 73 (mc dv dn i3) _ _ rfl rfl (setRow_heap _ _ _ _ _ _ b5.out) Tryz.underlying73 szM rfl ?_
    refine ⟨?_, R.out _ h4 _⟩
    rw [e2.out.1, e2.out.2.1, e2.out.2.2]
    rfl
  · have hm : mt = false := by simpa using hm
    subst hm
    have e := ET.out
    have e2 : Hid (on = 0 ∧ os = 0) := ⟨by rw [EN.out, if_neg (by decide)], by rw [ES.out, if_neg (by decide)]⟩
    clear ET EN ES ED D
    cases t0 <;> cases t1 <;> cases t2 <;> cases t3
    all_goals first
      | (simp at e; done)
      | (clear e
         go_enter Tryz.func44, Tryz.ntmps44
         go_wp2_with (first
           | (go_at_call 68; first
             | (with_reducible refine (N0.out _).mono ?_; rintro e w1 ⟨rfl, hb1⟩; have h1 := btr g0 hb1; have c1 := C1.out _ h1; clear N0)
             | (with_reducible refine (N2.out _).mono ?_; rintro e w3 ⟨rfl, hb3⟩; have hb3 := btr hb2 hb3; have h3 := btr g0 hb3; have c3 := C3.out _ h3))
           | (go_at_call 10; with_reducible refine (M1.out _ h1).mono ?_; rintro e w2 ⟨rfl, hb2⟩; have hb2 := btr hb1 hb2; have h2 := btr g0 hb2; have c2 := C2.out _ h2)
           | (go_at_call 12; with_reducible refine (K3.out _ h3).mono ?_; rintro e w4 ⟨rfl, hb4⟩; have hb4 := btr hb3 hb4; have h4 := btr g0 hb4; have b5 := Lib.hid (BX.out _ hb4))
           | (refine wpList_store_row rfl 73 (.tmp 2) (.tmp 56) rfl w.heap.size (mc false 0 0) rfl rfl _ _ b5.out szM rfl (mc_one _ _ _) ?_))
         refine leap.end_pair rfl _ _ w.heap.size 73 (mc false 0 0) _ _ rfl rfl (setRow_heap _ _ _ _ _ _ b5.out) Tryz.underlying73 szM rfl ?_
         refine ⟨?_, R.out _ h4 _⟩
         rw [e2.out.1, e2.out.2]
         rfl)
end Go.Proofs.YtiboijhfieaepaaGreatDoor.zic
