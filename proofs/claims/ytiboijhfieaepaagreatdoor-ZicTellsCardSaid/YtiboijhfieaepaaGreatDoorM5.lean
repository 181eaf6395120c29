/-
  The document's own add of layer 11: a table behind a leap line. Conditions: as said.
-/
import Derived.Test.YtiboijhfieaepaaGreatDoorM4
import Derived.Test.YtiboijhfieaepaaGreatDoorRef09Add
namespace Go.Proofs.YtiboijhfieaepaaGreatDoor.ref11
open Go.ChangeShapes Go.WideShapes Go.ChangeAt Go.RowKit
open lx zs mem cal
open lm (Lp ce)
open leap (tcs Lps szT tcs_one end_pair tcs_cells)
open zic (lit_is)
set_option linter.unusedVariables false
set_option maxRecDepth 100000

def ATold (l' : List Lp) (er : Int) (w : World) (e : Ending) (w' : World) : Prop := ∃ A c, e = .returned (.tuple #[.agg (tcs A l'.length c false 0), .int .i64 er]) ∧ Lps w' A l' ∧ Below w.heap.size w w'
/-- a row of leaps lies in no block of a table. -/
theorem lps_apart {W : World} {A : Option Addr} {l : List Lp} {g n c : Nat} {B : Option Addr} {has : Bool} {x : Int} (h : Lps W A l) (hl : l.length ≠ 0) (hg : W.heap[g]? = some (.cells (tcs B n c has x) 24 (0, 0))) : ∀ b o, A = some ⟨b, o, none⟩ → b ≠ g := by
  intro b o e k
  subst k
  obtain ⟨b', o', e', hlt, hc⟩ := h hl
  rw [e] at e'
  cases e'
  obtain ⟨c0, c1, c2⟩ := hc 0 (by omega)
  rw [Nat.zero_mul, Nat.add_zero] at c0 c1 c2
  rw [row_cell hg] at c0 c1 c2
  unfold tcs at c0 c1 c2
  match o, c0, c1, c2 with
  | 0, c0, c1, c2 => simp at c0
  | 1, c0, c1, c2 => simp at c0
  | 2, c0, c1, c2 => simp at c1
  | o + 3, c0, c1, c2 => simp at c0
theorem lps_row {W : World} {A : Option Addr} {l : List Lp} {g n c : Nat} {B : Option Addr} {has : Bool} {x : Int} {cs : Array Value} (h : Lps W A l) (hg : W.heap[g]? = some (.cells (tcs B n c has x) 24 (0, 0))) : Lps (W.setRow g cs) A l := by
  intro hl
  have hne := lps_apart h hl hg
  obtain ⟨b, o, e, hlt, hc⟩ := h hl
  have hb : (W.setRow g cs).heap[b]? = W.heap[b]? := setRow_other _ _ _ _ (hne b o e)
  refine ⟨b, o, e, by simpa using hlt, fun k hk => ?_⟩
  obtain ⟨c0, c1, c2⟩ := hc k hk
  exact ⟨(World.cell?_of_block (a := ⟨b, _, none⟩) hb).trans c0, (World.cell?_of_block (a := ⟨b, _, none⟩) hb).trans c1, (World.cell?_of_block (a := ⟨b, _, none⟩) hb).trans c2⟩
theorem at_end {w W : World} {A : Option Addr} {l : List Lp} {c : Nat} {er : Int} (hl : Lps W A l) (hg : W.heap[w.heap.size + 1 + 1]? = some (.cells (tcs none 0 0 false 0) 24 (0, 0))) (hb : Below w.heap.size w W) (t : Array Value) :
    ATold l er w (.returned (.tuple #[.agg (tcs A l.length c false 0), .int .i64 er])) (W.setRow (w.heap.size + 1 + 1) t) := ⟨A, c, rfl, lps_row hl hg, bel_setRow hb (by omega) _⟩
theorem row_cells {W : World} {g : Nat} {a b c d e : Int} {s : ByteArray} {r : Bool} (h : W.heap[g]? = some (.cells #[.int .i64 a, .int .i64 b, .int .i64 c, .int .i64 d, .int .i64 e, .string s, .bool r] 51 (0, 0))) :
    W.cell? ⟨g, 0, none⟩ = some (.int .i64 a) ∧ W.cell? ⟨g, 1, none⟩ = some (.int .i64 b) ∧ W.cell? ⟨g, 2, none⟩ = some (.int .i64 c) ∧ W.cell? ⟨g, 3, none⟩ = some (.int .i64 d) ∧ W.cell? ⟨g, 4, none⟩ = some (.int .i64 e) ∧ W.cell? ⟨g, 5, none⟩ = some (.string s) ∧ W.cell? ⟨g, 6, none⟩ = some (.bool r) :=
  ⟨row_cell h 0, row_cell h 1, row_cell h 2, row_cell h 3, row_cell h 4, row_cell h 5, row_cell h 6⟩
noncomputable def adE (l : List Lp) (y m d sec : Int) (neg rl : Bool) : Int := if vldB y m d = false then 9 else if sec ≠ (if neg = true then 86399 else 86400) then 6 else ce (l ++ [(num y m d, if neg = true then -1 else 1, rl)]) false 0
noncomputable def adL (l : List Lp) (y m d sec : Int) (neg rl : Bool) : List Lp := if adE l y m d sec neg rl = 0 then l ++ [(num y m d, if neg = true then -1 else 1, rl)] else l
set_option maxHeartbeats 8000000 in
theorem add_at (l : List Lp) (A : Option Addr) (c : Nat) (k y m d sec : Int) (neg rl : Bool) (w : World) (h : Lps w A l) (hn : l.length ≤ 1000000) :
    Calls Tryz.prog 24 #[.agg #[.slice A l.length c, .bool false, .int .i64 0], .agg #[.int .i64 k, .int .i64 y, .int .i64 m, .int .i64 d, .int .i64 sec, .string (if neg = true then ⟨#[45]⟩ else ⟨#[43]⟩), .bool rl]] w (ATold (adL l y m d sec neg rl) (adE l y m d sec neg rl) w) := by
  have hs1 : ((if neg = true then (⟨#[45]⟩ : ByteArray) else ⟨#[43]⟩).toList == [43]) = !neg := by
    cases neg with
    | true => exact (lit_is [45] [43]).trans (by decide)
    | false => exact (lit_is [43] [43]).trans (by decide)
  have hs2 : ((if neg = true then (⟨#[45]⟩ : ByteArray) else ⟨#[43]⟩).toList == [45]) = neg := by
    cases neg with
    | true => exact (lit_is [45] [45]).trans (by decide)
    | false => exact (lit_is [43] [45]).trans (by decide)
  generalize (if neg = true then (⟨#[45]⟩ : ByteArray) else ⟨#[43]⟩) = sg at *
  have hb2 : Below w.heap.size w (((w.alloc (.cells #[.slice A l.length c, .bool false, .int .i64 0] 24)).alloc (.cells #[.int .i64 k, .int .i64 y, .int .i64 m, .int .i64 d, .int .i64 sec, .string sg, .bool rl] 51)).alloc (.cells #[.slice none 0 0, .bool false, .int .i64 0] 24)) := bal (bal (bal (Below.refl _ _) _) _) _
  have b0 : (((w.alloc (.cells #[.slice A l.length c, .bool false, .int .i64 0] 24)).alloc (.cells #[.int .i64 k, .int .i64 y, .int .i64 m, .int .i64 d, .int .i64 sec, .string sg, .bool rl] 51)).alloc (.cells #[.slice none 0 0, .bool false, .int .i64 0] 24)).heap[w.heap.size]? = some (.cells (tcs A l.length c false 0) 24) := hp_old (hp_old (hp_new w _) _) _
  have b1 : (((w.alloc (.cells #[.slice A l.length c, .bool false, .int .i64 0] 24)).alloc (.cells #[.int .i64 k, .int .i64 y, .int .i64 m, .int .i64 d, .int .i64 sec, .string sg, .bool rl] 51)).alloc (.cells #[.slice none 0 0, .bool false, .int .i64 0] 24)).heap[w.heap.size + 1]? = some (.cells #[.int .i64 k, .int .i64 y, .int .i64 m, .int .i64 d, .int .i64 sec, .string sg, .bool rl] 51) := hp_old (hp_new1 w _ _) _
  have b2 : (((w.alloc (.cells #[.slice A l.length c, .bool false, .int .i64 0] 24)).alloc (.cells #[.int .i64 k, .int .i64 y, .int .i64 m, .int .i64 d, .int .i64 sec, .string sg, .bool rl] 51)).alloc (.cells #[.slice none 0 0, .bool false, .int .i64 0] 24)).heap[w.heap.size + 1 + 1]? = some (.cells (tcs none 0 0 false 0) 24) := by
    have := hp_new1 (w.alloc (.cells #[.slice A l.length c, .bool false, .int .i64 0] 24)) (.cells #[.int .i64 k, .int .i64 y, .int .i64 m, .int .i64 d, .int .i64 sec, .string sg, .bool rl] 51) (.cells #[.slice none 0 0, .bool false, .int .i64 0] 24)
    simp only [World.size_alloc] at this
    exact this
  have h2 := h.below hb2
  go_enter Tryz.func24, Tryz.ntmps24
  go_wp2_with fail
  generalize ((w.alloc (.cells #[.slice A l.length c, .bool false, .int .i64 0] 24)).alloc (.cells #[.int .i64 k, .int .i64 y, .int .i64 m, .int .i64 d, .int .i64 sec, .string sg, .bool rl] 51)).alloc (.cells #[.slice none 0 0, .bool false, .int .i64 0] 24) = W2 at *
  have TC := Lib.hid (fun W (hb : Below W2.heap.size W2 W) => tcs_cells (kept b0 hb))
  have RC := Lib.hid (fun W (hb : Below W2.heap.size W2 W) => row_cells (kept b1 hb))
  have ZC := Lib.hid (fun W (hb : Below W2.heap.size W2 W) => kept b2 hb)
  have HB2 := Lib.hid hb2
  have HL := Lib.hid (fun W (hb : Below W2.heap.size W2 W) => h2.below hb)
  obtain ⟨q0, q1, q2, q3, q4, q5, q6⟩ := RC.out _ (Below.refl _ _)
  have AD := Lib.hid (fun W z hb => ref09.add_at l z A c false 0 W (HL.out W hb) hn)
  unfold ref09.RAdded at AD
  have NX : Hid (∀ z, (leap.nx l z false 0) = if ce (l ++ [z]) false 0 = 0 then l ++ [z] else l) := fun z => rfl
  have AE := Lib.hid (fun (W : World) (A' : Option Addr) (c' : Nat) (l' : List Lp) (er : Int) (hl : Lps W A' l') (hb : Below w.heap.size w W) (hz : Below W2.heap.size W2 W) => at_end (c := c') (er := er) hl (ZC.out W hz) hb)
  clear h h2 b0 b1 b2 hb2
  by_cases v : Vld y m d
  · have NM := Lib.hid (fun W => ref03.number_on (w := W) W (Below.refl _ _) y m d v)
    have hv : vldB y m d = true := (vldB_iff y m d).2 v
    have EE : Hid (adE l y m d sec neg rl = if sec ≠ (if neg = true then 86399 else 86400) then 6 else ce (l ++ [(num y m d, if neg = true then -1 else 1, rl)]) false 0) := by
      show _ = _
      unfold adE
      rw [hv]
      rfl
    have LL : Hid (adL l y m d sec neg rl = if adE l y m d sec neg rl = 0 then l ++ [(num y m d, if neg = true then -1 else 1, rl)] else l) := rfl
    generalize adE l y m d sec neg rl = er at *
    generalize adL l y m d sec neg rl = l' at *
    generalize num y m d = n at *
    clear v hv
    have NUM := True.intro
    cases neg
    · simp only [Bool.not_false, Bool.false_eq_true, if_false] at hs1 EE LL
      by_cases hsec : sec = 86400
      · subst hsec
        have ADz := Lib.hid (fun W hb => AD.out W (n, 1, rl) hb)
        have ee := EE.out
        rw [if_neg (by decide)] at ee
        have ll := LL.out
        subst ee
        rw [← NX.out] at ll
        subst ll
        clear EE LL NX AD
        go_wp2_with (first
          | (go_at_call 25; (with_reducible refine (NM.out _).mono ?_); rintro e w3 ⟨rfl, hb3⟩; obtain ⟨t0, t1, t2⟩ := TC.out _ hb3; clear q0 q1 q2 q3 q4 q5 q6; obtain ⟨q0, q1, q2, q3, q4, q5, q6⟩ := RC.out _ hb3; have HB3 := Lib.hid hb3; have HW3 := Lib.hid (btr HB2.out hb3))
          | (go_at_call 50; (with_reducible refine (ADz.out _ HB3.out).mono ?_); rintro e w4 ⟨A', c', rfl, hl4, hb4⟩; have HB4 := Lib.hid (btr HB3.out hb4); have HW4 := Lib.hid (btr HW3.out hb4); have HL4 := Lib.hid hl4; clear hl4)
          | (refine wpList_store_row rfl 24 (.tmp 4) (.tmp 35) rfl (w.heap.size + 1 + 1) (tcs A' _ c' false 0) rfl rfl 24 _ (ZC.out _ HB4.out) szT rfl (tcs_one _ _ _ _ _) ?_))
        exact end_pair rfl _ _ (w.heap.size + 1 + 1) 24 (tcs A' _ c' false 0) _ (.int .i64 _) rfl rfl (setRow_heap _ _ _ _ _ _ (ZC.out _ HB4.out)) Tryz.underlying24 szT rfl (AE.out _ _ _ _ _ HL4.out HW4.out HB4.out _)
      · have e6 : ((sec : Int) == 86400) = false := by rw [beq_eq_false_iff_ne]; exact hsec
        have ee := EE.out
        rw [if_pos hsec] at ee
        have ll := LL.out.symm
        subst ee
        rw [if_neg (by decide)] at ll
        subst ll
        clear EE LL NX AD hsec
        go_wp2_with (first
          | (go_at_call 25; (with_reducible refine (NM.out _).mono ?_); rintro e w3 ⟨rfl, hb3⟩; obtain ⟨t0, t1, t2⟩ := TC.out _ hb3; clear q0 q1 q2 q3 q4 q5 q6; obtain ⟨q0, q1, q2, q3, q4, q5, q6⟩ := RC.out _ hb3; have HB3 := Lib.hid hb3; have HW3 := Lib.hid (btr HB2.out hb3))
          | (refine wpList_store_row rfl 24 (.tmp 4) (.tmp 53) rfl (w.heap.size + 1 + 1) (tcs A l.length c false 0) rfl rfl 24 _ (ZC.out _ HB3.out) szT rfl (tcs_one _ _ _ _ _) ?_))
        exact end_pair rfl _ _ (w.heap.size + 1 + 1) 24 (tcs A l.length c false 0) _ (.int .i64 6) rfl rfl (setRow_heap _ _ _ _ _ _ (ZC.out _ HB3.out)) Tryz.underlying24 szT rfl (AE.out _ _ _ _ _ (HL.out _ HB3.out) HW3.out HB3.out _)
    · simp only [Bool.not_true, if_true] at hs1 EE LL
      by_cases hsec : sec = 86399
      · subst hsec
        have ADz := Lib.hid (fun W hb => AD.out W (n, -1, rl) hb)
        have ee := EE.out
        rw [if_neg (by decide)] at ee
        have ll := LL.out
        subst ee
        rw [← NX.out] at ll
        subst ll
        clear EE LL NX AD
        go_wp2_with (first
          | (go_at_call 25; (with_reducible refine (NM.out _).mono ?_); rintro e w3 ⟨rfl, hb3⟩; obtain ⟨t0, t1, t2⟩ := TC.out _ hb3; clear q0 q1 q2 q3 q4 q5 q6; obtain ⟨q0, q1, q2, q3, q4, q5, q6⟩ := RC.out _ hb3; have HB3 := Lib.hid hb3; have HW3 := Lib.hid (btr HB2.out hb3))
          | (go_at_call 50; (with_reducible refine (ADz.out _ HB3.out).mono ?_); rintro e w4 ⟨A', c', rfl, hl4, hb4⟩; have HB4 := Lib.hid (btr HB3.out hb4); have HW4 := Lib.hid (btr HW3.out hb4); have HL4 := Lib.hid hl4; clear hl4)
          | (refine wpList_store_row rfl 24 (.tmp 4) (.tmp 51) rfl (w.heap.size + 1 + 1) (tcs A' _ c' false 0) rfl rfl 24 _ (ZC.out _ HB4.out) szT rfl (tcs_one _ _ _ _ _) ?_))
        exact end_pair rfl _ _ (w.heap.size + 1 + 1) 24 (tcs A' _ c' false 0) _ (.int .i64 _) rfl rfl (setRow_heap _ _ _ _ _ _ (ZC.out _ HB4.out)) Tryz.underlying24 szT rfl (AE.out _ _ _ _ _ HL4.out HW4.out HB4.out _)
      · have e6 : ((sec : Int) == 86399) = false := by rw [beq_eq_false_iff_ne]; exact hsec
        have ee := EE.out
        rw [if_pos hsec] at ee
        have ll := LL.out.symm
        subst ee
        rw [if_neg (by decide)] at ll
        subst ll
        clear EE LL NX AD hsec
        go_wp2_with (first
          | (go_at_call 25; (with_reducible refine (NM.out _).mono ?_); rintro e w3 ⟨rfl, hb3⟩; obtain ⟨t0, t1, t2⟩ := TC.out _ hb3; clear q0 q1 q2 q3 q4 q5 q6; obtain ⟨q0, q1, q2, q3, q4, q5, q6⟩ := RC.out _ hb3; have HB3 := Lib.hid hb3; have HW3 := Lib.hid (btr HB2.out hb3))
          | (refine wpList_store_row rfl 24 (.tmp 4) (.tmp 53) rfl (w.heap.size + 1 + 1) (tcs A l.length c false 0) rfl rfl 24 _ (ZC.out _ HB3.out) szT rfl (tcs_one _ _ _ _ _) ?_))
        exact end_pair rfl _ _ (w.heap.size + 1 + 1) 24 (tcs A l.length c false 0) _ (.int .i64 6) rfl rfl (setRow_heap _ _ _ _ _ _ (ZC.out _ HB3.out)) Tryz.underlying24 szT rfl (AE.out _ _ _ _ _ (HL.out _ HB3.out) HW3.out HB3.out _)
  · have NM := Lib.hid (fun W => ref03.number_off (w := W) W (Below.refl _ _) y m d v)
    have hv : vldB y m d = false := by
      cases hq : vldB y m d with
      | false => rfl
      | true => exact absurd ((vldB_iff y m d).1 hq) v
    have ee : adE l y m d sec neg rl = 9 := by
      unfold adE
      rw [hv]
      rfl
    have ll : l = adL l y m d sec neg rl := by
      unfold adL
      rw [ee]
      rfl
    generalize adE l y m d sec neg rl = er at *
    generalize adL l y m d sec neg rl = l' at *
    subst ee
    subst ll
    clear v hv AD NX
    go_wp2_with (first
      | (go_at_call 25; (with_reducible refine (NM.out _).mono ?_); rintro e w3 ⟨rfl, hb3⟩; obtain ⟨t0, t1, t2⟩ := TC.out _ hb3; clear q0 q1 q2 q3 q4 q5 q6; obtain ⟨q0, q1, q2, q3, q4, q5, q6⟩ := RC.out _ hb3; have HB3 := Lib.hid hb3; have HW3 := Lib.hid (btr HB2.out hb3))
      | (refine wpList_store_row rfl 24 (.tmp 4) (.tmp 20) rfl (w.heap.size + 1 + 1) (tcs A l.length c false 0) rfl rfl 24 _ (ZC.out _ HB3.out) szT rfl (tcs_one _ _ _ _ _) ?_))
    exact end_pair rfl _ _ (w.heap.size + 1 + 1) 24 (tcs A l.length c false 0) _ (.int .i64 9) rfl rfl (setRow_heap _ _ _ _ _ _ (ZC.out _ HB3.out)) Tryz.underlying24 szT rfl (AE.out _ _ _ _ _ (HL.out _ HB3.out) HW3.out HB3.out _)
end Go.Proofs.YtiboijhfieaepaaGreatDoor.ref11

/-
  The document's own Parse of layer 11. Conditions: texts of at most 300000 bytes.
-/
namespace Go.Proofs.YtiboijhfieaepaaGreatDoor.ref11
open Go.ChangeShapes Go.WideShapes Go.ChangeAt Go.RowKit
open lx zs mem cal
open lm (Lp ce)
open leap (tcs Lps szT tcs_one tcs_cells)
open zic (fcs fcs_one szF end_two wl pbad lines_len line_size)
set_option linter.unusedVariables false
set_option maxRecDepth 100000

def QTold (o : Out) (w : World) (e : Ending) (w' : World) : Prop :=
  ∃ A c, e = .returned (.tuple #[.agg (tcs A o.lv.length c o.has o.x), .agg (fcs o.line o.code)]) ∧ Lps w' A o.lv ∧ Below w.heap.size w w'
/-- at the head of a line. -/
def QHead (X : List ByteArray) (W1 : World) (at' ex i : Value) (W : World) : Prop :=
  ∃ (k : Nat) (s : S) (A : Option Addr) (c : Nat), at' = .int .i64 (s.xl : Nat) ∧ ex = .int .i64 s.ex ∧ i = .int .i64 (k : Nat) ∧ k ≤ X.length ∧ run ((X.take k).map wl) 0 S0 = ((0, 0), s) ∧
    W.heap[W1.heap.size]? = some (.cells (tcs A s.lv.length c false 0) 24 (0, 0)) ∧ Lps W A s.lv ∧ Below W1.heap.size W1 W
theorem qnext {X : List ByteArray} {W1 W' : World} {k : Nat} {s s' : S} {A : Option Addr} {c : Nat} {x : ByteArray} (hlt : k < X.length) (hx : X[k] = x) (hr : run ((X.take k).map wl) 0 S0 = ((0, 0), s)) (he : stE (wl x) s = 0) (hs : stS (wl x) (k + 1) s = s')
    (ht : W'.heap[W1.heap.size]? = some (.cells (tcs A s'.lv.length c false 0) 24 (0, 0))) (hl : Lps W' A s'.lv) (hb : Below W1.heap.size W1 W') : QHead X W1 (.int .i64 (s'.xl : Nat)) (.int .i64 s'.ex) (.int .i64 ((k : Int) + 1)) W' := by
  refine ⟨k + 1, s', A, c, rfl, rfl, rfl, hlt, ?_, ht, hl, hb⟩
  have h := run_snoc hr he
  rw [List.length_map, List.length_take, Nat.min_eq_left (by omega), hs] at h
  rw [← List.take_append_getElem hlt, List.map_append, List.map_cons, List.map_nil, hx]
  exact h
theorem lps_flt {W : World} {A : Option Addr} {l : List Lp} {g : Nat} {a b : Value} {cs : Array Value} (h : Lps W A l) (hg : W.heap[g]? = some (.cells #[a, b] 29 (0, 0))) : Lps (W.setRow g cs) A l := by
  intro hl
  obtain ⟨b', o, e, hlt, hc⟩ := h hl
  have hne : b' ≠ g := by
    intro k
    subst k
    obtain ⟨c0, c1, c2⟩ := hc 0 (by omega)
    rw [Nat.zero_mul, Nat.add_zero] at c2
    rw [row_cell hg] at c2
    match o, c2 with
    | 0, c2 => simp at c2
    | o + 1, c2 => simp at c2
  have hb : (W.setRow g cs).heap[b']? = W.heap[b']? := setRow_other _ _ _ _ hne
  refine ⟨b', o, e, by simpa using hlt, fun k hk => ?_⟩
  obtain ⟨c0, c1, c2⟩ := hc k hk
  exact ⟨(World.cell?_of_block (a := ⟨b', _, none⟩) hb).trans c0, (World.cell?_of_block (a := ⟨b', _, none⟩) hb).trans c1, (World.cell?_of_block (a := ⟨b', _, none⟩) hb).trans c2⟩
/-- the two results, as they lie. -/
structure QZ (w W : World) : Prop where
  z0 : W.heap[w.heap.size]? = some (.cells (tcs none 0 0 false 0) 24 (0, 0))
  z1 : W.heap[w.heap.size + 1]? = some (.cells (fcs 0 0) 29 (0, 0))
  bel : Below w.heap.size w W
theorem QZ.below {w W W' : World} (h : QZ w W) (hb : Below W.heap.size W W') : QZ w W' := ⟨kept h.z0 hb, kept h.z1 hb, btr h.bel hb⟩
theorem QZ.from {w W1 W' : World} (h : QZ w W1) (hb : Below W1.heap.size W1 W') : QZ w W' := h.below hb
theorem QZ.fl {w W : World} (h : QZ w W) (t : Array Value) : (W.setRow w.heap.size t).heap[w.heap.size + 1]? = some (.cells (fcs 0 0) 29 (0, 0)) := by
  rw [setRow_other _ _ _ _ (by omega)]; exact h.z1
theorem qbad {w W : World} (h : QZ w W) (n : Nat) (e : Int) (t f : Array Value) : QTold (bad n e) w (.returned (.tuple #[.agg (tcs none 0 0 false 0), .agg (fcs n e)])) ((W.setRow w.heap.size t).setRow (w.heap.size + 1) f) :=
  ⟨none, 0, rfl, fun k => absurd rfl k, bel_setRow (bel_setRow h.bel (Nat.le_refl _) _) (by omega) _⟩
theorem qgood {w W : World} (h : QZ w W) {l : List Lp} {A : Option Addr} {c : Nat} {has : Bool} {x : Int} (hl : Lps W A l) (t f : Array Value) : QTold ⟨0, 0, l, has, x⟩ w (.returned (.tuple #[.agg (tcs A l.length c has x), .agg (fcs 0 0)])) ((W.setRow w.heap.size t).setRow (w.heap.size + 1) f) :=
  ⟨A, c, rfl, lps_flt (lps_row hl h.z0) (h.fl _), bel_setRow (bel_setRow h.bel (Nat.le_refl _) _) (by omega) _⟩
/-! what a line does -/
theorem row_bad {ws : List (List UInt8)} (h : kd ws = 3 ∨ (kd ws = 1 ∧ lfT ws = false) ∨ (kd ws = 2 ∧ moT (mo ws) = false)) (s : S) : rowC ws = brow ∧ stE ws s = 2 := by
  unfold rowC stE lE xE
  rcases h with h | ⟨h, q⟩ | ⟨h, q⟩
  · exact ⟨by rw [if_neg (by omega), if_neg (fun k => by have := k.1; omega), if_neg (fun k => by have := k.1; omega)], by rw [if_neg (by omega), if_neg (by omega), if_neg (by omega)]⟩
  · exact ⟨by rw [if_neg (by omega), if_neg (fun k => by rw [q] at k; exact absurd k.2 (by decide)), if_neg (fun k => by have := k.1; omega)], by rw [if_neg (by omega), if_pos h, if_pos q]⟩
  · exact ⟨by rw [if_neg (by omega), if_neg (fun k => by have := k.1; omega), if_neg (fun k => by rw [q] at k; exact absurd k.2 (by decide))], by rw [if_neg (by omega), if_neg (by omega), if_pos h, if_pos (.inl q)]⟩
theorem moD_words (ws : List (List UInt8)) : moD (mo ws) = vldB (nmI (g ws 1)) (mon (g ws 2)) (nmI (g ws 3)) := by
  unfold moD
  rw [g_mo ws 0 (by decide), g_mo ws 1 (by decide), g_mo ws 2 (by decide)]
theorem moN_words (ws : List (List UInt8)) : moN (mo ws) = if vldB (nmI (g ws 1)) (mon (g ws 2)) (nmI (g ws 3)) = true then num (nmI (g ws 1)) (mon (g ws 2)) (nmI (g ws 3)) else 0 := by
  unfold moN
  rw [moD_words, g_mo ws 0 (by decide), g_mo ws 1 (by decide), g_mo ws 2 (by decide)]
theorem moS_words (ws : List (List UInt8)) : moS (mo ws) = clkI (g ws 4) := by unfold moS; rw [g_mo ws 3 (by decide)]
/-- a line of a leap. -/
theorem row_leap {ws : List (List UInt8)} (h : kd ws = 1) (q : lfT ws = true) (s : S) :
    rowC ws = #[.int .i64 1, .int .i64 (nmI (g ws 1)), .int .i64 (mon (g ws 2)), .int .i64 (nmI (g ws 3)), .int .i64 (clkI (g ws 4)), .string (if decide (g ws 5 = [45]) = true then ⟨#[45]⟩ else ⟨#[43]⟩), .bool (rkR (g ws 6))] ∧
    stE ws s = adE s.lv (nmI (g ws 1)) (mon (g ws 2)) (nmI (g ws 3)) (clkI (g ws 4)) (decide (g ws 5 = [45])) (rkR (g ws 6)) ∧
    (stE ws s = 0 → (stS ws 0 s).lv = adL s.lv (nmI (g ws 1)) (mon (g ws 2)) (nmI (g ws 3)) (clkI (g ws 4)) (decide (g ws 5 = [45])) (rkR (g ws 6))) ∧ ∀ a, stS ws a s = { s with lv := s.lv ++ [lpO ws] } := by
  have hsg : g ws 5 = [43] ∨ g ws 5 = [45] := by
    unfold lfT sgT at q
    simp only [Bool.and_eq_true, decide_eq_true_eq] at q
    exact q.2.2
  have hS : ∀ a, stS ws a s = { s with lv := s.lv ++ [lpO ws] } := fun a => by
    unfold stS
    rw [if_pos h, if_neg (by omega), if_neg (by omega)]
  have hE : stE ws s = adE s.lv (nmI (g ws 1)) (mon (g ws 2)) (nmI (g ws 3)) (clkI (g ws 4)) (decide (g ws 5 = [45])) (rkR (g ws 6)) := by
    unfold stE lE adE
    rw [if_neg (by omega), if_pos h, if_neg (by rw [q]; decide), moD_words, moS_words]
    unfold sgn lpO
    rw [moN_words]
    unfold sgn
    by_cases hv : vldB (nmI (g ws 1)) (mon (g ws 2)) (nmI (g ws 3)) = true
    · have hnv : ¬ vldB (nmI (g ws 1)) (mon (g ws 2)) (nmI (g ws 3)) = false := by rw [hv]; decide
      rw [if_neg hnv, if_neg hnv, if_pos hv]
      by_cases hm : g ws 5 = [45]
      · simp only [hm, if_true, decide_true]
      · simp only [hm, if_false, decide_false, Bool.false_eq_true]
        rw [if_neg (show ¬ ((1 : Int) = -1) by decide)]
    · have hv' : vldB (nmI (g ws 1)) (mon (g ws 2)) (nmI (g ws 3)) = false := by simpa using hv
      rw [if_pos hv', if_pos hv']
  refine ⟨?_, hE, fun h0 => ?_, hS⟩
  · unfold rowC
    rw [if_neg (by omega), if_pos ⟨h, q⟩]
    unfold lrow
    rcases hsg with e | e <;> rw [e] <;> rfl
  · rw [hS 0]
    unfold adL
    rw [← hE, if_pos h0]
    have hv : vldB (nmI (g ws 1)) (mon (g ws 2)) (nmI (g ws 3)) = true := by
      cases hq : vldB (nmI (g ws 1)) (mon (g ws 2)) (nmI (g ws 3)) with
      | true => rfl
      | false =>
        rw [hE] at h0
        unfold adE at h0
        rw [if_pos hq] at h0
        cases h0
    show s.lv ++ [lpO ws] = _
    unfold lpO
    rw [moN_words, if_pos hv]
    unfold sgn
    by_cases hm : g ws 5 = [45]
    · simp only [hm, if_true, decide_true]
    · simp only [hm, if_false, decide_false, Bool.false_eq_true]
/-- a line of an expiry. -/
theorem row_exp {ws : List (List UInt8)} (h : kd ws = 2) (q : moT (mo ws) = true) (s : S) :
    rowC ws = #[.int .i64 2, .int .i64 (nmI (g ws 1)), .int .i64 (mon (g ws 2)), .int .i64 (nmI (g ws 3)), .int .i64 (clkI (g ws 4)), .string ⟨#[]⟩, .bool false] ∧
    stE ws s = (if s.xl ≠ 0 then 2 else if vldB (nmI (g ws 1)) (mon (g ws 2)) (nmI (g ws 3)) = false ∨ clkI (g ws 4) = 86400 then 9 else 0) ∧
    ∀ a, stS ws a s = ⟨s.lv, a, moN (mo ws) * 86400 + moS (mo ws)⟩ := by
  refine ⟨?_, ?_, fun a => ?_⟩
  · unfold rowC
    rw [if_neg (by omega), if_neg (fun k => by have := k.1; omega), if_pos ⟨h, q⟩]
    rfl
  · unfold stE xE
    rw [if_neg (by omega), if_neg (by omega), if_pos h, moD_words, moS_words]
    by_cases hx : s.xl ≠ 0
    · rw [if_pos (.inr hx), if_pos hx]
    · rw [if_neg (fun k => by rcases k with k | k; rw [q] at k; exact absurd k (by decide); exact hx k), if_neg hx]
  · unfold stS
    rw [if_neg (by omega), if_pos h, if_pos h]
end Go.Proofs.YtiboijhfieaepaaGreatDoor.ref11
