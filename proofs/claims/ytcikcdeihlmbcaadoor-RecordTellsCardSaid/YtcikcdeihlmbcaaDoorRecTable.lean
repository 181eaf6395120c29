/-
  What record's Table answers of right records. Conditions: the tables of package day hold what their initialisers lay; the slice reads as the row of records, and they are right.
-/
import Derived.Test.YtcikcdeihlmbcaaDoorRecWrite
namespace Go.Proofs.YtcikcdeihlmbcaaDoor.rec
open Go.ChangeShapes Go.WideShapes Go.ChangeAt Go.RowKit
open rm mem
open lm (Lp dy tot ce)
open leap (Lps rl tcs tcs_cells tcs_set tcs_frozen pcs pcs_len pcs_app pcs_one infoL Own szT tcs_one)
set_option linter.unusedVariables false
set_option maxRecDepth 100000

/-- a row of leaps of a call's own. -/
def LRow (w : World) (B : Nat) (v : Value) (l : List Lp) : Prop := w.ownsRow B 47 3 v l.length (pcs l)
theorem LRow.slice {w : World} {B : Nat} {v : Value} {l : List Lp} (h : LRow w B v l) : ∃ A c, v = .slice A l.length c ∧ Lps w A l ∧ l.length ≤ c := by
  have h0 := h
  rcases h.2 with ⟨rfl, hn⟩ | ⟨g, cap, cur, rfl, hb, hh, hnc, _, _, ht⟩
  · rw [hn]
    exact ⟨none, 0, rfl, fun hl => absurd hn hl, Nat.le_refl _⟩
  · exact ⟨_, _, rfl, Own.lps ⟨cur, hh, ht⟩, hnc⟩
theorem LRow.slice' {w : World} {B m : Nat} {v : Value} {l : List Lp} (h : LRow w B v l) (hm : l.length = m) : ∃ A c, v = .slice A m c := by
  obtain ⟨A, c, e, _⟩ := h.slice
  rw [hm] at e
  exact ⟨A, c, e⟩
theorem LRow.setCell {w : World} {B : Nat} {v : Value} {l : List Lp} (h : LRow w B v l) {g : Nat} (hg : g < B) (o : Nat) (u : Value) : LRow (w.setCell ⟨g, o, none⟩ u) B v l := by
  refine ⟨h.1, ?_⟩
  rcases h.2 with e | ⟨N, cap, cur, e, hb', hh, a⟩
  · exact Or.inl e
  · exact Or.inr ⟨N, cap, cur, e, hb', (heap_setCell_other _ ⟨g, o, none⟩ _ _ (by show N ≠ g; omega)).trans hh, a⟩
theorem LRow.below {w W : World} {B : Nat} {v : Value} {l : List Lp} (h : LRow w B v l) (hb : Below w.heap.size w W) : LRow W B v l := by
  refine ⟨h.1, ?_⟩
  rcases h.2 with e | ⟨g, cap, cur, e, hb', hh, a⟩
  · exact Or.inl e
  · exact Or.inr ⟨g, cap, cur, e, hb', kept hh hb, a⟩
theorem LRow.setRow {w : World} {B : Nat} {v : Value} {l : List Lp} (h : LRow w B v l) {g : Nat} (hg : g < B) (c : Array Value) : LRow (w.setRow g c) B v l := by
  refine ⟨h.1, ?_⟩
  rcases h.2 with e | ⟨N, cap, cur, e, hb', hh, a⟩
  · exact Or.inl e
  · exact Or.inr ⟨N, cap, cur, e, hb', (setRow_other _ _ _ _ (by omega)).trans hh, a⟩
theorem lk_done {W : World} {B : Nat} {A : Option Addr} {l : List Cr} {c : Nat} (h : LRow W B (.slice A (nl l) c) (lkF l (nl l))) : Lps W A (lk l) ∧ (lk l).length ≤ c ∧ (∀ a, A = some a → B ≤ a.block) := by
  obtain ⟨A2, c2, e2, h2, h3⟩ := h.slice
  rw [lkF_len] at e2
  cases e2
  refine ⟨h2, h3, fun a ha => ?_⟩
  exact (World.ownsRow.lt h a.block (by subst ha; rfl)).1
theorem lps_setRow {W : World} {A : Option Addr} {l : List Lp} (h : Lps W A l) (g : Nat) (hne : ∀ a, A = some a → a.block ≠ g) (C : Array Value) : Lps (W.setRow g C) A l := by
  intro h0
  obtain ⟨b, o, e, hb3, hcc⟩ := h h0
  refine ⟨b, o, e, by simpa using hb3, fun q hq => ?_⟩
  have nb : b ≠ g := hne _ e
  have cs : ∀ j, (W.setRow g C).cell? ⟨b, j, none⟩ = W.cell? ⟨b, j, none⟩ := fun j => by
    have e := setRow_other W g b C nb
    unfold World.cell?
    rw [e]
  rw [cs, cs, cs]
  exact hcc q hq
theorem tcs_set1 {W : World} {g : Nat} {A : Option Addr} {n c : Nat} {has h2 : Bool} {x : Int} (h : W.heap[g]? = some (.cells (tcs A n c has x) 24)) :
    (W.setCell ⟨g, 1, none⟩ (.bool h2)).heap[g]? = some (.cells (tcs A n c h2 x) 24) := heap_setCell_same W g 1 _ _ _ h
theorem tcs_set2 {W : World} {g : Nat} {A : Option Addr} {n c : Nat} {has : Bool} {x y : Int} (h : W.heap[g]? = some (.cells (tcs A n c has x) 24)) :
    (W.setCell ⟨g, 2, none⟩ (.int .i64 y)).heap[g]? = some (.cells (tcs A n c has y) 24) := heap_setCell_same W g 2 _ _ _ h
theorem tcs_frozenAt {W : World} {g : Nat} {A : Option Addr} {n c : Nat} {has : Bool} {x : Int} (h : W.heap[g]? = some (.cells (tcs A n c has x) 24)) (j : Nat) : W.frozen? ⟨g, j, none⟩ = false := by
  simp [World.frozen?, h]
theorem cell_three (w : World) (x y z : Value) (t : TypeId) : ∀ j u, [x, y, z][j]? = some u → (w.alloc (.cells #[x, y, z] t)).cell? ((⟨w.heap.size, 0, none⟩ : Addr).add j) = some u := by
  intro j u hj
  rw [Addr.add_mid, Nat.zero_add, row_cell (hp_new w (.cells #[x, y, z] t)) j]
  simpa using hj
/-- 'all = append(all, y)', all a row of leaps of the call's own. -/
theorem app_leap {ops : Array Oper} {rest : List Oper} {o : Oper} {a : Act} {Q : Exit → Act → World → Prop} (hgd : o.guard = none) (s x : Operand)
    (ho : o.op = .call { callee := .builtin .append, args := #[s, x], argTypes := #[22, 22] }) (base : Nat) (W : World) (v : Value) (ls : List Lp) (y0 y1 : Int) (y2 : Bool) (N : Nat)
    (hs : a.eval s = v) (hx : a.eval x = .slice (some ⟨N, 0, none⟩) 1 1) (hN : W.heap.size = N) (hown : LRow W base v ls) (hn : ls.length < 8000000000) (hbase : base ≤ W.heap.size)
    (h : ∀ v' w', LRow w' base v' (ls ++ [(y0, y1, y2)]) → W.grownBy w' v.ownBlock → wpList Tryd.prog ops Q rest (a.put o.dst v') w') :
    wpList Tryd.prog ops Q (o :: rest) a (W.alloc (.cells #[.int .i64 y0, .int .i64 y1, .bool y2] 47)) := by
  subst hN
  obtain ⟨i0, hi, hz0, hz1, hz2⟩ := info_parts infoL
  refine wpList_append_own _ hgd s x 22 ho base 47 i0 _ 3 24 Tryd.underlying22 hi hz0 hz1 hz2 rfl (by decide) v ls.length (pcs ls) hs (World.ownsRow.alloc hown _) ⟨W.heap.size, 0, none⟩ 1 1 [.int .i64 y0, .int .i64 y1, .bool y2] hx rfl (cell_three _ _ _ _ _) (pcs_one [(y0, y1, y2)]) ?_ (by omega) (by simp; omega) ?_
  · unfold maxLen; omega
  · intro v' w' h1 h2 _
    refine h v' w' ?_ ((World.grownBy_alloc W _ _).trans h2)
    unfold LRow
    rw [pcs_app, List.length_append]
    exact h1
theorem wrap_hi (z : Int) (h1 : 9223372036854775807 < z) (h2 : z ≤ 18446744073709551615) : IntKind.i64.wrap z = z - 18446744073709551616 := by
  unfold IntKind.wrap
  simp [IntKind.signed, IntKind.bits]
  omega
theorem tdiv_bd (M : Int) (h1 : -9223372036854775808 ≤ M) (h2 : M ≤ 9223372036854775807) : -106751991167301 ≤ M.tdiv 86400 ∧ M.tdiv 86400 ≤ 106751991167301 := by
  by_cases h : 0 ≤ M
  · rw [Int.tdiv_eq_ediv_of_nonneg h]; omega
  · obtain ⟨N, rfl⟩ : ∃ N : Int, M = -N := ⟨-M, by omega⟩
    rw [Int.neg_tdiv, Int.tdiv_eq_ediv_of_nonneg (by omega)]; omega
/-- at the head of a round of likely. -/
def KHead (l : List Cr) (w : World) (i : Value) (W : World) : Prop :=
  ∃ k A' c', k ≤ nl l ∧ i = .int .i64 (k : Nat) ∧ Below w.heap.size w W ∧ W.heap[w.heap.size]? = some (.cells (tcs none 0 0 false 0) 24) ∧ W.heap[w.heap.size + 1]? = some (.cells (tcs A' k c' false 0) 24) ∧ LRow W (w.heap.size + 1 + 1) (.slice A' k c') (lkF l k)
def Likely (l : List Cr) (w : World) (e : Ending) (w' : World) : Prop :=
  ∃ A' c', e = .returned (.agg (tcs A' (lk l).length c' (hasX l) (lkx l))) ∧ Lps w' A' (lk l) ∧ (lk l).length ≤ c' ∧ (∀ a, A' = some a → w.heap.size ≤ a.block) ∧ Below w.heap.size w w'
set_option maxHeartbeats 4000000 in
theorem likely_at (l : List Cr) (A : Option Addr) (c : Nat) (w : World) (h : Crs w A l) (hg : rm.Ok l) (hc : l.length ≤ c) :
    Calls Tryd.prog 40 #[.slice A l.length c] w (Likely l w) := by
  have hn := h.1.2
  have hlen := hg.len
  have hnl := nl_le l
  have hb2 : Below w.heap.size w ((w.alloc (.cells #[.slice none 0 0, .bool false, .int .i64 0] 24)).alloc (.cells #[.slice none 0 0, .bool false, .int .i64 0] 24)) := bal (bal (Below.refl _ _) _) _
  have LV := Lib.hid (leaps_at l A c _ (h.below hb2) hc)
  have HB := Lib.hid hb2
  have k0 : ((w.alloc (.cells #[.slice none 0 0, .bool false, .int .i64 0] 24)).alloc (.cells #[.slice none 0 0, .bool false, .int .i64 0] 24)).heap[w.heap.size]? = some (.cells (tcs none 0 0 false 0) 24) := hp_old (hp_new _ _) _
  have k1 : ((w.alloc (.cells #[.slice none 0 0, .bool false, .int .i64 0] 24)).alloc (.cells #[.slice none 0 0, .bool false, .int .i64 0] 24)).heap[w.heap.size + 1]? = some (.cells (tcs none 0 0 false 0) 24) := hp_new1 w _ _
  have K0 := Lib.hid (fun w1 (hb1 : Below ((w.alloc (.cells #[.slice none 0 0, .bool false, .int .i64 0] 24)).alloc (.cells #[.slice none 0 0, .bool false, .int .i64 0] 24)).heap.size ((w.alloc (.cells #[.slice none 0 0, .bool false, .int .i64 0] 24)).alloc (.cells #[.slice none 0 0, .bool false, .int .i64 0] 24)) w1) => (⟨kept k0 hb1, kept k1 hb1⟩ : _ ∧ _))
  have h_fit := h.1.1
  have HA := Lib.hid h
  have XP := Lib.hid (fun W hb => expiry_at l A c W (h.below (w := w) (W := W) hb))
  have SA := Lib.hid (fun k hk W hb => ahead_at l A c k W (h.below (w := w) (W := W) hb) hk)
  have SL : Hid (∀ k, k < nl l → ∀ W, Below w.heap.size w W → Calls Tryd.prog 45 #[.slice A (nl l) c, .int .i64 k] W fun e w' => e = .returned (.int .i64 (ahd l k)) ∧ Below W.heap.size W w') := fun k hk W hb => by
    have := ahead_at (lvs l) A c k W ((h.below hb).take (nl l) hnl) (by rw [lvs_len]; omega)
    rw [lvs_len, ahd_lvs l (by omega)] at this
    exact this
  clear h k0 k1 hb2
  go_enter Tryd.func40, Tryd.ntmps40
  go_wp2_with (go_at_call 42; with_reducible refine (LV.out).mono ?_; rintro e w1 ⟨rfl, hb1⟩; obtain ⟨g0, g1⟩ := K0.out _ hb1)
  go_loopw [16] (fun i W => KHead l w i W) (fun i _ => nl l - (intOf i).toNat)
  case atStart => exact ⟨0, none, 0, Nat.zero_le _, rfl, btr HB.out hb1, g0, g1, rfl, Or.inl ⟨rfl, rfl⟩⟩
  case round =>
    obtain ⟨k, A', c', hk, rfl, hb, H0, H1, ho⟩ := hrel
    clear K0 LV g0 g1
    have hbs : w.heap.size + 1 + 1 ≤ wr.heap.size := hp_lt H1
    by_cases hlt : k < nl l
    · have hf := h_fit k
      have hab := hg.ahd (k := k) (by omega)
      have hp := hg.pos (i := k) (by omega)
      have hz := hg.step hlt
      have hfl := lkF_len l k
      obtain ⟨b, o, rfl, hb0, hcc⟩ := (HA.out.below hb).2 (by omega)
      obtain ⟨y0, y1⟩ := hcc k (by omega)
      have S := Lib.hid (fun ob => SL.out k hlt (wr.alloc ob) (bal hb ob))
      have BX := Lib.hid (fun w5 (hb5 : Below (wr.alloc (.cells #[.int .i64 (ra l k), .int .i64 (rc l k)] 44)).heap.size (wr.alloc (.cells #[.int .i64 (ra l k), .int .i64 (rc l k)] 44)) w5) =>
        (⟨row_cell (kept (hp_new wr _) hb5) 0, row_cell (kept (hp_new wr _) hb5) 1, (tcs_cells (kept (hp_old H1 _) hb5)).1, by have := hb5.size; simp at this; omega⟩ : w5.cell? ⟨wr.heap.size, 0, none⟩ = some (.int .i64 (ra l k)) ∧ w5.cell? ⟨wr.heap.size, 1, none⟩ = some (.int .i64 (rc l k)) ∧ w5.cell? ⟨w.heap.size + 1, 0, none⟩ = some (.slice A' k c') ∧ w.heap.size + 1 + 1 ≤ w5.heap.size))
      have BR := Lib.hid (fun w5 (hb5 : Below (wr.alloc (.cells #[.int .i64 (ra l k), .int .i64 (rc l k)] 44)).heap.size (wr.alloc (.cells #[.int .i64 (ra l k), .int .i64 (rc l k)] 44)) w5) => LRow.below (W := w5) ho (btr (bal (Below.refl _ _) _) hb5))
      have BG := Lib.hid (fun w5 (hb5 : Below (wr.alloc (.cells #[.int .i64 (ra l k), .int .i64 (rc l k)] 44)).heap.size (wr.alloc (.cells #[.int .i64 (ra l k), .int .i64 (rc l k)] 44)) w5) w6 (hg6 : w5.grownBy w6 (Value.slice A' k c').ownBlock) =>
        (⟨(hg6.block _ (hp_lt (kept (hp_old H0 _) hb5)) (by intro e; have := World.ownsRow.lt (BR.out w5 hb5) _ e.symm; omega)).trans (kept (hp_old H0 _) hb5),
          (hg6.block _ (hp_lt (kept (hp_old H1 _) hb5)) (by intro e; have := World.ownsRow.lt (BR.out w5 hb5) _ e.symm; omega)).trans (kept (hp_old H1 _) hb5)⟩ : w6.heap[w.heap.size]? = some (.cells (tcs none 0 0 false 0) 24) ∧ w6.heap[w.heap.size + 1]? = some (.cells (tcs A' k c' false 0) 24)))
      have R : Hid (∀ A2 c2 w5 w6 p q, p = lkd l k → q = rc l k - ahd l k → Below (wr.alloc (.cells #[.int .i64 (ra l k), .int .i64 (rc l k)] 44)).heap.size (wr.alloc (.cells #[.int .i64 (ra l k), .int .i64 (rc l k)] 44)) w5 →
          LRow w6 (w.heap.size + 1 + 1) (.slice A2 (k + 1) c2) (lkF l k ++ [(p, q, false)]) → w5.grownBy w6 (Value.slice A' k c').ownBlock → KHead l w (.int .i64 ((k : Int) + 1)) (w6.setCell ⟨w.heap.size + 1, 0, none⟩ (.slice A2 (k + 1) c2))) := fun A2 c2 w5 w6 p q ep eq hb5 ho' hg6 => by
        subst ep eq
        obtain ⟨g0, g1⟩ := BG.out w5 hb5 w6 hg6
        have hbz := btr (bal hb _) hb5
        have hbw := hbz.grown hg6 hbz.size (fun j hj => by have := World.ownsRow.lt (BR.out w5 hb5) j hj; omega)
        refine ⟨k + 1, A2, c2, by omega, rfl, hbw.setCell (by show w.heap.size ≤ w.heap.size + 1; omega) _, ?_, tcs_set g1, ?_⟩
        · exact (heap_setCell_other _ ⟨w.heap.size + 1, 0, none⟩ _ _ (by show w.heap.size ≠ w.heap.size + 1; omega)).trans g0
        · rw [lkF_succ]; exact ho'.setCell (by omega) 0 _
      have QD : lkd l k = (mid l k).tdiv 86400 - 1 := rfl
      have QM : mid l k = if ra l k - ahd l k + (if rc l k - ahd l k = -1 then 1 else 0) ≤ 9223372036854775807 then ra l k - ahd l k + (if rc l k - ahd l k = -1 then 1 else 0) else ra l k - ahd l k + (if rc l k - ahd l k = -1 then 1 else 0) - 18446744073709551616 := rfl
      obtain ⟨M0, hM0⟩ : ∃ M0 : Int, M0 = if ra l k - ahd l k ≤ 9223372036854775807 then ra l k - ahd l k else ra l k - ahd l k - 18446744073709551616 := ⟨_, rfl⟩
      have e1 : IntKind.i64.wrap (ra l k - ahd l k) = M0 := by
        rw [hM0]
        split
        · exact IntWalk.i64_in _ (by omega)
        · exact wrap_hi _ (by omega) (by omega)
      clear HA SL hcc ho XP SA
      generalize lkd l k = DD at *
      generalize mid l k = M at *
      generalize lkF l k = L at *
      generalize ahd l k = Y at *
      generalize hrc : rc l k = C at *
      generalize hra : ra l k = X at *
      generalize nl l = m at *
      rcases hz with rfl | rfl
      · have q0 : Y + 1 - Y = 1 := by omega
        have eM : M = M0 := by rw [QM, q0, hM0]; simp
        have tb := tdiv_bd M0 (by rw [hM0]; split <;> omega) (by rw [hM0]; split <;> omega)
        have Q0 : Hid (M0.tdiv 86400 - 1 = DD) := by show _ = _; rw [QD, eM]
        clear QD QM eM hM0 hf hp
        go_wp2_with (first
          | (go_at_call 45; (with_reducible refine ((S.out _).mono ?_)); rintro e w5 ⟨rfl, hb5⟩; obtain ⟨z0, z1, z2, z3⟩ := BX.out _ hb5; have HO := Lib.hid (BR.out _ hb5))
          | (at_builtin; refine app_leap rfl _ _ rfl (w.heap.size + 1 + 1) w5 (.slice A' k c') L _ _ _ _ rfl rfl rfl HO.out (by omega) z3 ?_; intro v' w6 ho' hg6; obtain ⟨A2, c2, rfl⟩ := LRow.slice' (m := k + 1) ho' (by simp; omega); obtain ⟨g0, g1⟩ := BG.out _ hb5 _ hg6; have fz := tcs_frozen g1; obtain ⟨f0, f1, f2⟩ := tcs_cells g1))
        exact ⟨R.out _ _ _ _ _ _ Q0.out (by first | rfl | omega) hb5 ho' hg6, by simp [intOf]; omega⟩
      · have q0 : Y - 1 - Y = -1 := by omega
        have e2 : IntKind.i64.wrap (M0 + 1) = M := by
          rw [QM, q0, if_pos (rfl : (-1 : Int) = -1)]
          by_cases h8 : X - Y + 1 ≤ 9223372036854775807
          · rw [hM0, if_pos (show X - Y ≤ 9223372036854775807 by omega), if_pos h8]; exact IntWalk.i64_in _ (by omega)
          · by_cases h9 : X - Y ≤ 9223372036854775807
            · rw [hM0, if_pos h9, if_neg h8]; exact wrap_hi _ (by omega) (by omega)
            · rw [hM0, if_neg h9, if_neg h8, IntWalk.i64_in _ (by omega)]; omega
        have tb := tdiv_bd M (by rw [QM, q0, if_pos (rfl : (-1 : Int) = -1)]; split <;> omega) (by rw [QM, q0, if_pos (rfl : (-1 : Int) = -1)]; split <;> omega)
        have Q0 : Hid (M.tdiv 86400 - 1 = DD) := by show _ = _; rw [QD]
        clear QD QM hM0 hf hp
        go_wp2_with (first
          | (go_at_call 45; (with_reducible refine ((S.out _).mono ?_)); rintro e w5 ⟨rfl, hb5⟩; obtain ⟨z0, z1, z2, z3⟩ := BX.out _ hb5; have HO := Lib.hid (BR.out _ hb5))
          | (at_builtin; refine app_leap rfl _ _ rfl (w.heap.size + 1 + 1) w5 (.slice A' k c') L _ _ _ _ rfl rfl rfl HO.out (by omega) z3 ?_; intro v' w6 ho' hg6; obtain ⟨A2, c2, rfl⟩ := LRow.slice' (m := k + 1) ho' (by simp; omega); obtain ⟨g0, g1⟩ := BG.out _ hb5 _ hg6; have fz := tcs_frozen g1; obtain ⟨f0, f1, f2⟩ := tcs_cells g1))
        exact ⟨R.out _ _ _ _ _ _ Q0.out (by first | rfl | omega) hb5 ho' hg6, by simp [intOf]; omega⟩
    · obtain rfl : k = nl l := by omega
      have hlk := lk_len l
      have X1 := Lib.hid (XP.out wr hb)
      obtain ⟨b0, b1, b2⟩ := tcs_cells H1
      cases hx : hasX l
      · rw [hx] at X1
        have ex : xat l = 0 := by unfold xat; rw [hx]; rfl
        have ey : lkx l = 0 := by unfold lkx; rw [hx]; rfl
        have R : Hid (∀ W', Below wr.heap.size wr W' → ∀ C, Likely l w (.returned (.agg (tcs A' (nl l) c' false 0))) (W'.setRow w.heap.size C)) := fun W' hb' C => by
          obtain ⟨h2, h3, h4⟩ := lk_done ((ho.below hb').setRow (g := w.heap.size) (by omega) C)
          exact ⟨A', c', by rw [hx, ey, hlk], h2, h3, fun a ha => by have := h4 a ha; omega, bel_setRow (btr hb hb') (Nat.le_refl _) _⟩
        have KX := Lib.hid (fun W' (hb' : Below wr.heap.size wr W') => (⟨kept H0 hb', kept H1 hb'⟩ : _ ∧ _))
        rw [ex] at X1
        clear HA SL XP SA H0 H1 ho ex ey hx hlk hlt hk b0 b1 b2
        generalize nl l = m at *
        generalize l.length = n at *
        go_wp2_with (first
          | (go_at_call 19; (with_reducible refine (X1.out).mono ?_); rintro e w5 ⟨rfl, hb5⟩; have k0 := Lib.hid (KX.out _ hb5).1; have k1 := Lib.hid (KX.out _ hb5).2; obtain ⟨b0, b1, b2⟩ := tcs_cells k1.out)
          | (refine wpList_store_row rfl 24 (.tmp 2) (.tmp 62) rfl w.heap.size (tcs A' m c' false 0) rfl rfl 24 _ k0.out szT rfl (tcs_one _ _ _ _ _) ?_))
        exact end_row Tryd.results40 _ _ w.heap.size 24 (tcs A' m c' false 0) _ rfl (setRow_heap _ _ _ _ _ _ k0.out) Tryd.underlying24 szT rfl (R.out _ hb5 _)
      · rw [hx] at X1
        have hy := nl_yes hx
        have ex : xat l = ra l (nl l) := by unfold xat; rw [hx, if_pos rfl, ← hy, Nat.add_sub_cancel]
        have ey : IntKind.i64.wrap (ra l (nl l) - ahd l (nl l)) = lkx l := by
          have hab := hg.ahd (k := nl l) hnl
          have hp := hg.pos (i := nl l) (by omega)
          have hf := h_fit (nl l)
          unfold lkx
          rw [hx, if_pos rfl]
          split
          · exact IntWalk.i64_in _ (by omega)
          · exact wrap_hi _ (by omega) (by omega)
        rw [ex] at X1
        have S1 := Lib.hid (SA.out (nl l) hnl)
        have hln : (l.length : Int) - 1 = ((nl l : Nat) : Int) := by omega
        have R : Hid (∀ W', Below wr.heap.size wr W' → ∀ C, Likely l w (.returned (.agg (tcs A' (nl l) c' true (lkx l)))) (((W'.setCell ⟨w.heap.size + 1, 1, none⟩ (.bool true)).setCell ⟨w.heap.size + 1, 2, none⟩ (.int .i64 (lkx l))).setRow w.heap.size C)) := fun W' hb' C => by
          obtain ⟨h2, h3, h4⟩ := lk_done ((((ho.below hb').setCell (g := w.heap.size + 1) (by omega) 1 (.bool true)).setCell (g := w.heap.size + 1) (by omega) 2 (.int .i64 (lkx l))).setRow (g := w.heap.size) (by omega) C)
          exact ⟨A', c', by rw [hx, hlk], h2, h3, fun a ha => by have := h4 a ha; omega, bel_setRow (((btr hb hb').setCell (by show w.heap.size ≤ w.heap.size + 1; omega) _).setCell (by show w.heap.size ≤ w.heap.size + 1; omega) _) (Nat.le_refl _) _⟩
        have KX := Lib.hid (fun W' (hb' : Below wr.heap.size wr W') => (⟨kept H0 hb', kept H1 hb'⟩ : _ ∧ _))
        clear HA SL XP SA H0 H1 ho ex hx hlk hlt hk b0 b1 b2
        generalize lkx l = LX at *
        generalize ahd l (nl l) = Y at *
        generalize ra l (nl l) = X at *
        generalize nl l = m at *
        generalize l.length = n at *
        go_wp2_with (first
          | (go_at_call 19; (with_reducible refine (X1.out).mono ?_); rintro e w5 ⟨rfl, hb5⟩)
          | (go_at_call 45; (with_reducible refine (S1.out _ (btr hb hb5)).mono ?_); rintro e w6 ⟨rfl, hb6⟩; have k0 := Lib.hid ((heap_setCell_other _ ⟨w.heap.size + 1, 2, none⟩ w.heap.size (.int .i64 LX) (by show w.heap.size ≠ w.heap.size + 1; omega)).trans ((heap_setCell_other w6 ⟨w.heap.size + 1, 1, none⟩ w.heap.size (.bool true) (by show w.heap.size ≠ w.heap.size + 1; omega)).trans (KX.out _ (btr hb5 hb6)).1)); have k1 := Lib.hid (KX.out _ (btr hb5 hb6)).2; obtain ⟨a0, a1, a2⟩ := tcs_cells k1.out; obtain ⟨a3, a4, a5⟩ := tcs_cells (tcs_set1 (h2 := true) k1.out); have fz := tcs_frozenAt k1.out 1; have fz1 := tcs_frozenAt (tcs_set1 (h2 := true) k1.out) 2; obtain ⟨b0, b1, b2⟩ := tcs_cells (tcs_set2 (y := LX) (tcs_set1 (h2 := true) k1.out)))
          | (refine wpList_store_row rfl 24 (.tmp 2) (.tmp 62) rfl w.heap.size (tcs A' m c' true LX) rfl rfl 24 _ k0.out szT rfl (tcs_one _ _ _ _ _) ?_))
        exact end_row Tryd.results40 _ _ w.heap.size 24 (tcs A' m c' true LX) _ rfl (setRow_heap _ _ _ _ _ _ k0.out) Tryd.underlying24 szT rfl (R.out _ (btr hb5 hb6) _)
/-- what Table answers of right records. -/
def Tabled (l : List Cr) (w : World) (e : Ending) (w' : World) : Prop :=
  (tb l = true ∧ ∃ A' c', e = .returned (.tuple #[.agg (tcs A' (lk l).length c' (hasX l) (lkx l)), .bool true]) ∧ Lps w' A' (lk l) ∧ (lk l).length ≤ c' ∧ Below w.heap.size w w') ∨
  (tb l = false ∧ e = .returned (.tuple #[.agg (tcs none 0 0 false 0), .bool false]) ∧ Below w.heap.size w w')
set_option maxHeartbeats 4000000 in
theorem table_at (l : List Cr) (A : Option Addr) (c : Nat) (w : World) (T : day.Tabs w) (h : Crs w A l) (hg : rm.Ok l) (hc : l.length ≤ c) :
    Calls Tryd.prog 21 #[.slice A l.length c] w (Tabled l w) := by
  have hn := h.1.2
  have hlen := hg.len
  have hnl := nl_le l
  have hb1 : Below w.heap.size w (w.alloc (.cells #[.slice none 0 0, .bool false, .int .i64 0] 24)) := bal (Below.refl _ _) _
  have k0 : (w.alloc (.cells #[.slice none 0 0, .bool false, .int .i64 0] 24)).heap[w.heap.size]? = some (.cells (tcs none 0 0 false 0) 24) := hp_new _ _
  have LK := Lib.hid (likely_at l A c _ (h.below hb1) hg hc)
  unfold Likely at LK
  have HA := Lib.hid h
  have K0 := Lib.hid k0
  have HB := Lib.hid hb1
  clear h hb1 k0
  have BX := Lib.hid (fun A' n' c' has' x' w5 (hb5 : Below (w.alloc (.cells #[.slice none 0 0, .bool false, .int .i64 0] 24)).heap.size (w.alloc (.cells #[.slice none 0 0, .bool false, .int .i64 0] 24)) w5) w6 (hb6 : Below (w5.alloc (.cells (tcs A' n' c' has' x') 24)).heap.size (w5.alloc (.cells (tcs A' n' c' has' x') 24)) w6) =>
    (⟨kept (hp_old (kept K0.out hb5) _) hb6, kept (hp_new w5 _) hb6, btr (bal (btr HB.out hb5) _) hb6⟩ : w6.heap[w.heap.size]? = some (.cells (tcs none 0 0 false 0) 24) ∧ w6.heap[w5.heap.size]? = some (.cells (tcs A' n' c' has' x') 24) ∧ Below w.heap.size w w6))
  by_cases hce : ce (lk l) (hasX l) (lkx l) = 0
  · have RY : Hid (∀ W A' c', Below w.heap.size w W → Lps W A' (lk l) → Calls Tryd.prog 11 #[.agg #[.slice A' (lk l).length c', .bool (hasX l), .int .i64 (lkx l)]] W (Recd (lk l) (hasX l) (lkx l) W)) := fun W A' c' hb hl => records_yes (lk l) A' c' _ _ W (T.below hb) hl hce (lk_nr l)
    have SY : Hid (∀ W A' c', Below w.heap.size w W → Crs W A' (recs (lk l) (hasX l) (lkx l)) → Calls Tryd.prog 18 #[.slice A' (recs (lk l) (hasX l) (lkx l)).length c', .slice A l.length c] W fun e w' => e = .returned (.bool (decide (recs (lk l) (hasX l) (lkx l) = l))) ∧ Below W.heap.size W w') := fun W A' c' hb hc' => same_at _ l A' A c' c W hc' (HA.out.below hb)
    by_cases hrc : recs (lk l) (hasX l) (lkx l) = l
    · have R : Hid (∀ W A' c', Below w.heap.size w W → Lps W A' (lk l) → (lk l).length ≤ c' → (∀ a, A' = some a → w.heap.size < a.block) → ∀ C, Tabled l w (.returned (.tuple #[.agg (tcs A' (lk l).length c' (hasX l) (lkx l)), .bool true])) (W.setRow w.heap.size C)) := fun W A' c' hb hl hl2 hl3 C =>
        Or.inl ⟨tb_iff.2 ⟨hce, hrc⟩, A', c', rfl, lps_setRow hl _ (fun a ha e => by have := hl3 a ha; omega) C, hl2, bel_setRow hb (Nat.le_refl _) _⟩
      rw [decide_eq_true hrc] at SY
      unfold Recd at RY
      unfold tcs at LK
      clear HA K0 T hrc
      generalize recs (lk l) (hasX l) (lkx l) = rr at *
      generalize rr.length = q at *
      generalize hasX l = I at *
      generalize lkx l = LX at *
      generalize (lk l).length = m at *
      generalize l.length = n at *
      go_enter Tryd.func21, Tryd.ntmps21
      go_wp2_with (first
        | (go_at_call 40; (with_reducible refine (LK.out).mono ?_); rintro e w5 ⟨A', c', rfl, hlp, hlc, hln, hb5⟩; have RZ := RY.out (w5.alloc (.cells #[.slice A' m c', .bool I, .int .i64 LX] 24)) A' c' (bal (btr HB.out hb5) _) (hlp.below (bal (Below.refl _ _) _)))
        | (go_at_call 11; (with_reducible refine RZ.mono ?_); rintro e w6 ⟨A2, c2, rfl, hcr, _, hb6⟩; obtain ⟨k0, k1, hbz⟩ := BX.out _ _ _ _ _ _ hb5 _ hb6; have SZ := SY.out _ A2 c2 hbz hcr)
        | (go_at_call 18; (with_reducible refine SZ.mono ?_); rintro e w7 ⟨rfl, hb7⟩; have k0 := Lib.hid (kept k0 hb7); have k1 := Lib.hid (kept k1 hb7); have hbz := btr hbz hb7; have hlp := hlp.below (btr (bal (Below.refl _ _) _) (btr hb6 hb7)); obtain ⟨b0, b1, b2⟩ := tcs_cells k1.out)
        | (refine wpList_store_row rfl 24 (.tmp 2) (.tmp 22) rfl w.heap.size (tcs none 0 0 false 0) rfl rfl 24 _ k0.out szT rfl (tcs_one _ _ _ _ _) ?_)
        | (refine wpList_store_row rfl 24 (.tmp 2) (.tmp 23) rfl w.heap.size (tcs A' m c' I LX) rfl rfl 24 _ k0.out szT rfl (tcs_one _ _ _ _ _) ?_))
      exact leap.end_pair rfl _ _ w.heap.size 24 (tcs A' m c' I LX) _ (.bool true) rfl rfl (setRow_heap _ _ _ _ _ _ k0.out) Tryd.underlying24 szT rfl (R.out _ _ _ hbz hlp hlc (fun a ha => by have := hln a ha; simp at this; omega) _)
    · have R : Hid (∀ W, Below w.heap.size w W → ∀ C, Tabled l w (.returned (.tuple #[.agg (tcs none 0 0 false 0), .bool false])) (W.setRow w.heap.size C)) := fun W hb C => by
        refine Or.inr ⟨?_, rfl, bel_setRow hb (Nat.le_refl _) _⟩
        cases h : tb l
        · rfl
        · exact absurd (tb_iff.1 h).2 hrc
      rw [decide_eq_false hrc] at SY
      unfold Recd at RY
      unfold tcs at LK
      clear HA K0 T hrc
      generalize recs (lk l) (hasX l) (lkx l) = rr at *
      generalize rr.length = q at *
      generalize hasX l = I at *
      generalize lkx l = LX at *
      generalize (lk l).length = m at *
      generalize l.length = n at *
      go_enter Tryd.func21, Tryd.ntmps21
      go_wp2_with (first
        | (go_at_call 40; (with_reducible refine (LK.out).mono ?_); rintro e w5 ⟨A', c', rfl, hlp, hlc, hln, hb5⟩; have RZ := RY.out (w5.alloc (.cells #[.slice A' m c', .bool I, .int .i64 LX] 24)) A' c' (bal (btr HB.out hb5) _) (hlp.below (bal (Below.refl _ _) _)))
        | (go_at_call 11; (with_reducible refine RZ.mono ?_); rintro e w6 ⟨A2, c2, rfl, hcr, _, hb6⟩; obtain ⟨k0, k1, hbz⟩ := BX.out _ _ _ _ _ _ hb5 _ hb6; have SZ := SY.out _ A2 c2 hbz hcr)
        | (go_at_call 18; (with_reducible refine SZ.mono ?_); rintro e w7 ⟨rfl, hb7⟩; have k0 := Lib.hid (kept k0 hb7); have k1 := Lib.hid (kept k1 hb7); have hbz := btr hbz hb7; have hlp := hlp.below (btr (bal (Below.refl _ _) _) (btr hb6 hb7)); obtain ⟨b0, b1, b2⟩ := tcs_cells k1.out)
        | (refine wpList_store_row rfl 24 (.tmp 2) (.tmp 22) rfl w.heap.size (tcs none 0 0 false 0) rfl rfl 24 _ k0.out szT rfl (tcs_one _ _ _ _ _) ?_)
        | (refine wpList_store_row rfl 24 (.tmp 2) (.tmp 23) rfl w.heap.size (tcs A' m c' I LX) rfl rfl 24 _ k0.out szT rfl (tcs_one _ _ _ _ _) ?_))
      exact leap.end_pair rfl _ _ w.heap.size 24 (tcs none 0 0 false 0) _ (.bool false) rfl rfl (setRow_heap _ _ _ _ _ _ k0.out) Tryd.underlying24 szT rfl (R.out _ hbz _)
  · have R : Hid (∀ W, Below w.heap.size w W → ∀ C, Tabled l w (.returned (.tuple #[.agg (tcs none 0 0 false 0), .bool false])) (W.setRow w.heap.size C)) := fun W hb C => by
      refine Or.inr ⟨?_, rfl, bel_setRow hb (Nat.le_refl _) _⟩
      cases h : tb l
      · rfl
      · exact absurd (tb_iff.1 h).1 hce
    have RN : Hid (∀ W A' c', Below w.heap.size w W → Lps W A' (lk l) → Calls Tryd.prog 11 #[.agg #[.slice A' (lk l).length c', .bool (hasX l), .int .i64 (lkx l)]] W fun e w' => e = .returned (.tuple #[.slice none 0 0, .bool false]) ∧ Below W.heap.size W w') := fun W A' c' hb hl => records_no (lk l) A' c' _ _ W (T.below hb) hl (by rw [lk_len]; omega) (fun h => absurd h hce)
    unfold tcs at LK
    clear HA K0 T
    generalize hasX l = I at *
    generalize lkx l = LX at *
    generalize (lk l).length = m at *
    generalize l.length = n at *
    go_enter Tryd.func21, Tryd.ntmps21
    go_wp2_with (first
      | (go_at_call 40; (with_reducible refine (LK.out).mono ?_); rintro e w5 ⟨A', c', rfl, hlp, hlc, hln, hb5⟩; have RZ := RN.out (w5.alloc (.cells #[.slice A' m c', .bool I, .int .i64 LX] 24)) A' c' (bal (btr HB.out hb5) _) (hlp.below (bal (Below.refl _ _) _)))
      | (go_at_call 11; (with_reducible refine RZ.mono ?_); rintro e w6 ⟨rfl, hb6⟩; have k0 := Lib.hid (BX.out _ _ _ _ _ _ hb5 _ hb6).1; have hbz := (BX.out _ _ _ _ _ _ hb5 _ hb6).2.2)
      | (refine wpList_store_row rfl 24 (.tmp 2) (.tmp 22) rfl w.heap.size (tcs none 0 0 false 0) rfl rfl 24 _ k0.out szT rfl (tcs_one _ _ _ _ _) ?_))
    exact leap.end_pair rfl _ _ w.heap.size 24 (tcs none 0 0 false 0) _ (.bool false) rfl rfl (setRow_heap _ _ _ _ _ _ k0.out) Tryd.underlying24 szT rfl (R.out _ hbz _)
end Go.Proofs.YtcikcdeihlmbcaaDoor.rec
