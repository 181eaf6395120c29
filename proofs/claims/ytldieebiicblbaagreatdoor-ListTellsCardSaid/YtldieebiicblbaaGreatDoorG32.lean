/-
  The document's own answer of layer 9: Add. Conditions: the slice reads as the row.
-/
import Derived.Test.YtldieebiicblbaaGreatDoorG31
import Derived.Test.YtldieebiicblbaaGreatDoorG28
import Derived.Test.YtldieebiicblbaaGreatDoorG30
namespace Go.Proofs.YtldieebiicblbaaGreatDoor.ref09
open Go.ChangeShapes Go.WideShapes Go.ChangeAt Go.RowKit
open lm mem leap
set_option linter.unusedVariables false
set_option maxRecDepth 100000

/-- a row of leaps lies in no block of tables. -/
theorem Row.apart {w : World} {B : Nat} {v : Value} {l : List Lp} (h : Row w B v l) {g : Nat} {cs : Array Value} (hg : w.heap[g]? = some (.cells cs 24)) : v.ownBlock ≠ some g := by
  intro e
  rcases h.2 with ⟨rfl, _⟩ | ⟨g', cap, cur, rfl, _, hh, _⟩
  · simp [Value.ownBlock] at e
  · have e2 : g' = g := by simpa [Value.ownBlock] using e
    subst e2
    rw [hh] at hg
    simp at hg
theorem Row.cell {w : World} {B : Nat} {v : Value} {l : List Lp} (h : Row w B v l) {g : Nat} (hg : v.ownBlock ≠ some g) (u : Value) : Row (w.setCell ⟨g, 0, none⟩ u) B v l := by
  refine ⟨h.1, ?_⟩
  rcases h.2 with e | ⟨g', cap, cur, rfl, hb', hh, a⟩
  · exact Or.inl e
  · exact Or.inr ⟨g', cap, cur, rfl, hb', (heap_setCell_other _ ⟨g, 0, none⟩ _ _ (fun e => hg (by simp [Value.ownBlock]; exact e))).trans hh, a⟩
theorem Row.row {w : World} {B : Nat} {v : Value} {l : List Lp} (h : Row w B v l) {g : Nat} (hg : v.ownBlock ≠ some g) (u : Array Value) : Row (w.setRow g u) B v l := by
  refine ⟨h.1, ?_⟩
  rcases h.2 with e | ⟨g', cap, cur, rfl, hb', hh, a⟩
  · exact Or.inl e
  · exact Or.inr ⟨g', cap, cur, rfl, hb', (setRow_other _ _ _ _ (fun e => hg (by simp [Value.ownBlock]; exact e))).trans hh, a⟩
/-- 'append(v, z)'. -/
theorem one_run (W : World) (B : Nat) (v : Value) (l : List Lp) (hv : Row W B v l) (hn : l.length ≤ 1000000) (hB : B ≤ W.heap.size) (g : Nat) (z : Lp) (hz : W.heap[g]? = some (.cells #[.int .i64 z.1, .int .i64 z.2.1, .bool z.2.2] 40)) (ty : TypeId) :
    ∃ v' W', (Builtin.append_ #[22, 22] ty #[v, .slice (some ⟨g, 0, none⟩) 1 1]).run Tryz.prog W = .ok v' W' ∧ Row W' B v' (l ++ [z]) ∧ W.grownBy W' v.ownBlock := by
  obtain ⟨i0, hi, hz0, hz1, hz2⟩ := info_parts infoL
  have hm : l.length + 1 ≤ maxLen := by unfold maxLen; omega
  obtain ⟨v', W', hr, ho, hg, _⟩ := run_append_own (P := Tryz.prog) W B 22 ty 40 i0 _ 3 24 Tryz.underlying22 hi hz0 hz1 hz2 rfl (by decide) v l.length (pcs l) hv ⟨g, 0, none⟩ 1 1 (pcs [z]) (pcs_len [z]) (fun j u hj => by
    rw [Addr.add_mid, Nat.zero_add, row_cell hz j]
    simpa [pcs] using hj) (pcs_one [z]) hm (by omega) hB
  refine ⟨v', W', hr, ?_, hg⟩
  unfold Row
  rw [pcs_app, List.length_append]
  exact ho
theorem Row.lps {w : World} {B : Nat} {A : Option Addr} {n c : Nat} {l : List Lp} (h : Row w B (.slice A n c) l) : Lps w A l := by
  obtain ⟨A', c', ev, hl, _⟩ := h.slice
  simp only [Value.slice.injEq] at ev
  obtain ⟨rfl, _, _⟩ := ev
  exact hl
def RAdded (l : List Lp) (z : Lp) (has : Bool) (x : Int) (w : World) (e : Ending) (w' : World) : Prop :=
  ∃ A c, e = .returned (.tuple #[.agg #[.slice A (nx l z has x).length c, .bool has, .int .i64 x], .int .i64 (ce (l ++ [z]) has x)]) ∧ Lps w' A (nx l z has x) ∧ Below w.heap.size w w'
theorem radded_yes {l : List Lp} {z : Lp} {has : Bool} {x : Int} (h : ce (l ++ [z]) has x = 0) (w W : World) (B : Nat) (A : Option Addr) (c : Nat) (h3 : Row W B (.slice A (l.length + 1) c) (l ++ [z])) (hb : Below w.heap.size w W) :
    RAdded l z has x w (.returned (.tuple #[.agg (tcs A (l.length + 1) c has x), .int .i64 0])) W := by
  have e : nx l z has x = l ++ [z] := by unfold nx; rw [if_pos h]
  have hl := h3.lps
  refine ⟨A, c, ?_, by rw [e]; exact hl, hb⟩
  rw [e, h, List.length_append]
  rfl
theorem radded_no {l : List Lp} {z : Lp} {has : Bool} {x : Int} (h : ce (l ++ [z]) has x ≠ 0) (w W : World) (B : Nat) (A : Option Addr) (c : Nat) (h3 : Row W B (.slice A l.length c) l) (hb : Below w.heap.size w W) :
    RAdded l z has x w (.returned (.tuple #[.agg (tcs A l.length c has x), .int .i64 (ce (l ++ [z]) has x)])) W := by
  have e : nx l z has x = l := by unfold nx; rw [if_neg h]
  have hl := h3.lps
  refine ⟨A, c, ?_, by rw [e]; exact hl, hb⟩
  rw [e]
  rfl
theorem leap_cells {W : World} {g : Nat} {a b : Int} {r : Bool} (h : W.heap[g]? = some (.cells #[.int .i64 a, .int .i64 b, .bool r] 40)) :
    W.cell? ⟨g, 0, none⟩ = some (.int .i64 a) ∧ W.cell? ⟨g, 1, none⟩ = some (.int .i64 b) ∧ W.cell? ⟨g, 2, none⟩ = some (.bool r) := ⟨row_cell h 0, row_cell h 1, row_cell h 2⟩
/-- all that is known behind the second append. -/
theorem behind_app (w : World) (W2 w1 : World) (N : Nat) (l : List Lp) (z : Lp) (A : Option Addr) (c : Nat) (has : Bool) (x : Int) (A1 : Option Addr) (c1 : Nat) (hn : l.length ≤ 1000000)
    (hb2 : Below N w W2) (hN : N + 3 ≤ W2.heap.size) (b0 : W2.heap[N]? = some (.cells (tcs A l.length c has x) 24)) (b2 : W2.heap[N + 1 + 1]? = some (.cells (tcs none 0 0 false 0) 24))
    (hb1 : Below W2.heap.size W2 w1) (hrow : Row w1 W2.heap.size (.slice A1 l.length c1) l) :
    ∃ A2 c2 W3, (Builtin.append_ #[22, 22] 22 #[.slice A1 l.length c1, .slice (some ⟨w1.heap.size + 1, 0, none⟩) 1 1]).run Tryz.prog ((w1.alloc (.cells #[.slice A1 l.length c1, .bool has, .int .i64 x] 24)).alloc (.cells #[.int .i64 z.1, .int .i64 z.2.1, .bool z.2.2] 40)) = .ok (.slice A2 (l.length + 1) c2) W3 ∧
      Row (W3.setCell ⟨w1.heap.size, 0, none⟩ (.slice A2 (l.length + 1) c2)) W2.heap.size (.slice A2 (l.length + 1) c2) (l ++ [z]) ∧ Below N w (W3.setCell ⟨w1.heap.size, 0, none⟩ (.slice A2 (l.length + 1) c2)) ∧
      W3.heap[w1.heap.size]? = some (.cells (tcs A1 l.length c1 has x) 24) ∧
      (W3.setCell ⟨w1.heap.size, 0, none⟩ (.slice A2 (l.length + 1) c2)).heap[w1.heap.size]? = some (.cells (tcs A2 (l.length + 1) c2 has x) 24) ∧
      (W3.setCell ⟨w1.heap.size, 0, none⟩ (.slice A2 (l.length + 1) c2)).heap[N]? = some (.cells (tcs A l.length c has x) 24) ∧
      (W3.setCell ⟨w1.heap.size, 0, none⟩ (.slice A2 (l.length + 1) c2)).heap[N + 1 + 1]? = some (.cells (tcs none 0 0 false 0) 24) := by
  have hs := hb1.size
  have hrow' : Row ((w1.alloc (.cells #[.slice A1 l.length c1, .bool has, .int .i64 x] 24)).alloc (.cells #[.int .i64 z.1, .int .i64 z.2.1, .bool z.2.2] 40)) W2.heap.size (.slice A1 l.length c1) l := hrow.below (bal (bal (Below.refl _ _) _) _)
  obtain ⟨v2, W3, run, hr, hg⟩ := one_run _ _ _ l hrow' hn (by simp; omega) (w1.heap.size + 1) z (hp_new1 w1 _ _) 22
  obtain ⟨A2, c2, rfl, _, _⟩ := hr.slice
  rw [show (l ++ [z]).length = l.length + 1 by simp] at hr run
  have out : ∀ k : Nat, (k < W2.heap.size ∨ k = w1.heap.size) → (Value.slice A1 l.length c1).ownBlock ≠ some k := fun k hk => hrow.notIn (by omega)
  have g0 : ((w1.alloc (.cells #[.slice A1 l.length c1, .bool has, .int .i64 x] 24)).alloc (.cells #[.int .i64 z.1, .int .i64 z.2.1, .bool z.2.2] 40)).heap[N]? = some (.cells (tcs A l.length c has x) 24) := hp_old (hp_old (kept b0 hb1) _) _
  have g2 : ((w1.alloc (.cells #[.slice A1 l.length c1, .bool has, .int .i64 x] 24)).alloc (.cells #[.int .i64 z.1, .int .i64 z.2.1, .bool z.2.2] 40)).heap[N + 1 + 1]? = some (.cells (tcs none 0 0 false 0) 24) := hp_old (hp_old (kept b2 hb1) _) _
  have go : ((w1.alloc (.cells #[.slice A1 l.length c1, .bool has, .int .i64 x] 24)).alloc (.cells #[.int .i64 z.1, .int .i64 z.2.1, .bool z.2.2] 40)).heap[w1.heap.size]? = some (.cells (tcs A1 l.length c1 has x) 24) := hp_old (hp_new w1 _) _
  have k0 := (hg.block _ (hp_lt g0) (fun e => out N (Or.inl (by omega)) e.symm)).trans g0
  have k2 := (hg.block _ (hp_lt g2) (fun e => out (N + 1 + 1) (Or.inl (by omega)) e.symm)).trans g2
  have ko := (hg.block _ (hp_lt go) (fun e => out w1.heap.size (Or.inr rfl) e.symm)).trans go
  have hb3 : Below N w W3 := by
    have h2 : Below N w ((w1.alloc (.cells #[.slice A1 l.length c1, .bool has, .int .i64 x] 24)).alloc (.cells #[.int .i64 z.1, .int .i64 z.2.1, .bool z.2.2] 40)) := (hb2.trans (hb1.mono (by omega))).trans ((bal (bal (Below.refl w1.heap.size w1) _) _).mono (by omega))
    refine h2.grown hg (by simp; omega) (fun k e => ?_)
    have := World.ownsRow.lt hrow k e
    omega
  refine ⟨A2, c2, W3, run, hr.cell (hr.apart ko) _, hb3.setCell (by show N ≤ w1.heap.size; omega) _, ko, tcs_set ko, ?_, ?_⟩
  · exact (heap_setCell_other _ ⟨w1.heap.size, 0, none⟩ _ _ (by show N ≠ w1.heap.size; omega)).trans k0
  · exact (heap_setCell_other _ ⟨w1.heap.size, 0, none⟩ _ _ (by show N + 1 + 1 ≠ w1.heap.size; omega)).trans k2
set_option maxHeartbeats 2000000 in
theorem add_at (l : List Lp) (z : Lp) (A : Option Addr) (c : Nat) (has : Bool) (x : Int) (w : World) (h : Lps w A l) (hn : l.length ≤ 1000000) :
    Calls Tryz.prog 47 #[.agg #[.slice A l.length c, .bool has, .int .i64 x], .agg #[.int .i64 z.1, .int .i64 z.2.1, .bool z.2.2]] w (RAdded l z has x w) := by
  obtain ⟨z0, z1, z2⟩ := z
  have hb2 : Below w.heap.size w (((w.alloc (.cells #[.slice A l.length c, .bool has, .int .i64 x] 24)).alloc (.cells #[.int .i64 z0, .int .i64 z1, .bool z2] 40)).alloc (.cells #[.slice none 0 0, .bool false, .int .i64 0] 24)) := bal (bal (bal (Below.refl _ _) _) _) _
  have b0 : (((w.alloc (.cells #[.slice A l.length c, .bool has, .int .i64 x] 24)).alloc (.cells #[.int .i64 z0, .int .i64 z1, .bool z2] 40)).alloc (.cells #[.slice none 0 0, .bool false, .int .i64 0] 24)).heap[w.heap.size]? = some (.cells (tcs A l.length c has x) 24) := hp_old (hp_old (hp_new w _) _) _
  have b1 : (((w.alloc (.cells #[.slice A l.length c, .bool has, .int .i64 x] 24)).alloc (.cells #[.int .i64 z0, .int .i64 z1, .bool z2] 40)).alloc (.cells #[.slice none 0 0, .bool false, .int .i64 0] 24)).heap[w.heap.size + 1]? = some (.cells #[.int .i64 z0, .int .i64 z1, .bool z2] 40) := hp_old (hp_new1 w _ _) _
  have b2 : (((w.alloc (.cells #[.slice A l.length c, .bool has, .int .i64 x] 24)).alloc (.cells #[.int .i64 z0, .int .i64 z1, .bool z2] 40)).alloc (.cells #[.slice none 0 0, .bool false, .int .i64 0] 24)).heap[w.heap.size + 1 + 1]? = some (.cells (tcs none 0 0 false 0) 24) := by
    have := hp_new1 (w.alloc (.cells #[.slice A l.length c, .bool has, .int .i64 x] 24)) (.cells #[.int .i64 z0, .int .i64 z1, .bool z2] 40) (.cells #[.slice none 0 0, .bool false, .int .i64 0] 24)
    simp only [World.size_alloc] at this
    exact this
  have hsz : (((w.alloc (.cells #[.slice A l.length c, .bool has, .int .i64 x] 24)).alloc (.cells #[.int .i64 z0, .int .i64 z1, .bool z2] 40)).alloc (.cells #[.slice none 0 0, .bool false, .int .i64 0] 24)).heap.size = w.heap.size + 3 := by simp
  have h2 := h.below hb2
  go_enter Tryz.func47, Tryz.ntmps47
  go_wp2_with fail
  generalize ((w.alloc (.cells #[.slice A l.length c, .bool has, .int .i64 x] 24)).alloc (.cells #[.int .i64 z0, .int .i64 z1, .bool z2] 40)).alloc (.cells #[.slice none 0 0, .bool false, .int .i64 0] 24) = W2 at *
  have CP : Hid (∀ W, Below w.heap.size w W → Calls Tryz.prog 77 #[.agg #[.slice A l.length c, .bool has, .int .i64 x]] W (Copied l has x W)) := fun W hb => copy_at l A c has x W (h.below hb) hn
  unfold Copied at CP
  have TC := Lib.hid (fun W (hb : Below W2.heap.size W2 W) => tcs_cells (kept b0 hb))
  have BA := Lib.hid (fun w1 A1 c1 hb1 hrow => behind_app w W2 w1 w.heap.size l (z0, z1, z2) A c has x A1 c1 hn hb2 (by omega) b0 b2 hb1 hrow)
  have CK := Lib.hid (fun W A2 c2 hL => check_at (l ++ [(z0, z1, z2)]) A2 c2 has x W hL (by simp; omega))
  unfold leap.Checked at CK
  rw [show (l ++ [(z0, z1, z2)]).length = l.length + 1 by simp] at CK
  have YL := Lib.hid (fun W (hb : Below W2.heap.size W2 W) => leap_cells (kept b1 hb))
  have Y : Hid (ce (l ++ [(z0, z1, z2)]) has x = 0 → ∀ W B A c, Row W B (.slice A (l.length + 1) c) (l ++ [(z0, z1, z2)]) → Below w.heap.size w W → RAdded l (z0, z1, z2) has x w (.returned (.tuple #[.agg (tcs A (l.length + 1) c has x), .int .i64 0])) W) := fun h W B A c a b => radded_yes h w W B A c a b
  have Z : Hid (ce (l ++ [(z0, z1, z2)]) has x ≠ 0 → ∀ W B A c, Row W B (.slice A l.length c) l → Below w.heap.size w W → RAdded l (z0, z1, z2) has x w (.returned (.tuple #[.agg (tcs A l.length c has x), .int .i64 (ce (l ++ [(z0, z1, z2)]) has x)])) W) := fun h W B A c a b => radded_no h w W B A c a b
  clear h h2 b1
  have hA : Below W2.heap.size W2 W2 := Below.refl _ _
  obtain ⟨t0, t1, t2⟩ := TC.out _ hA
  clear TC hA
  have hbs : W2.heap.size = w.heap.size + 3 := hsz
  generalize ce (l ++ [(z0, z1, z2)]) has x = E at *
  generalize cp (l ++ [(z0, z1, z2)]) = p at *
  by_cases hE : E = 0
  · subst hE
    have Y2 := Lib.hid (Y.out rfl)
    clear Y Z b0 b2
    generalize hL0 : l ++ [(z0, z1, z2)] = L at *
    clear hL0
    generalize l.length = n at *
    go_wp2_with (first
      | (go_at_call 77; (with_reducible refine (CP.out _ hb2).mono ?_); rintro e w1 ⟨A1, c1, rfl, hcap, hrow, hb1⟩; obtain ⟨A2, c2, W3, run, hr, hbW, ko, ks, k0, k2⟩ := BA.out w1 A1 c1 hb1 hrow; have fz := tcs_frozen ko; obtain ⟨o0, o1, o2⟩ := tcs_cells ko; obtain ⟨s0, s1, s2⟩ := tcs_cells ks; have yl0 := fun ob => (YL.out _ (bal hb1 ob)).1; have yl1 := fun ob => (YL.out _ (bal hb1 ob)).2.1; have yl2 := fun ob => (YL.out _ (bal hb1 ob)).2.2; have hL := hr.lps; have HR := Lib.hid hr; have HK0 := Lib.hid k0; have HK2 := Lib.hid k2; have HKS := Lib.hid ks; clear hrow hcap hr k0 k2 ko ks)
      | (refine list_app rfl _ _ _ rfl _ _ _ _ rfl rfl run ?_)
      | (go_at_call 48; (with_reducible refine (CK.out _ _ _ hL).mono ?_); rintro e w5 ⟨rfl, hb5⟩; obtain ⟨p0, p1, p2⟩ := tcs_cells (kept HKS.out hb5); obtain ⟨r0, r1, r2⟩ := tcs_cells (kept HK0.out hb5); have K2 := Lib.hid (kept HK2.out hb5))
      | (refine wpList_store_row rfl 24 (.tmp 4) (.tmp 27) rfl (w.heap.size + 1 + 1) (tcs A2 (n + 1) c2 has x) rfl rfl 24 _ K2.out szT rfl (tcs_one _ _ _ _ _) ?_))
    exact end_pair rfl _ _ (w.heap.size + 1 + 1) 24 (tcs A2 (n + 1) c2 has x) _ (.int .i64 0) rfl rfl (setRow_heap _ _ _ _ _ _ K2.out) Tryz.underlying24 szT rfl
      (Y2.out _ _ _ _ ((HR.out.below hb5).row ((HR.out.below hb5).apart K2.out) _) (bel_setRow (btr hbW hb5) (by omega) _))
  · have Z2 := Lib.hid (Z.out hE)
    have t : (E != 0) = true := by simpa using hE
    clear Y Z b0 b2 hE
    generalize hL0 : l ++ [(z0, z1, z2)] = L at *
    clear hL0
    generalize l.length = n at *
    go_wp2_with (first
      | (go_at_call 77; (with_reducible refine (CP.out _ hb2).mono ?_); rintro e w1 ⟨A1, c1, rfl, hcap, hrow, hb1⟩; obtain ⟨A2, c2, W3, run, hr, hbW, ko, ks, k0, k2⟩ := BA.out w1 A1 c1 hb1 hrow; have fz := tcs_frozen ko; obtain ⟨o0, o1, o2⟩ := tcs_cells ko; obtain ⟨s0, s1, s2⟩ := tcs_cells ks; have yl0 := fun ob => (YL.out _ (bal hb1 ob)).1; have yl1 := fun ob => (YL.out _ (bal hb1 ob)).2.1; have yl2 := fun ob => (YL.out _ (bal hb1 ob)).2.2; have hL := hr.lps; have HR := Lib.hid hr; have HK0 := Lib.hid k0; have HK2 := Lib.hid k2; have HKS := Lib.hid ks; clear hrow hcap hr k0 k2 ko ks)
      | (go_at_call 77; (with_reducible refine (CP.out _ (btr hbW hb5)).mono ?_); rintro e w6 ⟨A3, c3, rfl, hcap6, hrow6, hb6⟩; have K6 := Lib.hid (kept K2.out hb6))
      | (refine list_app rfl _ _ _ rfl _ _ _ _ rfl rfl run ?_)
      | (go_at_call 48; (with_reducible refine (CK.out _ _ _ hL).mono ?_); rintro e w5 ⟨rfl, hb5⟩; obtain ⟨p0, p1, p2⟩ := tcs_cells (kept HKS.out hb5); obtain ⟨r0, r1, r2⟩ := tcs_cells (kept HK0.out hb5); have K2 := Lib.hid (kept HK2.out hb5))
      | (refine wpList_store_row rfl 24 (.tmp 4) (.tmp 25) rfl (w.heap.size + 1 + 1) (tcs A3 n c3 has x) rfl rfl 24 _ K6.out szT rfl (tcs_one _ _ _ _ _) ?_))
    exact end_pair rfl _ _ (w.heap.size + 1 + 1) 24 (tcs A3 n c3 has x) _ (.int .i64 E) rfl rfl (setRow_heap _ _ _ _ _ _ K6.out) Tryz.underlying24 szT rfl
      (Z2.out _ _ _ _ (hrow6.row (hrow6.apart K6.out) _) (bel_setRow (btr (btr hbW hb5) hb6) (by omega) _))
end Go.Proofs.YtldieebiicblbaaGreatDoor.ref09

/-
  The document's own table behind a line of data, layer 10. Conditions: the slice reads as a row of leaps, 1000000 at most; the numbers are not below 0.
-/
namespace Go.Proofs.YtldieebiicblbaaGreatDoor.ref10
open Go.ChangeShapes Go.WideShapes Go.ChangeAt Go.RowKit
open lx ls mem
open lm (Lp ce)
open leap (tcs Lps szT tcs_one end_pair tcs_cells)
set_option linter.unusedVariables false
set_option maxRecDepth 100000

def ATold (l' : List Lp) (er : Int) (w : World) (e : Ending) (w' : World) : Prop := ∃ A c, e = .returned (.tuple #[.agg (tcs A l'.length c false 0), .int .i64 er]) ∧ Lps w' A l' ∧ Below w.heap.size w w'
/-- a row of leaps lies in no block of a table. -/
theorem lps_apart {W : World} {A : Option Addr} {l : List Lp} {g n c : Nat} {B : Option Addr} {has : Bool} {x : Int} (h : Lps W A l) (hl : l.length ≠ 0) (hg : W.heap[g]? = some (.cells (tcs B n c has x) 24 (0, 0))) : ∀ b o, A = some ⟨b, o, none⟩ → b ≠ g := by
  intro b o e k
  subst k
  obtain ⟨b', o', e', hlt, hc⟩ := h hl
  rw [e] at e'
  cases e'
  obtain ⟨c0, c1, c2⟩ := hc 0 (by omega)
  rw [Nat.zero_mul, Nat.add_zero] at c0 c1 c2
  rw [row_cell hg] at c0 c1 c2
  unfold tcs at c0 c1 c2
  match o, c0, c1, c2 with
  | 0, c0, c1, c2 => simp at c0
  | 1, c0, c1, c2 => simp at c0
  | 2, c0, c1, c2 => simp at c1
  | o + 3, c0, c1, c2 => simp at c0
theorem lps_row {W : World} {A : Option Addr} {l : List Lp} {g n c : Nat} {B : Option Addr} {has : Bool} {x : Int} {cs : Array Value} (h : Lps W A l) (hg : W.heap[g]? = some (.cells (tcs B n c has x) 24 (0, 0))) : Lps (W.setRow g cs) A l := by
  intro hl
  have hne := lps_apart h hl hg
  obtain ⟨b, o, e, hlt, hc⟩ := h hl
  have hb : (W.setRow g cs).heap[b]? = W.heap[b]? := setRow_other _ _ _ _ (hne b o e)
  refine ⟨b, o, e, by simpa using hlt, fun k hk => ?_⟩
  obtain ⟨c0, c1, c2⟩ := hc k hk
  exact ⟨(World.cell?_of_block (a := ⟨b, _, none⟩) hb).trans c0, (World.cell?_of_block (a := ⟨b, _, none⟩) hb).trans c1, (World.cell?_of_block (a := ⟨b, _, none⟩) hb).trans c2⟩
theorem at_end {w W : World} {A : Option Addr} {l : List Lp} {c : Nat} {er : Int} (hl : Lps W A l) (hg : W.heap[w.heap.size + 1 + 1]? = some (.cells (tcs none 0 0 false 0) 24 (0, 0))) (hb : Below w.heap.size w W) (t : Array Value) :
    ATold l er w (.returned (.tuple #[.agg (tcs A l.length c false 0), .int .i64 er])) (W.setRow (w.heap.size + 1 + 1) t) := ⟨A, c, rfl, lps_row hl hg, bel_setRow hb (by omega) _⟩
theorem row_cells {W : World} {g : Nat} {k n m : Int} {r : Bool} {RA : Option Addr} {RN RC : Nat} (h : W.heap[g]? = some (.cells #[.int .i64 k, .bool r, .slice RA RN RC, .int .i64 n, .int .i64 m] 53 (0, 0))) :
    W.cell? ⟨g, 0, none⟩ = some (.int .i64 k) ∧ W.cell? ⟨g, 1, none⟩ = some (.bool r) ∧ W.cell? ⟨g, 2, none⟩ = some (.slice RA RN RC) ∧ W.cell? ⟨g, 3, none⟩ = some (.int .i64 n) ∧ W.cell? ⟨g, 4, none⟩ = some (.int .i64 m) :=
  ⟨row_cell h 0, row_cell h 1, row_cell h 2, row_cell h 3, row_cell h 4⟩
noncomputable def nxL (l : List Lp) (n t : Int) : List Lp := if lE n t l = 0 then l ++ [lp n t] else l
set_option maxHeartbeats 8000000 in
theorem next_at (l : List Lp) (A : Option Addr) (c : Nat) (k n m off : Int) (r : Bool) (RA : Option Addr) (RN RC : Nat) (w : World) (h : Lps w A l) (hn : l.length ≤ 1000000) (h0 : 0 ≤ n ∧ n ≤ 9223372036854775807) (hm : 0 ≤ m ∧ m ≤ 9223372036854775807) (ho : 0 ≤ off ∧ off ≤ 9223372036854775807) :
    Calls Tryz.prog 21 #[.agg #[.slice A l.length c, .bool false, .int .i64 0], .agg #[.int .i64 k, .bool r, .slice RA RN RC, .int .i64 n, .int .i64 m], .int .i64 off] w (ATold (nxL l n (m - off)) (lE n (m - off) l) w) := by
  have hb2 : Below w.heap.size w (((w.alloc (.cells #[.slice A l.length c, .bool false, .int .i64 0] 24)).alloc (.cells #[.int .i64 k, .bool r, .slice RA RN RC, .int .i64 n, .int .i64 m] 53)).alloc (.cells #[.slice none 0 0, .bool false, .int .i64 0] 24)) := bal (bal (bal (Below.refl _ _) _) _) _
  have b0 : (((w.alloc (.cells #[.slice A l.length c, .bool false, .int .i64 0] 24)).alloc (.cells #[.int .i64 k, .bool r, .slice RA RN RC, .int .i64 n, .int .i64 m] 53)).alloc (.cells #[.slice none 0 0, .bool false, .int .i64 0] 24)).heap[w.heap.size]? = some (.cells (tcs A l.length c false 0) 24) := hp_old (hp_old (hp_new w _) _) _
  have b1 : (((w.alloc (.cells #[.slice A l.length c, .bool false, .int .i64 0] 24)).alloc (.cells #[.int .i64 k, .bool r, .slice RA RN RC, .int .i64 n, .int .i64 m] 53)).alloc (.cells #[.slice none 0 0, .bool false, .int .i64 0] 24)).heap[w.heap.size + 1]? = some (.cells #[.int .i64 k, .bool r, .slice RA RN RC, .int .i64 n, .int .i64 m] 53) := hp_old (hp_new1 w _ _) _
  have b2 : (((w.alloc (.cells #[.slice A l.length c, .bool false, .int .i64 0] 24)).alloc (.cells #[.int .i64 k, .bool r, .slice RA RN RC, .int .i64 n, .int .i64 m] 53)).alloc (.cells #[.slice none 0 0, .bool false, .int .i64 0] 24)).heap[w.heap.size + 1 + 1]? = some (.cells (tcs none 0 0 false 0) 24) := by
    have := hp_new1 (w.alloc (.cells #[.slice A l.length c, .bool false, .int .i64 0] 24)) (.cells #[.int .i64 k, .bool r, .slice RA RN RC, .int .i64 n, .int .i64 m] 53) (.cells #[.slice none 0 0, .bool false, .int .i64 0] 24)
    simp only [World.size_alloc] at this
    exact this
  have h2 := h.below hb2
  have PO := Lib.hid (fun W => ref07.posix_yes n W (And.intro (by omega) (by omega)) h0.1)
  have DV := Lib.hid (fun W => ref01.div_yes (n - 2208988800) 86400 W (by unfold ref01.fit; omega) (by unfold ref01.fit; omega) (by omega))
  go_enter Tryz.func21, Tryz.ntmps21
  go_wp2_with fail
  generalize (((w.alloc (.cells #[.slice A l.length c, .bool false, .int .i64 0] 24)).alloc (.cells #[.int .i64 k, .bool r, .slice RA RN RC, .int .i64 n, .int .i64 m] 53)).alloc (.cells #[.slice none 0 0, .bool false, .int .i64 0] 24)) = W2 at *
  have TC := Lib.hid (fun W (hb : Below W2.heap.size W2 W) => tcs_cells (kept b0 hb))
  have RC := Lib.hid (fun W (hb : Below W2.heap.size W2 W) => row_cells (kept b1 hb))
  have ZC := Lib.hid (fun W (hb : Below W2.heap.size W2 W) => kept b2 hb)
  have HB2 := Lib.hid hb2
  have HL := Lib.hid (fun W (hb : Below W2.heap.size W2 W) => h2.below hb)
  obtain ⟨q0, q1, q2, q3, q4⟩ := RC.out _ (Below.refl _ _)
  have AD := Lib.hid (fun W z hb => ref09.add_at l z A c false 0 W (HL.out W hb) hn)
  unfold ref09.RAdded at AD
  have NX : Hid (∀ z, (leap.nx l z false 0) = if ce (l ++ [z]) false 0 = 0 then l ++ [z] else l) := fun z => rfl
  have AE := Lib.hid (fun (W : World) (A' : Option Addr) (c' : Nat) (l' : List Lp) (er : Int) (hl : Lps W A' l') (hb : Below w.heap.size w W) (hz : Below W2.heap.size W2 W) => at_end (c := c') (er := er) hl (ZC.out W hz) hb)
  clear h h2 b0 b1 b2 hb2
  have EE : Hid (lE n (m - off) l = if (n - 2208988800) % 86400 ≠ 0 then 5 else if (m - off) ≠ 1 ∧ (m - off) ≠ -1 then 6 else ce (l ++ [lp n (m - off)]) false 0) := rfl
  have LL : Hid (nxL l n (m - off) = if lE n (m - off) l = 0 then l ++ [lp n (m - off)] else l) := rfl
  have ZZ : Hid (lp n (m - off) = ((n - 2208988800) / 86400 - 1, m - off, false)) := rfl
  generalize lE n (m - off) l = er at *
  generalize nxL l n (m - off) = l' at *
  generalize lp n (m - off) = z at *
  have dq : -9223372036854775808 ≤ (n - 2208988800) / 86400 - 1 ∧ (n - 2208988800) / 86400 - 1 ≤ 9223372036854775807 := by omega
  by_cases hd : (n - 2208988800) % 86400 = 0
  · rw [hd] at DV
    by_cases ht : (m - off) ≠ 1 ∧ (m - off) ≠ -1
    · have ee := EE.out
      rw [if_neg (by simpa using hd), if_pos ht] at ee
      have ll := LL.out.symm
      subst ee
      rw [if_neg (by decide)] at ll
      subst ll
      have t1 : (m - off != 1) = true := by simp; omega
      have t2 : (m - off != -1) = true := by simp; omega
      clear EE LL NX AD ZZ hd
      generalize (n - 2208988800) / 86400 = Q at *
      go_wp2_with (first
        | (go_at_call 20; (with_reducible refine (PO.out _).mono ?_); rintro e w1 ⟨rfl, rfl⟩)
        | (go_at_call 46; (with_reducible refine (DV.out _).mono ?_); rintro e w3 ⟨rfl, hb3⟩; obtain ⟨t0_, t1_, t2_⟩ := TC.out _ hb3; clear q0 q1 q2 q3 q4; obtain ⟨q0, q1, q2, q3, q4⟩ := RC.out _ hb3; have HB3 := Lib.hid hb3; have HW3 := Lib.hid (btr HB2.out hb3))
        | ((with_reducible refine wpList_store_row ?_ 24 (.tmp 6) (.tmp 39) ?_ (w.heap.size + 1 + 1) (tcs A l.length c false 0) ?_ ?_ 24 (tcs none 0 0 false 0) ?_ ?_ ?_ ?_ ?_); (next => rfl); (next => rfl); (next => rfl); (next => rfl); (next => exact ZC.out _ HB3.out); (next => exact szT); (next => rfl); (next => exact tcs_one _ _ _ _ _)))
      exact end_pair rfl _ _ (w.heap.size + 1 + 1) 24 (tcs A l.length c false 0) _ (.int .i64 6) rfl rfl (setRow_heap _ _ _ _ _ _ (ZC.out _ HB3.out)) Tryz.underlying24 szT rfl (AE.out _ _ _ _ _ (HL.out _ HB3.out) HW3.out HB3.out _)
    · have ee := EE.out
      rw [if_neg (by simpa using hd), if_neg ht] at ee
      have zz := ZZ.out
      subst zz
      have ADz := Lib.hid (fun W hb => AD.out W ((n - 2208988800) / 86400 - 1, m - off, false) hb)
      have ll := LL.out
      subst ee
      rw [← NX.out] at ll
      subst ll
      have ts : (m - off = 1) ∨ (m - off = -1) := by omega
      clear EE LL NX AD ZZ hd ht
      generalize (n - 2208988800) / 86400 = Q at *
      rcases ts with t | t
      · have s1 : (m - off != 1) = false := by rw [t]; rfl
        clear t
        go_wp2_with (first
          | (go_at_call 20; (with_reducible refine (PO.out _).mono ?_); rintro e w1 ⟨rfl, rfl⟩)
          | (go_at_call 46; (with_reducible refine (DV.out _).mono ?_); rintro e w3 ⟨rfl, hb3⟩; obtain ⟨t0_, t1_, t2_⟩ := TC.out _ hb3; clear q0 q1 q2 q3 q4; obtain ⟨q0, q1, q2, q3, q4⟩ := RC.out _ hb3; have HB3 := Lib.hid hb3; have HW3 := Lib.hid (btr HB2.out hb3))
          | (go_at_call 47; (with_reducible refine (ADz.out _ HB3.out).mono ?_); rintro e w4 ⟨A', c', rfl, hl4, hb4⟩; have HB4 := Lib.hid (btr HB3.out hb4); have HW4 := Lib.hid (btr HW3.out hb4); have HL4 := Lib.hid hl4; clear hl4)
          | (refine wpList_store_row rfl 24 (.tmp 6) (.tmp 46) rfl (w.heap.size + 1 + 1) (tcs A' _ c' false 0) rfl rfl 24 _ (ZC.out _ HB4.out) szT rfl (tcs_one _ _ _ _ _) ?_))
        exact end_pair rfl _ _ (w.heap.size + 1 + 1) 24 (tcs A' _ c' false 0) _ (.int .i64 _) rfl rfl (setRow_heap _ _ _ _ _ _ (ZC.out _ HB4.out)) Tryz.underlying24 szT rfl (AE.out _ _ _ _ _ HL4.out HW4.out HB4.out _)
      · have s1 : (m - off != 1) = true := by rw [t]; rfl
        have s2 : (m - off != -1) = false := by rw [t]; rfl
        clear t
        go_wp2_with (first
          | (go_at_call 20; (with_reducible refine (PO.out _).mono ?_); rintro e w1 ⟨rfl, rfl⟩)
          | (go_at_call 46; (with_reducible refine (DV.out _).mono ?_); rintro e w3 ⟨rfl, hb3⟩; obtain ⟨t0_, t1_, t2_⟩ := TC.out _ hb3; clear q0 q1 q2 q3 q4; obtain ⟨q0, q1, q2, q3, q4⟩ := RC.out _ hb3; have HB3 := Lib.hid hb3; have HW3 := Lib.hid (btr HB2.out hb3))
          | (go_at_call 47; (with_reducible refine (ADz.out _ HB3.out).mono ?_); rintro e w4 ⟨A', c', rfl, hl4, hb4⟩; have HB4 := Lib.hid (btr HB3.out hb4); have HW4 := Lib.hid (btr HW3.out hb4); have HL4 := Lib.hid hl4; clear hl4)
          | (refine wpList_store_row rfl 24 (.tmp 6) (.tmp 46) rfl (w.heap.size + 1 + 1) (tcs A' _ c' false 0) rfl rfl 24 _ (ZC.out _ HB4.out) szT rfl (tcs_one _ _ _ _ _) ?_))
        exact end_pair rfl _ _ (w.heap.size + 1 + 1) 24 (tcs A' _ c' false 0) _ (.int .i64 _) rfl rfl (setRow_heap _ _ _ _ _ _ (ZC.out _ HB4.out)) Tryz.underlying24 szT rfl (AE.out _ _ _ _ _ HL4.out HW4.out HB4.out _)
  · have ee := EE.out
    rw [if_pos hd] at ee
    have ll := LL.out.symm
    subst ee
    rw [if_neg (by decide)] at ll
    subst ll
    have t0 : ((n - 2208988800) % 86400 != 0) = true := by simp; omega
    clear EE LL NX AD ZZ hd
    generalize (n - 2208988800) / 86400 = Q at *
    generalize (n - 2208988800) % 86400 = Q2 at *
    go_wp2_with (first
      | (go_at_call 20; (with_reducible refine (PO.out _).mono ?_); rintro e w1 ⟨rfl, rfl⟩)
      | (go_at_call 46; (with_reducible refine (DV.out _).mono ?_); rintro e w3 ⟨rfl, hb3⟩; obtain ⟨t0_, t1_, t2_⟩ := TC.out _ hb3; clear q0 q1 q2 q3 q4; obtain ⟨q0, q1, q2, q3, q4⟩ := RC.out _ hb3; have HB3 := Lib.hid hb3; have HW3 := Lib.hid (btr HB2.out hb3))
      | ((with_reducible refine wpList_store_row ?_ 24 (.tmp 6) (.tmp 28) ?_ (w.heap.size + 1 + 1) (tcs A l.length c false 0) ?_ ?_ 24 (tcs none 0 0 false 0) ?_ ?_ ?_ ?_ ?_); (next => rfl); (next => rfl); (next => rfl); (next => rfl); (next => exact ZC.out _ HB3.out); (next => exact szT); (next => rfl); (next => exact tcs_one _ _ _ _ _)))
    exact end_pair rfl _ _ (w.heap.size + 1 + 1) 24 (tcs A l.length c false 0) _ (.int .i64 5) rfl rfl (setRow_heap _ _ _ _ _ _ (ZC.out _ HB3.out)) Tryz.underlying24 szT rfl (AE.out _ _ _ _ _ (HL.out _ HB3.out) HW3.out HB3.out _)
end Go.Proofs.YtldieebiicblbaaGreatDoor.ref10
