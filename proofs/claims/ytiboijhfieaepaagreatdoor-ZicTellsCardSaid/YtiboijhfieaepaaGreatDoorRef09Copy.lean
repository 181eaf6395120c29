/-
  The document's own answers of layer 9: Copy and Add. Conditions: the slice reads as the row.
-/
import Derived.Test.YtiboijhfieaepaaGreatDoorRef09Total
namespace Go.Proofs.YtiboijhfieaepaaGreatDoor.ref09
open Go.ChangeShapes Go.WideShapes Go.ChangeAt Go.RowKit
open lm mem leap
set_option linter.unusedVariables false
set_option maxRecDepth 100000

/-- a row of leaps of a call's own, as the library tells it. -/
def Row (w : World) (B : Nat) (v : Value) (l : List Lp) : Prop := w.ownsRow B 39 3 v l.length (pcs l)
theorem Row.slice {w : World} {B : Nat} {v : Value} {l : List Lp} (h : Row w B v l) : ∃ A c, v = .slice A l.length c ∧ Lps w A l ∧ l.length ≤ c := by
  have h0 := h
  rcases h.2 with ⟨rfl, hn⟩ | ⟨g, cap, cur, rfl, hb, hh, hnc, _, _, ht⟩
  · rw [hn]
    exact ⟨none, 0, rfl, fun hl => absurd hn hl, Nat.le_refl _⟩
  · exact ⟨_, _, rfl, Own.lps ⟨cur, hh, ht⟩, hnc⟩
theorem Row.below {w W : World} {B : Nat} {v : Value} {l : List Lp} (h : Row w B v l) (hb : Below w.heap.size w W) : Row W B v l := by
  refine ⟨h.1, ?_⟩
  rcases h.2 with e | ⟨g, cap, cur, e, hb', hh, a⟩
  · exact Or.inl e
  · exact Or.inr ⟨g, cap, cur, e, hb', kept hh hb, a⟩
theorem Row.notIn {w : World} {B : Nat} {v : Value} {l : List Lp} (h : Row w B v l) {k : Nat} (hk : w.heap.size ≤ k ∨ k < B) : v.ownBlock ≠ some k := by
  intro e
  have := World.ownsRow.lt h k e
  omega
/-- 'append(v, A...)' of a whole row. -/
theorem all_run (W : World) (B : Nat) (g : Nat) (v : Value) (ev : v = .slice (some ⟨g, 0, none⟩) 0 0) (hv : Row W B v []) (A : Option Addr) (l : List Lp) (c : Nat) (h : Lps W A l) (hn : l.length ≤ 1000000) (hB : B ≤ W.heap.size) (ty : TypeId) :
    ∃ v' W', (Builtin.append_ #[22, 22] ty #[v, .slice A l.length c]).run Tryz.prog W = .ok v' W' ∧ Row W' B v' l ∧ W.grownBy W' v.ownBlock := by
  obtain ⟨i0, hi, hz0, hz1, hz2⟩ := info_parts infoL
  have hm : l.length ≤ maxLen := by unfold maxLen; omega
  have some' : ∀ a, A = some a → (∀ j u, (pcs l)[j]? = some u → W.cell? (a.add j) = some u) → ∃ v' W', (Builtin.append_ #[22, 22] ty #[v, .slice A l.length c]).run Tryz.prog W = .ok v' W' ∧ Row W' B v' l ∧ W.grownBy W' v.ownBlock := by
    rintro a rfl hcell
    obtain ⟨v', W', hr, ho, hg, _⟩ := run_append_own (P := Tryz.prog) W B 22 ty 39 i0 _ 3 24 Tryz.underlying22 hi hz0 hz1 hz2 rfl (by decide) v 0 [] hv a l.length c (pcs l) (pcs_len l) hcell (pcs_one l) (by omega) (by omega) hB
    rw [Nat.zero_add, List.nil_append] at ho
    exact ⟨v', W', hr, ho, hg⟩
  by_cases h0 : l.length = 0
  · cases A with
    | none =>
      have el : l = [] := List.eq_nil_of_length_eq_zero h0
      subst el
      subst ev
      have hr := run_append_room_src (P := Tryz.prog) W 22 22 ty 39 i0 Tryz.underlying22 hi g 0 0 0 _ 0 [] (Src.ofNil W (e' := 39) Tryz.underlying22 c) (Nat.le_refl _) (fun j hj => by simp at hj) (fun j hj => by simp at hj)
      exact ⟨_, W, hr, hv, ⟨rfl, rfl, rfl, Nat.le_refl _, fun _ _ _ => rfl⟩⟩
    | some a =>
      have el : l = [] := List.eq_nil_of_length_eq_zero h0
      exact some' a rfl (fun j u hj => by rw [el] at hj; simp [pcs] at hj)
  · obtain ⟨b, o, e, _, hc⟩ := h.src h0
    exact some' _ e hc
/-- an 'append' whose run is known, in a list of operations. -/
theorem list_app {P : Program} {ops : Array Oper} {o : Oper} {rest : List Oper} {a : Act} {W : World} {Q : Exit → Act → World → Prop} (hgd : o.guard = none) (s x : Operand) (t : TypeId)
    (ho : o.op = .call { callee := .builtin .append, args := #[s, x], argTypes := #[t, t] }) (va vx v : Value) (W' : World) (hs : a.eval s = va) (hx : a.eval x = vx)
    (run : (Builtin.append_ #[t, t] o.type #[va, vx]).run P W = .ok v W') (h : wpList P ops Q rest (a.put o.dst v) W') : wpList P ops Q (o :: rest) a W := by
  refine wpList_plain hgd fun K hK => ?_
  unfold Oper.wp execOp
  simp only [ho, resolve, invoke, builtin, Sem.run_bind, Sem.run_pure, Result.andThen_ok, List.map_toArray, List.map_cons, List.map_nil, hs, hx, run]
  exact hK _ _ h
def Copied (l : List Lp) (has : Bool) (x : Int) (w : World) (e : Ending) (w' : World) : Prop :=
  ∃ A c, e = .returned (.agg #[.slice A l.length c, .bool has, .int .i64 x]) ∧ l.length ≤ c ∧ Row w' w.heap.size (.slice A l.length c) l ∧ Below w.heap.size w w'
set_option maxHeartbeats 1000000 in
theorem copy_at (l : List Lp) (A : Option Addr) (c : Nat) (has : Bool) (x : Int) (w : World) (h : Lps w A l) (hn : l.length ≤ 1000000) :
    Calls Tryz.prog 75 #[.agg #[.slice A l.length c, .bool has, .int .i64 x]] w (Copied l has x w) := by
  have hb3 : Below w.heap.size w (((w.alloc (.cells #[.slice A l.length c, .bool has, .int .i64 x] 24)).alloc (.cells #[.slice none 0 0, .bool false, .int .i64 0] 24)).alloc (.cells #[] 39)) := bal (bal (bal (Below.refl _ _) _) _) _
  have own : Row (((w.alloc (.cells #[.slice A l.length c, .bool has, .int .i64 x] 24)).alloc (.cells #[.slice none 0 0, .bool false, .int .i64 0] 24)).alloc (.cells #[] 39)) (w.heap.size + 1 + 1) (.slice (some ⟨w.heap.size + 1 + 1, 0, none⟩) 0 0) [] := by
    have := World.ownsRow_made (base := w.heap.size + 1 + 1) (e := 39) (size := 3) ((w.alloc (.cells #[.slice A l.length c, .bool has, .int .i64 x] 24)).alloc (.cells #[.slice none 0 0, .bool false, .int .i64 0] 24)) #[] 0 (by simp) (by decide) (by simp)
    simp only [World.size_alloc] at this
    exact this
  have b0 : (((w.alloc (.cells #[.slice A l.length c, .bool has, .int .i64 x] 24)).alloc (.cells #[.slice none 0 0, .bool false, .int .i64 0] 24)).alloc (.cells #[] 39)).heap[w.heap.size]? = some (.cells (tcs A l.length c has x) 24) := hp_old (hp_old (hp_new w _) _) _
  have b1 : (((w.alloc (.cells #[.slice A l.length c, .bool has, .int .i64 x] 24)).alloc (.cells #[.slice none 0 0, .bool false, .int .i64 0] 24)).alloc (.cells #[] 39)).heap[w.heap.size + 1]? = some (.cells (tcs none 0 0 false 0) 24) := hp_old (hp_new1 w _ _) _
  obtain ⟨v', W3, run, hrow, hg⟩ := all_run _ _ _ _ rfl own A l c (h.below hb3) hn (by simp) 22
  obtain ⟨A', c', rfl, hlp, hcap⟩ := hrow.slice
  have k0 : W3.heap[w.heap.size]? = some (.cells (tcs A l.length c has x) 24) := (hg.block _ (hp_lt b0) (by simp [Value.ownBlock]; omega)).trans b0
  have k1 : W3.heap[w.heap.size + 1]? = some (.cells (tcs none 0 0 false 0) 24) := (hg.block _ (hp_lt b1) (by simp [Value.ownBlock])).trans b1
  have hbW : Below w.heap.size w W3 := hb3.grown hg (by simp; omega) (fun k e => by simp [Value.ownBlock] at e; omega)
  have fz := tcs_frozen k0
  obtain ⟨c0, c1, c2⟩ := tcs_cells k0
  obtain ⟨e0, e1, e2⟩ := tcs_cells (tcs_set (B := A') (m := l.length) (d := c') k0)
  have K1 := Lib.hid ((heap_setCell_other W3 ⟨w.heap.size, 0, none⟩ (w.heap.size + 1) (.slice A' l.length c') (by show w.heap.size + 1 ≠ w.heap.size; omega)).trans k1)
  have R : Hid (∀ C, Copied l has x w (.returned (.agg (tcs A' l.length c' has x))) ((W3.setCell ⟨w.heap.size, 0, none⟩ (.slice A' l.length c')).setRow (w.heap.size + 1) C)) := fun C => by
    refine ⟨A', c', rfl, hcap, ?_, bel_setRow (hbW.setCell (Nat.le_refl _) _) (by omega) _⟩
    refine ⟨hrow.1, ?_⟩
    rcases hrow.2 with e | ⟨g, cap, cur, e, hb', hh, a⟩
    · exact Or.inl e
    · exact Or.inr ⟨g, cap, cur, e, by omega, (setRow_other _ _ _ _ (by omega)).trans ((heap_setCell_other _ ⟨w.heap.size, 0, none⟩ _ _ (by show g ≠ w.heap.size; omega)).trans hh), a⟩
  clear hrow hlp hg b0 b1 k0 k1 own hb3 h hbW
  go_enter Tryz.func75, Tryz.ntmps75
  go_wp2_with (first
    | (refine list_app rfl _ _ _ rfl _ _ _ _ rfl rfl run ?_)
    | (refine wpList_store_row rfl 24 (.tmp 2) (.tmp 8) rfl (w.heap.size + 1) (tcs A' l.length c' has x) rfl rfl 24 _ K1.out szT rfl (tcs_one _ _ _ _ _) ?_))
  exact end_row Tryz.results75 _ _ (w.heap.size + 1) 24 (tcs A' l.length c' has x) _ rfl (setRow_heap _ _ _ _ _ _ K1.out) Tryz.underlying24 szT rfl (R.out _)
end Go.Proofs.YtiboijhfieaepaaGreatDoor.ref09
