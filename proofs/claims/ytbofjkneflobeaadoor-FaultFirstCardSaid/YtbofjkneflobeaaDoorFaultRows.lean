/-
  Rows of faults of a call's own: what they hold, and what 'append' makes of them. Conditions: as said.
-/
import Derived.Test.YtbofjkneflobeaaDoorFaultFirst
import Derived.Maps.AppendAt
import Derived.Laws.OwnMore
namespace Go.Proofs.YtbofjkneflobeaaDoor.fault
open Go.ChangeShapes Go.WideShapes Go.ChangeAt Go.RowKit
open fx mem
set_option linter.unusedVariables false

/-- the cells of a row of faults. -/
def fcs : List Flt → List Value
  | [] => []
  | f :: l => .int .i64 f.1 :: .int .i64 f.2 :: fcs l
theorem fcs_len : ∀ l : List Flt, (fcs l).length = l.length * 2
  | [] => rfl
  | f :: l => by rw [fcs, List.length_cons, List.length_cons, fcs_len l, List.length_cons]; omega
theorem fcs_app : ∀ l m : List Flt, fcs (l ++ m) = fcs l ++ fcs m
  | [], m => rfl
  | f :: l, m => by rw [List.cons_append, fcs, fcs, fcs_app l m]; rfl
theorem fcs_one : ∀ (l : List Flt), ∀ u ∈ fcs l, u.oneCell' = true
  | [], u, h => by cases h
  | f :: l, u, h => by
    rw [fcs] at h
    rcases List.mem_cons.1 h with rfl | h
    · rfl
    · rcases List.mem_cons.1 h with rfl | h
      · rfl
      · exact fcs_one l u h
theorem fcs_at : ∀ (l : List Flt) (k : Nat) (h : k < l.length), (fcs l)[k * 2]? = some (.int .i64 l[k].1) ∧ (fcs l)[k * 2 + 1]? = some (.int .i64 l[k].2)
  | f :: l, 0, _ => ⟨rfl, rfl⟩
  | f :: l, k + 1, h => by
    have h' : k < l.length := by simpa using h
    have := fcs_at l k h'
    rw [fcs, show (k + 1) * 2 = k * 2 + 1 + 1 by omega]
    exact this
theorem Flts.of_own {w : World} {base : Nat} {e : TypeId} {v : Value} {l : List Flt} (h : w.ownsRow base e 2 v l.length (fcs l)) :
    ∃ A c, v = .slice A l.length c ∧ Flts w A l := by
  have h0 := h
  rcases h.2 with ⟨rfl, hn⟩ | ⟨g, cap, cur, rfl, hb, hh, hnc, _⟩
  · rw [hn]
    exact ⟨none, 0, rfl, fun hl => absurd (List.eq_nil_of_length_eq_zero hn) hl⟩
  · refine ⟨_, _, rfl, fun hl => ⟨g, 0, rfl, hp_lt hh, fun k hk => ?_⟩⟩
    have := fcs_at l k hk
    rw [Nat.zero_add]
    exact ⟨(h0.cellAt (k * 2) (by omega)).trans this.1, (h0.cellAt (k * 2 + 1) (by omega)).trans this.2⟩
theorem infoF : (Tryd.prog.info? 24).map (fun i => (i.zero, i.size, i.bytes)) = some (some (.agg #[.int .i64 0, .int .i64 0]), 2, 16) := by kernel_rfl
theorem cell_two (w : World) (x y : Value) (t : TypeId) : ∀ j u, [x, y][j]? = some u → (w.alloc (.cells #[x, y] t)).cell? ((⟨w.heap.size, 0, none⟩ : Addr).add j) = some u := by
  intro j u hj
  rw [Addr.add_mid, Nat.zero_add, row_cell (hp_new w (.cells #[x, y] t)) j]
  simpa using hj
/-- 'all = append(all, y)', all a row of the call's own. -/
theorem app_fault {ops : Array Oper} {rest : List Oper} {o : Oper} {a : Act} {Q : Exit → Act → World → Prop} (hgd : o.guard = none) (s x : Operand)
    (ho : o.op = .call { callee := .builtin .append, args := #[s, x], argTypes := #[25, 25] }) (base : Nat) (W : World) (v : Value) (ls : List Flt) (y0 y1 : Int)
    (hs : a.eval s = v) (hx : a.eval x = .slice (some ⟨W.heap.size, 0, none⟩) 1 1) (hown : W.ownsRow base 24 2 v ls.length (fcs ls)) (hn : ls.length < 8000000000000) (hbase : base ≤ W.heap.size)
    (h : ∀ v' w', w'.ownsRow base 24 2 v' (ls ++ [(y0, y1)]).length (fcs (ls ++ [(y0, y1)])) → W.grownBy w' v.ownBlock → wpList Tryd.prog ops Q rest (a.put o.dst v') w') :
    wpList Tryd.prog ops Q (o :: rest) a (W.alloc (.cells #[.int .i64 y0, .int .i64 y1] 24)) := by
  obtain ⟨i0, hi, hz0, hz1, hz2⟩ := info_parts infoF
  refine wpList_append_own _ hgd s x 25 ho base 24 i0 _ 2 16 Tryd.underlying25 hi hz0 hz1 hz2 rfl (by decide) v ls.length (fcs ls) hs (hown.alloc _) ⟨W.heap.size, 0, none⟩ 1 1 [.int .i64 y0, .int .i64 y1] hx rfl (cell_two _ _ _ _) (fcs_one [(y0, y1)]) ?_ (by omega) (by simp; omega) ?_
  · unfold maxLen; omega
  · intro v' w' h1 h2 _
    refine h v' w' ?_ ((World.grownBy_alloc W _ _).trans h2)
    rw [fcs_app, List.length_append]
    exact h1
end Go.Proofs.YtbofjkneflobeaaDoor.fault
