/-
  Rows of leaps of a call's own: what they hold, and what 'append' makes of a row without spare room. Conditions: as said.
-/
import Derived.Test.YtiboijhfieaepaaGreatDoorLeapSame
import Derived.Deep.AppendSrc
import Derived.StillTailTactics
namespace Go.Proofs.YtiboijhfieaepaaGreatDoor.leap
open Go.ChangeShapes Go.WideShapes Go.ChangeAt Go.RowKit
open lm mem
set_option linter.unusedVariables false
set_option maxRecDepth 100000

/-- the cells of a row of leaps. -/
def pcs : List Lp → List Value
  | [] => []
  | f :: l => .int .i64 f.1 :: .int .i64 f.2.1 :: .bool f.2.2 :: pcs l
theorem pcs_len : ∀ l : List Lp, (pcs l).length = l.length * 3
  | [] => rfl
  | f :: l => by rw [pcs, List.length_cons, List.length_cons, List.length_cons, pcs_len l, List.length_cons]; omega
theorem pcs_app : ∀ l m : List Lp, pcs (l ++ m) = pcs l ++ pcs m
  | [], m => rfl
  | f :: l, m => by rw [List.cons_append, pcs, pcs, pcs_app l m]; rfl
theorem pcs_one : ∀ (l : List Lp), ∀ u ∈ pcs l, u.oneCell' = true
  | [], u, h => by cases h
  | f :: l, u, h => by
    rw [pcs] at h
    rcases List.mem_cons.1 h with rfl | h
    · rfl
    rcases List.mem_cons.1 h with rfl | h
    · rfl
    rcases List.mem_cons.1 h with rfl | h
    · rfl
    · exact pcs_one l u h
theorem dy_cons' (f : Lp) (l : List Lp) (k : Nat) : dy (f :: l) (k + 1) = dy l k ∧ lm.st (f :: l) (k + 1) = lm.st l k ∧ rl (f :: l) (k + 1) = rl l k := by
  unfold dy lm.st rl; simp
theorem pcs_at : ∀ (l : List Lp) (k : Nat) (h : k < l.length), (pcs l)[k * 3]? = some (.int .i64 (dy l k)) ∧ (pcs l)[k * 3 + 1]? = some (.int .i64 (lm.st l k)) ∧ (pcs l)[k * 3 + 2]? = some (.bool (rl l k))
  | f :: l, 0, _ => ⟨rfl, rfl, rfl⟩
  | f :: l, k + 1, h => by
    have h' : k < l.length := by simpa using h
    have := pcs_at l k h'
    obtain ⟨e0, e1, e2⟩ := dy_cons' f l k
    rw [pcs, show (k + 1) * 3 = k * 3 + 1 + 1 + 1 by omega, e0, e1, e2]
    exact this
theorem pcs_get (l : List Lp) (j : Nat) (u : Value) (h : (pcs l)[j]? = some u) : ∃ k, k < l.length ∧ ((j = k * 3 ∧ u = .int .i64 (dy l k)) ∨ (j = k * 3 + 1 ∧ u = .int .i64 (lm.st l k)) ∨ (j = k * 3 + 2 ∧ u = .bool (rl l k))) := by
  have hj : j < l.length * 3 := by
    rw [← pcs_len l]
    rcases Nat.lt_or_ge j (pcs l).length with g | g
    · exact g
    · rw [List.getElem?_eq_none g] at h; cases h
  have hk : j / 3 < l.length := by omega
  obtain ⟨a, b, c⟩ := pcs_at l (j / 3) hk
  refine ⟨j / 3, hk, ?_⟩
  have h3 : j = j / 3 * 3 ∨ j = j / 3 * 3 + 1 ∨ j = j / 3 * 3 + 2 := by omega
  rcases h3 with e | e | e
  · left; refine ⟨e, ?_⟩; rw [e] at h; exact Option.some.inj (h.symm.trans a)
  · right; left; refine ⟨e, ?_⟩; rw [e] at h; exact Option.some.inj (h.symm.trans b)
  · right; right; refine ⟨e, ?_⟩; rw [e] at h; exact Option.some.inj (h.symm.trans c)
theorem Lps.src {w : World} {A : Option Addr} {l : List Lp} (h : Lps w A l) (h0 : l.length ≠ 0) : ∃ b o, A = some ⟨b, o, none⟩ ∧ b < w.heap.size ∧ ∀ j u, (pcs l)[j]? = some u → w.cell? ((⟨b, o, none⟩ : Addr).add j) = some u := by
  obtain ⟨b, o, e, hb, hc⟩ := h h0
  refine ⟨b, o, e, hb, fun j u hj => ?_⟩
  obtain ⟨k, hk, h3⟩ := pcs_get l j u hj
  rw [Addr.add_mid]
  rcases h3 with ⟨rfl, rfl⟩ | ⟨rfl, rfl⟩ | ⟨rfl, rfl⟩
  · exact (hc k hk).1
  · exact (hc k hk).2.1
  · exact (hc k hk).2.2
/-- the block N holds a row of leaps ahead of its spare room. -/
def Own (w : World) (N : Nat) (l : List Lp) : Prop := ∃ cs : Array Value, w.heap[N]? = some (.cells cs 39 (0, 0)) ∧ cs.toList.take (l.length * 3) = pcs l
theorem Own.lt {w : World} {N : Nat} {l : List Lp} (h : Own w N l) : N < w.heap.size := by obtain ⟨cs, h, _⟩ := h; exact hp_lt h
theorem Own.kept {w W : World} {N : Nat} {l : List Lp} (h : Own w N l) (hb : Below w.heap.size w W) : Own W N l := by obtain ⟨cs, h, g⟩ := h; exact ⟨cs, mem.kept h hb, g⟩
theorem Own.cut {w : World} {N : Nat} {l m : List Lp} (h : Own w N (l ++ m)) : Own w N l := by
  obtain ⟨cs, h, g⟩ := h
  refine ⟨cs, h, ?_⟩
  have := congrArg (List.take (l.length * 3)) g
  rw [List.take_take, pcs_app, List.take_left' (pcs_len l), List.length_append, Nat.min_eq_left (Nat.mul_le_mul_right 3 (Nat.le_add_right _ _))] at this
  exact this
theorem Own.lps {w : World} {N : Nat} {l : List Lp} (h : Own w N l) : Lps w (some ⟨N, 0, none⟩) l := by
  obtain ⟨cs, h, g⟩ := h
  intro h0
  refine ⟨N, 0, rfl, hp_lt h, fun k hk => ?_⟩
  have at' : ∀ j, j < l.length * 3 → w.cell? ⟨N, j, none⟩ = (pcs l)[j]? := fun j hj => by
    rw [row_cell h j, ← g, List.getElem?_take_of_lt hj, Array.getElem?_toList]
  obtain ⟨a, b, c⟩ := pcs_at l k hk
  rw [Nat.zero_add]
  exact ⟨(at' _ (by omega)).trans a, (at' _ (by omega)).trans b, (at' _ (by omega)).trans c⟩
theorem infoL : (Tryz.prog.info? 39).map (fun i => (i.zero, i.size, i.bytes)) = some (some (.agg #[.int .i64 0, .int .i64 0, .bool false]), 3, 24) := by kernel_rfl
/-- 'append(A[:n:n], y)': a new row. -/
theorem app_run (W : World) (A : Option Addr) (l : List Lp) (h : Lps W A l) (hn : l.length ≤ 1000000) (g : Nat) (z : Lp) (hz : W.heap[g]? = some (.cells #[.int .i64 z.1, .int .i64 z.2.1, .bool z.2.2] 39)) (ty : TypeId) :
    ∃ cap cs, (Builtin.append_ #[22, 22] ty #[.slice A l.length l.length, .slice (some ⟨g, 0, none⟩) 1 1]).run Tryz.prog W = .ok (.slice (some ⟨W.heap.size, 0, none⟩) (l.length + 1) cap) (W.drew.alloc (.cells cs 39)) ∧ l.length + 1 ≤ cap ∧ cap ≤ maxLen ∧ cs.toList.take ((l ++ [z]).length * 3) = pcs (l ++ [z]) := by
  obtain ⟨i0, hi, hz0, hz1, hz2⟩ := info_parts infoL
  have src : Src Tryz.prog i0.size 22 (.slice (some ⟨g, 0, none⟩) 1 1) 1 (pcs [z]) W := by
    rw [hz1]
    refine Src.ofSlice W (e' := 39) Tryz.underlying22 ⟨g, 0, none⟩ 1 1 (pcs [z]) (pcs_len [z]) (fun j u hj => ?_) (pcs_one [z])
    rw [Addr.add_mid, Nat.zero_add, row_cell hz j]
    simpa [pcs] using hj
  have hold : (Builtin.firstCells i0.size l.length (.slice A l.length l.length)).run Tryz.prog W.drew = .ok (pcs l).toArray W.drew := by
    rw [hz1]
    by_cases h0 : l.length = 0
    · have : l = [] := List.eq_nil_of_length_eq_zero h0
      subst this
      cases A with
      | none => exact run_firstCells_none W.drew 3 0 0 0
      | some a => exact run_firstCells_some W.drew 3 0 a 0 0 [] rfl (fun j u hj => by simp at hj)
    · obtain ⟨b, o, rfl, _, hc⟩ := h.src h0
      exact run_firstCells_some W.drew 3 l.length ⟨b, o, none⟩ l.length l.length (pcs l) (pcs_len l) (fun j u hj => by simpa using hc j u hj)
  have hm : l.length + 1 ≤ maxLen := by unfold maxLen; omega
  have := run_append_grow_src (P := Tryz.prog) W 22 22 ty 39 i0 _ Tryz.underlying22 hi hz0 A l.length l.length (pcs l) hold (.slice (some ⟨g, 0, none⟩) 1 1) 1 (pcs [z]) src (by omega) (by omega) (by rw [hz2]; exact growslice_fits (by omega) (by omega))
  refine ⟨_, _, this, grownCap_ge _ _ _ _, grownCap_le_maxLen _ _ _ _ hm, ?_⟩
  rw [pcs_app, Array.toList_append, List.take_left']
  simp [pcs_len]
  omega
end Go.Proofs.YtiboijhfieaepaaGreatDoor.leap
