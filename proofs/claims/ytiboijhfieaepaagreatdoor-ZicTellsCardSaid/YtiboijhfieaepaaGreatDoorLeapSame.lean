/-
  What leap's Same answers, and the library's Equal of rows of leaps. Condition: the slices read as the rows.
-/
import Derived.Test.YtiboijhfieaepaaGreatDoorLeapTotal
namespace Go.Proofs.YtiboijhfieaepaaGreatDoor.leap
open Go.ChangeShapes Go.WideShapes Go.ChangeAt Go.RowKit
open lm mem
set_option linter.unusedVariables false
set_option maxRecDepth 100000

set_option maxRecDepth 100000 in
theorem eqL (a b c d : Int) (r s : Bool) (W : World) : (Op.equalIn 10000 39 (.agg #[.int .i64 a, .int .i64 b, .bool r]) (.agg #[.int .i64 c, .int .i64 d, .bool s])).run Tryz.prog W = .ok (decide ((a, b, r) = (c, d, s))) W := by
  rw [run_equalIn_struct W 9999 39 _ _ (by kernel_rfl) (by kernel_rfl)]
  have hf : Tryz.prog.fieldsOf 39 = (match Tryz.prog.underlying 39 with | some (.struct fs) => fs | _ => #[]) := by kernel_rfl
  rw [Tryz.underlying39] at hf
  simp only at hf
  rw [hf]
  have p0 : ∀ x y : Int, ∀ t, (part 3 #[.int .i64 x, .int .i64 y, .bool t] 0).run Tryz.prog W = .ok (.int .i64 x) W := fun x y t => by simp [part, isAgg, run_underlying Tryz.underlying3]
  have p1 : ∀ x y : Int, ∀ t, (part 3 #[.int .i64 x, .int .i64 y, .bool t] 1).run Tryz.prog W = .ok (.int .i64 y) W := fun x y t => by simp [part, isAgg, run_underlying Tryz.underlying3]
  have p2 : ∀ x y : Int, ∀ t, (part 4 #[.int .i64 x, .int .i64 y, .bool t] 2).run Tryz.prog W = .ok (.bool t) W := fun x y t => by simp [part, isAgg, run_underlying Tryz.underlying4]
  have e3 : ∀ x y : Int, (Op.equalIn 9999 3 (.int .i64 x) (.int .i64 y)).run Tryz.prog W = .ok (x == y) W := fun x y => run_equalIn_int W 9998 3 .i64 .i64 x y Tryz.underlying3
  have e4 : ∀ x y : Bool, (Op.equalIn 9999 4 (.bool x) (.bool y)).run Tryz.prog W = .ok (x == y) W := fun x y => run_equalIn_bool W 9998 4 x y Tryz.underlying4
  by_cases h : a = c <;> by_cases h2 : b = d <;> by_cases h3 : r = s <;> simp [Op.eqFields, Sem.run_bind, p0, p1, p2, e3, e4, h, h2, h3]
theorem ext3 {l m : List Lp} (h : l.length = m.length) (hk : ∀ k, k < l.length → (dy l k, lm.st l k, rl l k) = (dy m k, lm.st m k, rl m k)) : l = m := by
  refine List.ext_getElem h fun k h1 h2 => ?_
  have := hk k h1
  unfold dy lm.st rl at this
  rw [List.getD_eq_getElem?_getD, List.getElem?_eq_getElem h1, List.getD_eq_getElem?_getD, List.getElem?_eq_getElem h2] at this
  simp at this
  exact Prod.ext this.1 (Prod.ext this.2.1 this.2.2)
/-- at the head of a round. -/
def EHead (l m : List Lp) (w : World) (i : Value) (W : World) : Prop :=
  ∃ k : Nat, k ≤ l.length ∧ i = .int .i64 (k : Nat) ∧ Below w.heap.size w W ∧ ∀ j, j < k → (dy l j, lm.st l j, rl l j) = (dy m j, lm.st m j, rl m j)
/-- do two tables say the same? -/
def sm (l m : List Lp) (h1 h2 : Bool) (x y : Int) : Bool := h1 == h2 && x == y && decide (l = m)
theorem sm_iff {l m : List Lp} {h1 h2 : Bool} {x y : Int} : sm l m h1 h2 x y = true ↔ l = m ∧ h1 = h2 ∧ x = y := by
  unfold sm
  simp only [Bool.and_eq_true, beq_iff_eq, decide_eq_true_eq]
  constructor
  · rintro ⟨⟨a, b⟩, c⟩; exact ⟨c, a, b⟩
  · rintro ⟨a, b, c⟩; exact ⟨⟨b, c⟩, a⟩
end Go.Proofs.YtiboijhfieaepaaGreatDoor.leap
