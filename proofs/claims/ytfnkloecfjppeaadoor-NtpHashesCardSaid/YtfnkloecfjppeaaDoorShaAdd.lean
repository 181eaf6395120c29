/-
  What sha's add leaves: the digest has come as many bytes farther, and no other memory has turned. Conditions: the slice reads as bytes, and is no part of the digest's own memory.
-/
import Derived.Test.YtfnkloecfjppeaaDoorShaState
namespace Go.Proofs.YtfnkloecfjppeaaDoor.sha
open Go.ChangeShapes Go.WideShapes Go.ChangeAt Go.RowKit
open sx
set_option linter.unusedVariables false

theorem szb : (Tryd.prog.info? 5).map (·.size) = some 1 := by kernel_rfl
def lenOf : Value → Nat | .slice _ n _ => n | _ => 0
theorem loadAt_at (w : World) (B o n : Nat) (ty e : TypeId) (c : Array Value) (hu : Tryd.prog.underlying ty = some (.array n e)) (hi : (Tryd.prog.info? ty).map (·.size) = some c.size) (hc : ∀ j v, c[j]? = some v → w.cell? ⟨B, o + j, none⟩ = some v) :
    (Instr.loadAt ty (.pointer (some ⟨B, o, none⟩))).run Tryd.prog w = .ok (.agg c) w := by
  simp only [Instr.loadAt, Instr.sureAddr, Sem.run_bind, Sem.run_pure, Result.andThen]
  exact loadVar_at w B o n ty e c hu hi hc
def upd (g : Nat → Value) (i : Nat) (v : Value) (j : Nat) : Value := if j = i then v else g j
theorem ar_upd (g : Nat → Value) (n i : Nat) (v : Value) : (ar g n).setIfInBounds i v = ar (upd g i v) n := ar_set _ _ _ _ _ (if_pos rfl) fun j _ hj => if_neg hj
theorem ar_congr (g g' : Nat → Value) (n : Nat) (h : ∀ j, j < n → g j = g' j) : ar g n = ar g' n := by
  unfold ar; congr 1; exact List.map_congr_left fun j hj => h j (List.mem_range.1 hj)
theorem row_set {w : World} {g i : Nat} {c : Array Value} {t : TypeId} {v : Value} (h : w.heap[g]? = some (.cells c t (0, 0))) : (w.setCell ⟨g, i, none⟩ v).heap[g]? = some (.cells (c.setIfInBounds i v) t (0, 0)) := heap_setCell_same w g i c t v h
/-- where the rest of a slice begins. -/
def nxA (b o cap c : Nat) : Option Addr := if cap = c then some ⟨b, o, none⟩ else some ⟨b, o + c, none⟩
end Go.Proofs.YtfnkloecfjppeaaDoor.sha
