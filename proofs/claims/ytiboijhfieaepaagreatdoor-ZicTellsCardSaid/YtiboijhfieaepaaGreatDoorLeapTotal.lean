/-
  What leap's Find, Total, Step, Length and Same answer. Conditions: the slices read as the rows, and have room for them; but for Same the leaps are right.
-/
import Derived.Test.YtiboijhfieaepaaGreatDoorLeapFind
namespace Go.Proofs.YtiboijhfieaepaaGreatDoor.leap
open Go.ChangeShapes Go.WideShapes Go.ChangeAt Go.RowKit
open lm mem
set_option linter.unusedVariables false
set_option maxRecDepth 100000

/-- a table's box, behind calls. -/
theorem box_tab (w : World) (A : Option Addr) (n c : Nat) (has : Bool) (x : Int) {w1 : World} (hb : Below (w.alloc (.cells #[.slice A n c, .bool has, .int .i64 x] 24)).heap.size (w.alloc (.cells #[.slice A n c, .bool has, .int .i64 x] 24)) w1) :
    w1.cell? ⟨w.heap.size, 0, none⟩ = some (.slice A n c) ∧ w1.cell? ⟨w.heap.size, 1, none⟩ = some (.bool has) ∧ w1.cell? ⟨w.heap.size, 2, none⟩ = some (.int .i64 x) :=
  have h := row_cell (kept (hp_new w (.cells #[.slice A n c, .bool has, .int .i64 x] 24)) hb)
  ⟨h 0, h 1, h 2⟩
set_option maxRecDepth 100000 in
theorem cutL (A : Option Addr) (n c f : Nat) (h : f ≤ c) (W : World) : (Instr.slice 22 (.slice A n c) none (some (.int .i64 (f : Nat))) none).run Tryz.prog W = .ok (.slice A f c) W := by
  rw [run_slice_h (P := Tryz.prog) W 22 A n c Tryz.underlying22 .i64 f (by omega) (by omega)]
  rw [show (Go.sizeOf (Tryz.prog.elem 22)).run Tryz.prog W = .ok 3 W by kernel_rfl]
  simp only [Result.andThen, sliced, Int.toNat_natCast, Nat.sub_zero, Nat.zero_mul]
  cases A with
  | none => simp
  | some a => simp [Addr.add]
end Go.Proofs.YtiboijhfieaepaaGreatDoor.leap
