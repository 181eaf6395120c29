/-
  What sha.mixed answers: the five words behind a block. Condition: the words are words, the bytes are bytes.
-/
import Derived.Test.YtfnkloecfjppeaaDoorShaSpread
namespace Go.Proofs.YtfnkloecfjppeaaDoor.sha
open Go.ChangeShapes Go.WideShapes Go.ChangeAt Go.RowKit
open sx
set_option linter.unusedVariables false

theorem cs5s (s : V5) : cs .u32 s.at 5 = #[.int .u32 (s.a : Nat), .int .u32 (s.b : Nat), .int .u32 (s.c : Nat), .int .u32 (s.d : Nat), .int .u32 (s.e : Nat)] := rfl
theorem row_cell {w : World} {g : Nat} {c : Array Value} {t : TypeId} {fr : Nat × Nat} (h : w.heap[g]? = some (.cells c t fr)) (j : Nat) (v : Value) (hv : c[j]? = some v) : w.cell? ⟨g, j, none⟩ = some v := by
  rw [cell_of_row w g j c t fr h]; exact hv
def fin (h s : V5) : V5 := ⟨add32 h.a s.a, add32 h.b s.b, add32 h.c s.c, add32 h.d s.d, add32 h.e s.e⟩
theorem mixV_fin (h : V5) (f : Nat → Nat) : mixV h f = fin h (stps (wd f) h 80) := rfl
theorem add32_int (x y : Nat) : ((add32 x y : Nat) : Int) = ((x : Int) + (y : Int)) % 4294967296 := by unfold add32; omega
theorem fin5 (h s : V5) : cs .u32 (fin h s).at 5 = #[.int .u32 (((h.a : Int) + (s.a : Int)) % 4294967296), .int .u32 (((h.b : Int) + (s.b : Int)) % 4294967296), .int .u32 (((h.c : Int) + (s.c : Int)) % 4294967296), .int .u32 (((h.d : Int) + (s.d : Int)) % 4294967296), .int .u32 (((h.e : Int) + (s.e : Int)) % 4294967296)] := by
  rw [cs5s, ← add32_int, ← add32_int, ← add32_int, ← add32_int, ← add32_int]
  rfl
def Five (h : V5) (f : Nat → Nat) (W : World) (A B C D E t : Value) (W' : World) : Prop :=
  ∃ i n : Nat, i ≤ 80 ∧ t = .int .i64 i ∧ A = .int .u32 ((stps (wd f) h i).a : Nat) ∧ B = .int .u32 ((stps (wd f) h i).b : Nat) ∧ C = .int .u32 ((stps (wd f) h i).c : Nat) ∧ D = .int .u32 ((stps (wd f) h i).d : Nat) ∧ E = .int .u32 ((stps (wd f) h i).e : Nat) ∧ W' = W.drewN n
end Go.Proofs.YtfnkloecfjppeaaDoor.sha
