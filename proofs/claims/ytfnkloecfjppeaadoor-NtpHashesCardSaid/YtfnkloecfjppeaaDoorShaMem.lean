/-
  Whole arrays by value, out of rows and into them, at this program; what the memory keeps. No condition beside those in the statements.
-/
import Derived.Test.YtfnkloecfjppeaaDoorShaWord
import Derived.Laws.Rows
import Derived.Laws.Tables
import Derived.Deep.WholeRow
import Derived.StillTailTactics
namespace Go.Proofs.YtfnkloecfjppeaaDoor.sha
open Go.ChangeShapes Go.WideShapes Go.ChangeAt Go.RowKit
open sx
set_option linter.unusedVariables false

theorem sz20 : (Tryd.prog.info? 38).map (·.size) = some 20 := by kernel_rfl
theorem sz64 : (Tryd.prog.info? 87).map (·.size) = some 64 := by kernel_rfl
theorem sz5 : (Tryd.prog.info? 23).map (·.size) = some 5 := by kernel_rfl
theorem szc {t : TypeId} {n : Nat} (h : (Tryd.prog.info? t).map (·.size) = some n) (K : IntKind) (g : Nat → Nat) : (Tryd.prog.info? t).map (·.size) = some (cs K g n).size := by rw [cs_size]; exact h

theorem hp_new (w : World) (o : Obj) : (w.alloc o).heap[w.heap.size]? = some o := heap_alloc_new w o
theorem hp_old {w : World} {k : Nat} {v : Obj} (h : w.heap[k]? = some v) (o : Obj) : (w.alloc o).heap[k]? = some v := by
  rw [Below.heap_alloc w o k (Array.getElem?_eq_some_iff.1 h).1]; exact h
theorem hp_new1 (w : World) (a o : Obj) : ((w.alloc a).alloc o).heap[w.heap.size + 1]? = some o := heap_alloc2_new w a o
theorem hp_new2 (w : World) (a b o : Obj) : (((w.alloc a).alloc b).alloc o).heap[w.heap.size + 1 + 1]? = some o := by
  have h := heap_alloc_new ((w.alloc a).alloc b) o
  rw [show ((w.alloc a).alloc b).heap.size = w.heap.size + 1 + 1 by simp] at h
  exact h
theorem bel_setRow {B : Nat} {a w : World} (h : Below B a w) {g : Nat} (hg : B ≤ g) (c : Array Value) : Below B a (w.setRow g c) :=
  h.trans ⟨rfl, rfl, rfl, by simp, fun k hk => setRow_other _ _ _ _ (by omega)⟩
theorem bel_drewN {B : Nat} {a w : World} (h : Below B a w) (n : Nat) : Below B a (w.drewN n) := ⟨h.os, h.tape, h.output, h.size, h.block⟩

/-- a region that draws its order, all of whose operations but the last ones only read: in the text's order. -/
theorem tail_region {P : Program} {id : Nat} {Q : Exit → Act → World → Prop} {a : Act} {w : World} {l : List Oper} (n : Nat) (hm : P.follows .mixedOrders = true) (hB : Region.lexTailB .any l.toArray n = true)
    (h : wpStill P l.toArray w.drew (fun a' => wpList P l.toArray Q (l.drop n) a' w.drew) (l.take n) a) : (Code.region id l.toArray true).wp P Q a w := wp_region_still_tail n hm hB h
theorem still_region {P : Program} {id : Nat} {Q : Exit → Act → World → Prop} {a : Act} {w : World} {l : List Oper} (hm : P.follows .mixedOrders = true) (hB : Region.lexB .any l.toArray = true)
    (h : wpStill P l.toArray w.drew (fun a' => Q .normal a' w.drew) l a) : (Code.region id l.toArray true).wp P Q a w := wp_region_still_lit hm hB h
theorem calls_turn {P : Program} {f : Nat} {args : Array Value} {w : World} {v : Value} (h : Calls P f args w fun e w' => e = .returned v ∧ w = w') : Calls P f args w fun e w' => e = .returned v ∧ w' = w := h.mono fun _ _ ⟨a, b⟩ => ⟨a, b.symm⟩
/-- 'return x': the row g is laid whole into the result's row r, and that is told. -/
theorem end_row {fn : Func} {R : Ending → World → Prop} {p : Tmp} {ty : TypeId} (hr : fn.results = #[.cell p ty]) (a : Act) (w : World) (g : Nat) (t : TypeId) (c : Array Value) (n : Nat) (e : TypeId)
    (hp : a.tmps.getD p undef = .pointer (some ⟨g, 0, none⟩)) (hg : w.heap[g]? = some (.cells c t (0, 0))) (hu : Tryd.prog.underlying ty = some (.array n e))
    (hi : (Tryd.prog.info? ty).map (·.size) = some c.size) (hdf : a.defers = []) (h : R (.returned (.agg c)) w) : bodyPost Tryd.prog fn R .ret a w :=
  bodyPost_ret (v := .agg c) (results_cell_row hr _ _ g t c (0, 0) _ hp hg hu rfl hi) hdf h
end Go.Proofs.YtfnkloecfjppeaaDoor.sha
