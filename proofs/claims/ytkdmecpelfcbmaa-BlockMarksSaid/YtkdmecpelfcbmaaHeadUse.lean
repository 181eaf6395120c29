/-
  What Encode and Decode answer, as the walks of layer 15's statements want it. Condition: as said.
-/
import Derived.Test.YtkdmecpelfcbmaaHeadSmall
import Derived.Test.YtkdmecpelfcbmaaHeadLaw
namespace Go.Proofs.Ytkdmecpelfcbmaa.head
open Go.ChangeShapes Go.WideShapes Go.ChangeAt Go.RowKit
open om mem oct hd
set_option linter.unusedVariables false
set_option maxRecDepth 100000

theorem eqZ (W : World) : (Op.equalIn 10000 28 (.agg #[.int .i64 0, .int .i64 0, .int .i64 0, .int .i64 0, .int .i64 0, .int .i64 0, .int .i64 0]) (.agg #[.int .i64 0, .int .i64 0, .int .i64 0, .int .i64 0, .int .i64 0, .int .i64 0, .int .i64 0])).run Try.prog W = .ok true W := by
  have := eqH zero zero W
  rw [hdb_self] at this
  exact this
/-- a conversion at a step of a region that draws its order around calls that make memory. -/
theorem qconv {P : Program} {ops : Array Oper} {C : World → Prop} {Q : Act → Prop} {a : Act} {o : Oper} {rest : List Oper} (hw : Region.wanted o (yielded ops a.tmps) = true) (ft tt : TypeId) (x : Operand) (ho : o.op = .convert ft tt x) (s : Value)
    (hl : ∀ W, C W → (convert ft tt (a.eval x)).run P W = .ok s W) (h : wpQuiet P ops C Q rest (a.put o.dst s)) : wpQuiet P ops C Q (o :: rest) a := by
  refine wpQuiet_step (fun K hK => ?_)
  rw [if_pos hw]
  refine ⟨s, fun W hW => ?_, hK _ h⟩
  have := hl W hW
  unfold Oper.quietAt execOp
  simp only [ho, Sem.run_bind, Sem.run_pure, Result.andThen_ok, this]
  exact ⟨rfl, rfl⟩
end Go.Proofs.Ytkdmecpelfcbmaa.head
