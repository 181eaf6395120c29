/-
  What Encode and Decode answer, as the walks of layer 15's statements want it. Condition: as said.
-/
import Derived.Test.YtkbpmopnphcfjaaHeadSmall
import Derived.Test.YtkbpmopnphcfjaaHeadLaw
namespace Go.Proofs.Ytkbpmopnphcfjaa.head
open Go.ChangeShapes Go.WideShapes Go.ChangeAt Go.RowKit
open om mem oct hd
set_option linter.unusedVariables false
set_option maxRecDepth 100000

/-- of a right head. -/
theorem enc_right {h : Hd} (k : hd.okB h = true) (W : World) : Calls Try.prog 9 #[(.agg #[.int .i64 h.v, .int .i64 h.ut, .int .i64 h.sd, .int .i64 h.lp, .int .i64 h.tm, .int .i64 h.ty, .int .i64 h.ch])] W fun e w' => ∃ g c, e = .returned (.tuple #[.slice (some ⟨g, 0, none⟩) 44 c, .bool true]) ∧ 44 ≤ c ∧ Own W.heap.size w' (.slice (some ⟨g, 0, none⟩) 44 c) (byts h) ∧ Below W.heap.size W w' :=
  (encode_at h W).mono fun e w' ⟨v', he, ho, hb⟩ => by
    rw [enc_yes k] at ho
    rw [k] at he
    obtain ⟨g, c, rfl, hc⟩ := own44 ho (byts_len h)
    exact ⟨g, c, he, hc, ho, hb⟩
/-- of one that is not. -/
theorem enc_wrong {h : Hd} (k : hd.okB h = false) (W : World) : Calls Try.prog 9 #[(.agg #[.int .i64 h.v, .int .i64 h.ut, .int .i64 h.sd, .int .i64 h.lp, .int .i64 h.tm, .int .i64 h.ty, .int .i64 h.ch])] W fun e w' => ∃ A c, e = .returned (.tuple #[.slice A 0 c, .bool false]) ∧ Own W.heap.size w' (.slice A 0 c) [] ∧ Below W.heap.size W w' :=
  (encode_at h W).mono fun e w' ⟨v', he, ho, hb⟩ => by
    rw [enc_no k] at ho
    rw [k] at he
    obtain ⟨A, c, rfl⟩ := own_len ho
    exact ⟨A, c, he, ho, hb⟩
/-- bytes that begin with a head. -/
theorem dec_is {l : List Nat} (k : isB vof l = true) (v : Value) (W : World) (h : RdW W v l) (hb : Bys l) (hn : l.length ≤ 9223372036854775807) : Calls Try.prog 11 #[v] W fun e w' => e = .returned (.tuple #[(.agg #[.int .i64 (dec vof l).v, .int .i64 (dec vof l).ut, .int .i64 (dec vof l).sd, .int .i64 (dec vof l).lp, .int .i64 (dec vof l).tm, .int .i64 (dec vof l).ty, .int .i64 (dec vof l).ch]), .bool true]) ∧ Below W.heap.size W w' :=
  (decode_at l v W h hb hn).mono fun e w' ⟨he, hb⟩ => by
    rw [k] at he
    exact ⟨he, hb⟩
/-- bytes that begin with none. -/
theorem dec_not {l : List Nat} (k : isB vof l = false) (v : Value) (W : World) (h : RdW W v l) (hb : Bys l) (hn : l.length ≤ 9223372036854775807) : Calls Try.prog 11 #[v] W fun e w' => e = .returned (.tuple #[.agg #[.int .i64 0, .int .i64 0, .int .i64 0, .int .i64 0, .int .i64 0, .int .i64 0, .int .i64 0], .bool false]) ∧ Below W.heap.size W w' :=
  (decode_at l v W h hb hn).mono fun e w' ⟨he, hb⟩ => by
    rw [k, dec_no k] at he
    exact ⟨he, hb⟩
theorem eqZ (W : World) : (Op.equalIn 10000 23 (.agg #[.int .i64 0, .int .i64 0, .int .i64 0, .int .i64 0, .int .i64 0, .int .i64 0, .int .i64 0]) (.agg #[.int .i64 0, .int .i64 0, .int .i64 0, .int .i64 0, .int .i64 0, .int .i64 0, .int .i64 0])).run Try.prog W = .ok true W := by
  have := eqH zero zero W
  rw [hdb_self] at this
  exact this
/-- a conversion at a step of a region that draws its order around calls that make memory. -/
theorem qconv {P : Program} {ops : Array Oper} {C : World → Prop} {Q : Act → Prop} {a : Act} {o : Oper} {rest : List Oper} (hw : Region.wanted o (yielded ops a.tmps) = true) (ft tt : TypeId) (x : Operand) (ho : o.op = .convert ft tt x) (s : Value)
    (hl : ∀ W, C W → (convert ft tt (a.eval x)).run P W = .ok s W) (h : wpQuiet P ops C Q rest (a.put o.dst s)) : wpQuiet P ops C Q (o :: rest) a := by
  refine wpQuiet_step (fun K hK => ?_)
  rw [if_pos hw]
  refine ⟨s, fun W hW => ?_, hK _ h⟩
  have := hl W hW
  unfold Oper.quietAt execOp
  simp only [ho, Sem.run_bind, Sem.run_pure, Result.andThen_ok, this]
  exact ⟨rfl, rfl⟩
end Go.Proofs.Ytkbpmopnphcfjaa.head
