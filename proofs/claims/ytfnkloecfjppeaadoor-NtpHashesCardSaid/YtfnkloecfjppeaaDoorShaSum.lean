/-
  What sha.Sum answers: the digest of all bytes of the parts, one part behind the other. Conditions: the parts read as bytes, at most 1000000 of them together in at most 1000 parts; package sha's variable start holds what its initialiser lays.
-/
import Derived.Test.YtfnkloecfjppeaaDoorShaPad
namespace Go.Proofs.YtfnkloecfjppeaaDoor.sha
open Go.ChangeShapes Go.WideShapes Go.ChangeAt Go.RowKit
open sx
set_option linter.unusedVariables false


/-- a slice of bytes, wherever it lies. -/
def RdW (W : World) (v : Value) (l : List Nat) : Prop :=
  ∃ A cap, v = .slice A l.length cap ∧ l.length ≤ cap ∧ (A = none → cap = 0) ∧ (l ≠ [] → ∃ b o, A = some ⟨b, o, none⟩ ∧ ∀ k (h : k < l.length), W.cell? ⟨b, o + k, none⟩ = some (.int .u8 (l[k] : Nat)))
theorem RdW.at {W : World} {v : Value} {l : List Nat} (h : RdW W v l) {B : Nat} (hB : W.heap.size ≤ B) {W' : World} (hb : Below W.heap.size W W') : Rd B W' v l := by
  obtain ⟨A, cap, e, hc, hz, hr⟩ := h
  refine ⟨A, cap, e, hc, fun hl => ?_⟩
  obtain ⟨b, o, hA, hcell⟩ := hr hl
  have hlt : b < W.heap.size := World.block_lt_of_cell? W _ (hcell 0 (List.length_pos_iff.2 hl))
  exact ⟨b, o, hA, by omega, fun k hk => (hb.cell (p := ⟨b, o + k, none⟩) hlt).trans (hcell k hk)⟩
theorem RdW.below {W W' : World} {v : Value} {l : List Nat} (h : RdW W v l) (hb : Below W.heap.size W W') : RdW W' v l := by
  obtain ⟨A, cap, e, hc, hz, hr⟩ := h
  refine ⟨A, cap, e, hc, hz, fun hl => ?_⟩
  obtain ⟨b, o, hA, hcell⟩ := hr hl
  have hlt : b < W.heap.size := World.block_lt_of_cell? W _ (hcell 0 (List.length_pos_iff.2 hl))
  exact ⟨b, o, hA, fun k hk => (hb.cell (p := ⟨b, o + k, none⟩) hlt).trans (hcell k hk)⟩
theorem own_rdW {base : Nat} {W : World} {v : Value} {l : List Nat} (h : Own base W v l) : RdW W v l := by
  rcases h.2 with ⟨rfl, hn⟩ | ⟨g, cap, cur, rfl, hb, hh, hnc, _⟩
  · exact ⟨none, 0, by rw [hn], by omega, fun _ => rfl, fun hl => absurd (List.eq_nil_of_length_eq_zero hn) hl⟩
  · refine ⟨_, cap, rfl, hnc, (fun h => by cases h), fun hl => ⟨g, 0, rfl, fun k hk => ?_⟩⟩
    rw [Nat.zero_add, World.ownsRow.cellAt h k (by omega)]
    simp [bc, hk]
/-- parts, as they are read. -/
def Pts (W : World) (v : Value) (ls : List (List Nat)) : Prop :=
  ∃ A cap, v = .slice A ls.length cap ∧ (ls ≠ [] → ∃ b o, A = some ⟨b, o, none⟩ ∧ ∀ k (h : k < ls.length), ∃ x, W.cell? ⟨b, o + k, none⟩ = some x ∧ RdW W x ls[k])
def flat (ls : List (List Nat)) : List Nat := ls.flatten
theorem flat_take (ls : List (List Nat)) (k : Nat) (h : k < ls.length) : flat (ls.take (k + 1)) = flat (ls.take k) ++ ls[k] := by
  unfold flat; rw [List.take_succ_eq_append_getElem h, List.flatten_append]; simp
theorem flat_len (ls : List (List Nat)) : ∀ k, (flat (ls.take k)).length ≤ (flat ls).length := fun k => by
  unfold flat
  have : ls.flatten = (ls.take k).flatten ++ (ls.drop k).flatten := by rw [← List.flatten_append, List.take_append_drop]
  rw [this, List.length_append]; omega

theorem wpList_load_at {P : Program} {ops : Array Oper} {rest : List Oper} {o : Oper} {a : Act} {w : World} {Q : Exit → Act → World → Prop} (hgd : o.guard = none) (ty : TypeId) (x : Operand) (ho : o.op = .load ty x) (p : Addr) (hx : a.eval x = .pointer (some p)) (c : Array Value)
    (hl : (loadVar ty p).run P w = .ok (.agg c) w) (h : wpList P ops Q rest (a.put o.dst (.agg c)) w) : wpList P ops Q (o :: rest) a w :=
  wpList_plain hgd fun K hK => by
    unfold Oper.wp execOp
    simp only [ho, hx, Instr.loadAt, Instr.sureAddr, Sem.run_bind, Sem.run_pure, Result.andThen_ok, hl]
    exact hK _ _ h

def zero70 : Array Value := sc ⟨0, 0, 0, 0, 0⟩ (fun _ => 0) 0
theorem sc_size (V : V5) (bl : Nat → Nat) (fl : Nat) : (sc V bl fl).size = 70 := ar_size _ _
theorem sc_one (V : V5) (bl : Nat → Nat) (fl : Nat) : (sc V bl fl).all (·.oneCell') = true := by
  rw [Array.all_eq_true_iff_forall_mem]
  intro x hx
  obtain ⟨j, hj, rfl⟩ := List.mem_map.1 (by simpa [sc, ar] using hx : x ∈ (List.range 70).map (sg V bl fl))
  unfold sg
  split
  · rfl
  split
  · rfl
  · rfl
end Go.Proofs.YtfnkloecfjppeaaDoor.sha
