/-
  The small case of layer 6 comes out true. Condition: package sha's variable start holds what its initialiser lays.
-/
import Derived.Test.YtfnkloecfjppeaaDoorShaSum
import Derived.Test.YtfnkloecfjppeaaDoorShaHex
import Derived.ChangeKeysEq
import Derived.BigFrame
namespace Go.Proofs.YtfnkloecfjppeaaDoor.sha
open Go.ChangeShapes Go.WideShapes Go.ChangeAt Go.RowKit
open sx
set_option linter.unusedVariables false

/-! arrays compared -/
def same (f g : Nat → Nat) (n : Nat) : Bool := (List.range n).all fun i => f i == g i
theorem same_self (f : Nat → Nat) (n : Nat) : same f f n = true := by simp [same]
theorem same_iff (f g : Nat → Nat) (n : Nat) : same f g n = true ↔ ∀ j, j < n → f j = g j := by simp [same]
theorem items (K : IntKind) (e : TypeId) (d : Nat) (f g : Nat → Nat) (n : Nat) (W : World) (hu : Tryd.prog.underlying e = some (.int K)) (hc : Tryd.prog.cellsOf e = 1) : ∀ is : List Nat, (∀ i ∈ is, i < n) →
    (Op.eqItems (d + 1) e (Tryd.prog.cellsOf e) (cs K f n) (cs K g n) is).run Tryd.prog W = .ok (is.all fun i => f i == g i) W
  | [], _ => by simp [Op.eqItems]
  | i :: is, h => by
    have hi := h i (List.mem_cons_self ..)
    have ih := items K e d f g n W hu hc is (fun j hj => h j (List.mem_cons_of_mem _ hj))
    have p : ∀ g : Nat → Nat, (part e (cs K g n) (i * Tryd.prog.cellsOf e)).run Tryd.prog W = .ok (.int K (g i : Nat)) W := fun g => by
      rw [hc, Nat.mul_one]
      simp [part, isAgg, run_underlying hu, cs_get K g n i hi]
    simp only [Op.eqItems, Sem.run_bind, p, Result.andThen_ok, run_equalIn_int (P := Tryd.prog) W d e K K _ _ hu]
    by_cases hfg : f i = g i
    · simp only [hfg, beq_self_eq_true, Bool.not_true, Bool.false_eq_true, if_false, List.all_cons, Bool.true_and]
      exact ih
    · have h1 : ((f i : Int) == (g i : Int)) = false := by simp; omega
      have h2 : (f i == g i) = false := by simp [hfg]
      simp [h1, h2]
theorem cB : Tryd.prog.cellsOf 5 = 1 := by kernel_rfl
theorem cW : Tryd.prog.cellsOf 22 = 1 := by kernel_rfl
theorem eq20 (f g : Nat → Nat) (W : World) : (Op.equalIn 10000 38 (.agg (cs .u8 f 20)) (.agg (cs .u8 g 20))).run Tryd.prog W = .ok (same f g 20) W := by
  obtain ⟨i0, hi, _⟩ := Option.map_eq_some_iff.1 szb
  rw [run_equalIn_array W 9999 (cs .u8 f 20) (cs .u8 g 20) Tryd.underlying38 hi]
  exact items .u8 5 9998 f g 20 W Tryd.underlying5 cB (List.range 20) (fun i hi => List.mem_range.1 hi)
theorem szw : (Tryd.prog.info? 22).map (·.size) = some 1 := by kernel_rfl
theorem eq5 (f g : Nat → Nat) (W : World) : (Op.equalIn 10000 23 (.agg (cs .u32 f 5)) (.agg (cs .u32 g 5))).run Tryd.prog W = .ok (same f g 5) W := by
  obtain ⟨i0, hi, _⟩ := Option.map_eq_some_iff.1 szw
  rw [run_equalIn_array W 9999 (cs .u32 f 5) (cs .u32 g 5) Tryd.underlying23 hi]
  exact items .u32 22 9998 f g 5 W Tryd.underlying22 cW (List.range 5) (fun i hi => List.mem_range.1 hi)

/-! what the small case asks -/
def sABC : ByteArray := ⟨#[97, 57, 57, 57, 51, 101, 51, 54, 52, 55, 48, 54, 56, 49, 54, 97, 98, 97, 51, 101, 50, 53, 55, 49, 55, 56, 53, 48, 99, 50, 54, 99, 57, 99, 100, 48, 100, 56, 57, 100]⟩
def sNil : ByteArray := ⟨#[100, 97, 51, 57, 97, 51, 101, 101, 53, 101, 54, 98, 52, 98, 48, 100, 51, 50, 53, 53, 98, 102, 101, 102, 57, 53, 54, 48, 49, 56, 57, 48, 97, 102, 100, 56, 48, 55, 48, 57]⟩
theorem dig_byt (s : V5) (n : Nat) : Byt (dig s) n := fun j _ => dig_lt s j

theorem bal {w W : World} (hb : Below w.heap.size w W) (o : Obj) : Below w.heap.size w (W.alloc o) := hb.alloc hb.size o
theorem btr {w W W' : World} (hb : Below w.heap.size w W) (h : Below W.heap.size W W') : Below w.heap.size w W' := hb.trans (h.mono hb.size)
theorem kept {W W' : World} {g : Nat} {o : Obj} (h : W.heap[g]? = some o) (hb : Below W.heap.size W W') : W'.heap[g]? = some o := by
  rw [hb.block g (Array.getElem?_eq_some_iff.1 h).1]; exact h
/-- one part. -/
theorem pts_one {W : World} {v : Value} {l : List Nat} (h : RdW W v l) : Pts (W.alloc (.cells #[v] 36)) (.slice (some ⟨W.heap.size, 0, none⟩) 1 1) [l] := by
  have hb : Below W.heap.size W (W.alloc (.cells #[v] 36)) := (Below.refl _ _).alloc (Nat.le_refl _) _
  refine ⟨_, _, rfl, fun _ => ⟨W.heap.size, 0, rfl, fun k hk => ?_⟩⟩
  obtain rfl : k = 0 := by simpa using hk
  exact ⟨v, row_cell (hp_new _ _) 0 _ rfl, h.below hb⟩
theorem rd_lit (W : World) (l : List Nat) (c : Array Value) (fr : Nat × Nat) (hc : c = (bc l).toArray) : RdW (W.alloc (.cells c 5 fr)) (.slice (some ⟨W.heap.size, 0, none⟩) l.length l.length) l := by
  subst hc
  refine ⟨_, _, rfl, Nat.le_refl _, (fun h => by cases h), fun _ => ⟨W.heap.size, 0, rfl, fun k hk => ?_⟩⟩
  rw [Nat.zero_add]
  exact row_cell (hp_new _ _) k _ (by simp [bc, hk])
theorem gload {P : Program} {ops : Array Oper} {rest : List Oper} {o : Oper} {a : Act} {w : World} {Q : Exit → Act → World → Prop} (hw : Region.wanted o (yielded ops a.tmps) = true) (ty : TypeId) (x : Operand) (ho : o.op = .load ty x) (g : Nat) (hx : a.eval x = .pointer (some ⟨g, 0, none⟩)) (t : TypeId) (c : Array Value)
    (hg : w.heap[g]? = some (.cells c t (0, 0))) (n : Nat) (e : TypeId) (hu : P.underlying ty = some (.array n e)) (hi : (P.info? ty).map (·.size) = some c.size) (h : wpList P ops Q rest (a.put o.dst (.agg c)) w) : wpList P ops Q (o :: rest) a w :=
  BigFrame.wpList_want hw fun K hK => wp_load_row ty x ho g hx t c (0, 0) _ hg hu rfl hi (hK _ _ h)
theorem sload {P : Program} {ops : Array Oper} {w : World} {Q : Act → Prop} {a : Act} {o : Oper} {rest : List Oper} (hw : Region.wanted o (yielded ops a.tmps) = true) (ty : TypeId) (x : Operand) (ho : o.op = .load ty x) (p : Addr) (hx : a.eval x = .pointer (some p)) (c : Array Value)
    (hl : (loadVar ty p).run P w = .ok (.agg c) w) (h : wpStill P ops w Q rest (a.put o.dst (.agg c))) : wpStill P ops w Q (o :: rest) a := by
  refine wpStill_step (fun K hK => ?_)
  rw [if_pos hw]
  unfold Oper.still execOp
  simp only [ho, hx, Instr.loadAt, Instr.sureAddr, Sem.run_bind, Sem.run_pure, Result.andThen_ok, hl]
  exact ⟨rfl, hK _ h⟩
theorem load20 {W : World} {g : Nat} {f : Nat → Nat} (h : W.heap[g]? = some (.cells (cs .u8 f 20) 38)) : (loadVar 38 ⟨g, 0, none⟩).run Tryd.prog W = .ok (.agg (cs .u8 f 20)) W :=
  run_loadVar_row W g 38 38 (cs .u8 f 20) (0, 0) _ h Tryd.underlying38 rfl (szc sz20 _ _)
end Go.Proofs.YtfnkloecfjppeaaDoor.sha
