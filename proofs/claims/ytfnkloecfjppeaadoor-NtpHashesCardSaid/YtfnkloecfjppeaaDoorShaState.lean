/-
  How far a digest has come, as memory: the seventy cells of sha's sum, what a step leaves of all other memory, and slices of bytes as they are read. No condition beside those in the statements.
-/
import Derived.Test.YtfnkloecfjppeaaDoorShaMixed
import Derived.Laws.CopyOwn
namespace Go.Proofs.YtfnkloecfjppeaaDoor.sha
open Go.ChangeShapes Go.WideShapes Go.ChangeAt Go.RowKit
open sx
set_option linter.unusedVariables false

/-! arrays by a function -/
def ar (g : Nat → Value) (n : Nat) : Array Value := ((List.range n).map g).toArray
theorem ar_size (g : Nat → Value) (n : Nat) : (ar g n).size = n := by simp [ar]
theorem ar_get (g : Nat → Value) (n j : Nat) (h : j < n) : (ar g n)[j]? = some (g j) := by simp [ar, h]
theorem ar_none (g : Nat → Value) (n j : Nat) (h : ¬ j < n) : (ar g n)[j]? = none := Array.getElem?_eq_none (by rw [ar_size]; omega)
theorem ar_set (g g' : Nat → Value) (n i : Nat) (v : Value) (hv : g' i = v) (h : ∀ j, j < n → j ≠ i → g' j = g j) : (ar g n).setIfInBounds i v = ar g' n := by
  subst hv
  apply Array.ext_getElem?
  intro j
  rw [Array.getElem?_setIfInBounds]
  by_cases hj : j < n
  · rw [ar_get g' n j hj]
    by_cases e : i = j
    · subst e; simp [ar_size, hj]
    · rw [if_neg e, ar_get g n j hj, h j hj (fun k => e k.symm)]
  · rw [ar_none g n j hj, ar_none g' n j hj]
    by_cases e : i = j
    · subst e; simp [ar_size, hj]
    · rw [if_neg e]
theorem ar_splice (g g' : Nat → Value) (n o : Nat) (l : List Value) (ho : o + l.length ≤ n) (h1 : ∀ j (h : j < l.length), g' (o + j) = l[j]) (h2 : ∀ j, j < n → (j < o ∨ o + l.length ≤ j) → g' j = g j) :
    ((ar g n).toList.take o ++ l ++ (ar g n).toList.drop (o + l.length)).toArray = ar g' n := by
  have hl : (ar g n).toList.length = n := by rw [Array.length_toList, ar_size]
  apply Array.ext_getElem?
  intro j
  rw [List.getElem?_toArray]
  have hg : ∀ j, (ar g n).toList[j]? = (ar g n)[j]? := fun j => by rw [Array.getElem?_toList]
  by_cases ha : j < o
  · rw [List.append_assoc, List.getElem?_append_left (by rw [List.length_take, hl]; omega), List.getElem?_take_of_lt ha, hg, ar_get g n j (by omega), ar_get g' n j (by omega), h2 j (by omega) (Or.inl ha)]
  · by_cases hb : j < o + l.length
    · rw [List.getElem?_append_left (by rw [List.length_append, List.length_take, hl]; omega), List.getElem?_append_right (by rw [List.length_take, hl]; omega)]
      rw [List.length_take, hl, show j - min o n = j - o by omega, List.getElem?_eq_getElem (by omega), ar_get g' n j (by omega)]
      have := h1 (j - o) (by omega)
      rw [show o + (j - o) = j by omega] at this
      rw [this]
    · rw [List.getElem?_append_right (by rw [List.length_append, List.length_take, hl]; omega), List.length_append, List.length_take, hl, List.getElem?_drop, show o + l.length + (j - (min o n + l.length)) = j by omega, hg]
      by_cases hn : j < n
      · rw [ar_get g n j hn, ar_get g' n j hn, h2 j hn (Or.inr (by omega))]
      · rw [ar_none g n j hn, ar_none g' n j hn]

/-! the cells of a sum -/
def sg (V : V5) (bl : Nat → Nat) (fl : Nat) (j : Nat) : Value := if j < 5 then .int .u32 (V.at j : Nat) else if j < 69 then .int .u8 (bl (j - 5) : Nat) else .int .i64 (fl : Nat)
def sc (V : V5) (bl : Nat → Nat) (fl : Nat) : Array Value := ar (sg V bl fl) 70
theorem sg_w (V : V5) (bl : Nat → Nat) (fl j : Nat) (h : j < 5) : sg V bl fl j = .int .u32 (V.at j : Nat) := if_pos h
theorem sg_b (V : V5) (bl : Nat → Nat) (fl j : Nat) (h : j < 64) : sg V bl fl (5 + j) = .int .u8 (bl j : Nat) := by
  unfold sg; rw [if_neg (by omega), if_pos (by omega), show 5 + j - 5 = j by omega]
theorem sg_f (V : V5) (bl : Nat → Nat) (fl : Nat) : sg V bl fl 69 = .int .i64 (fl : Nat) := rfl
def put (bl : Nat → Nat) (fl : Nat) (l : List Nat) (j : Nat) : Nat := if fl ≤ j ∧ j < fl + l.length then l.getD (j - fl) 0 else bl j
def bc (l : List Nat) : List Value := l.map fun x => .int .u8 (x : Nat)
theorem bc_len (l : List Nat) : (bc l).length = l.length := by simp [bc]
theorem bc_one (l : List Nat) : ∀ u ∈ bc l, u.oneCell' = true := by
  intro u hu
  obtain ⟨x, _, rfl⟩ := List.mem_map.1 hu
  rfl
theorem sc_copy (V : V5) (bl : Nat → Nat) (fl k : Nat) (l : List Nat) (h : fl + l.length ≤ 64) :
    ((sc V bl k).toList.take (5 + fl) ++ (bc l ++ (sc V bl k).toList.drop (5 + fl + (bc l).length))).toArray = sc V (put bl fl l) k := by
  rw [← List.append_assoc]
  refine ar_splice _ _ _ _ _ (by rw [bc_len]; omega) (fun j hj => ?_) (fun j hj hh => ?_)
  · rw [bc_len] at hj
    rw [Nat.add_assoc, sg_b _ _ _ _ (by omega)]
    unfold put
    rw [if_pos (by omega), show fl + j - fl = j by omega]
    simp [bc, List.getD, List.getElem?_eq_getElem hj]
  · rw [bc_len] at hh
    unfold sg
    by_cases h5 : j < 5
    · rw [if_pos h5, if_pos h5]
    · rw [if_neg h5, if_neg h5]
      by_cases h69 : j < 69
      · rw [if_pos h69, if_pos h69]
        unfold put
        rw [if_neg (by omega)]
      · rw [if_neg h69, if_neg h69]
theorem sc_fill (V : V5) (bl : Nat → Nat) (fl k : Nat) : (sc V bl fl).setIfInBounds 69 (.int .i64 (k : Nat)) = sc V bl k :=
  ar_set _ _ _ _ _ rfl fun j hj hne => by
    unfold sg
    by_cases h5 : j < 5
    · rw [if_pos h5, if_pos h5]
    · rw [if_neg h5, if_neg h5, if_pos (by omega), if_pos (by omega)]

/-! what is kept -/
structure Keep (B : Nat) (W W' : World) : Prop where
  os : W'.os = W.os
  tape : W'.tape = W.tape
  output : W'.output = W.output
  size : W.heap.size ≤ W'.heap.size
  block : ∀ k, k < W.heap.size → k ≠ B → W'.heap[k]? = W.heap[k]?
theorem Keep.refl (B : Nat) (W : World) : Keep B W W := ⟨rfl, rfl, rfl, Nat.le_refl _, fun _ _ _ => rfl⟩
theorem Keep.trans {B : Nat} {a b c : World} (h : Keep B a b) (k : Keep B b c) : Keep B a c :=
  ⟨k.os.trans h.os, k.tape.trans h.tape, k.output.trans h.output, Nat.le_trans h.size k.size, fun i hi hn => (k.block i (Nat.lt_of_lt_of_le hi h.size) hn).trans (h.block i hi hn)⟩
theorem Keep.drewN {B : Nat} {a b : World} (h : Keep B a b) (n : Nat) : Keep B a (b.drewN n) := ⟨h.os, h.tape, h.output, h.size, h.block⟩
theorem Keep.drew {B : Nat} {a b : World} (h : Keep B a b) : Keep B a b.drew := ⟨h.os, h.tape, h.output, h.size, h.block⟩
theorem Keep.setRow {B : Nat} {a b : World} (h : Keep B a b) (c : Array Value) : Keep B a (b.setRow B c) :=
  h.trans ⟨rfl, rfl, rfl, by simp, fun k _ hn => setRow_other _ _ _ _ hn⟩
theorem Keep.setCell {B : Nat} {a b : World} (h : Keep B a b) (o : Nat) (v : Value) : Keep B a (b.setCell ⟨B, o, none⟩ v) :=
  h.trans ⟨rfl, rfl, rfl, by simp [World.setCell], fun k _ hn => Below.heap_setCell _ _ _ _ hn⟩
theorem Keep.below {B : Nat} {a b c : World} (h : Keep B a b) (k : Below b.heap.size b c) : Keep B a c :=
  h.trans ⟨k.os, k.tape, k.output, k.size, fun i hi _ => k.block i hi⟩
theorem Keep.to_below {B base : Nat} {w a b : World} (h : Keep B a b) (k : Below base w a) (hb : base ≤ B) (hs : base ≤ a.heap.size) : Below base w b :=
  k.trans ⟨h.os, h.tape, h.output, h.size, fun i hi => h.block i (by omega) (by omega)⟩
theorem Keep.cell {B : Nat} {a b : World} (h : Keep B a b) {p : Addr} {v : Value} (hp : p.block ≠ B) (hc : a.cell? p = some v) : b.cell? p = some v := by
  rw [World.cell?_of_block (w := a) (h.block p.block (World.block_lt_of_cell? a p hc) hp)]; exact hc

/-! a slice of bytes -/
def Rd (B : Nat) (W : World) (v : Value) (l : List Nat) : Prop :=
  ∃ A cap, v = .slice A l.length cap ∧ l.length ≤ cap ∧ (l ≠ [] → ∃ b o, A = some ⟨b, o, none⟩ ∧ b ≠ B ∧ ∀ k (h : k < l.length), W.cell? ⟨b, o + k, none⟩ = some (.int .u8 (l[k] : Nat)))
theorem Rd.keep {B : Nat} {W W' : World} {v : Value} {l : List Nat} (h : Rd B W v l) (k : Keep B W W') : Rd B W' v l := by
  obtain ⟨A, cap, e, hc, hr⟩ := h
  refine ⟨A, cap, e, hc, fun hl => ?_⟩
  obtain ⟨b, o, hA, hb, hcell⟩ := hr hl
  exact ⟨b, o, hA, hb, fun j hj => k.cell (p := ⟨b, o + j, none⟩) hb (hcell j hj)⟩

/-! how far it has come -/
def Rep (m : List Nat) (V : V5) (bl : Nat → Nat) (fl : Nat) : Prop :=
  V = hs m (m.length / 64) ∧ fl = m.length % 64 ∧ Byt bl 64 ∧ ∀ j, j < fl → bl j = m.getD (64 * (m.length / 64) + j) 0
theorem rep_start : Rep [] sx.start (fun _ => 0) 0 := ⟨rfl, rfl, fun _ _ => (by show 0 < 256; decide), fun j hj => by omega⟩
theorem put_byt {bl : Nat → Nat} {fl : Nat} {l : List Nat} (h : Byt bl 64) (hl : Bys l) : Byt (put bl fl l) 64 := by
  intro j hj
  unfold put
  split
  · exact getD_lt hl _
  · exact h j hj
theorem getD_app_left (m l : List Nat) (j : Nat) (h : j < m.length) : (m ++ l).getD j 0 = m.getD j 0 := by
  simp only [List.getD]; rw [List.getElem?_append_left h]
theorem getD_app_right (m l : List Nat) (j : Nat) (h : m.length ≤ j) : (m ++ l).getD j 0 = l.getD (j - m.length) 0 := by
  simp only [List.getD]; rw [List.getElem?_append_right h]
/-- some bytes more, and the block is not full. -/
theorem rep_more {m l : List Nat} {V : V5} {bl : Nat → Nat} {fl : Nat} (h : Rep m V bl fl) (hl : Bys l) (hn : fl + l.length < 64) : Rep (m ++ l) V (put bl fl l) (fl + l.length) := by
  obtain ⟨h1, h2, h3, h4⟩ := h
  have e1 : (m ++ l).length / 64 = m.length / 64 := by rw [List.length_append]; omega
  refine ⟨?_, by rw [List.length_append]; omega, put_byt h3 hl, fun j hj => ?_⟩
  · rw [e1, h1, hs_app m l _ (by omega)]
  · rw [e1]
    unfold put
    by_cases hj' : j < fl
    · rw [if_neg (by omega), h4 j hj', getD_app_left m l _ (by omega)]
    · rw [if_pos (by omega), getD_app_right m l _ (by omega), show 64 * (m.length / 64) + j - m.length = j - fl by omega]
/-- some bytes more, and the block is full. -/
theorem rep_full {m l : List Nat} {V : V5} {bl : Nat → Nat} {fl : Nat} (h : Rep m V bl fl) (hl : Bys l) (hn : fl + l.length = 64) : Rep (m ++ l) (mixV V (put bl fl l)) (put bl fl l) 0 := by
  obtain ⟨h1, h2, h3, h4⟩ := h
  have e1 : (m ++ l).length / 64 = m.length / 64 + 1 := by rw [List.length_append]; omega
  refine ⟨?_, by rw [List.length_append]; omega, put_byt h3 hl, fun j hj => by omega⟩
  rw [e1, hs, hs_app m l _ (by omega), h1]
  apply mixV_congr
  intro j hj
  unfold put at0
  by_cases hj' : j < fl
  · rw [if_neg (by omega), h4 j hj', getD_app_left m l _ (by omega)]
  · rw [if_pos (by omega), getD_app_right m l _ (by omega), show 64 * (m.length / 64) + j - m.length = j - fl by omega]

theorem add_at (B o j : Nat) : (⟨B, o, none⟩ : Addr).add j = ⟨B, o + j, none⟩ := by unfold Addr.add; split <;> simp_all
/-! an array out of the middle of a row -/
theorem loadVar_at (w : World) (B o n : Nat) (ty e : TypeId) (c : Array Value) (hu : Tryd.prog.underlying ty = some (.array n e)) (hi : (Tryd.prog.info? ty).map (·.size) = some c.size) (hc : ∀ j v, c[j]? = some v → w.cell? ⟨B, o + j, none⟩ = some v) :
    (loadVar ty ⟨B, o, none⟩).run Tryd.prog w = .ok (.agg c) w := by
  have hl : (loadCells ⟨B, o, none⟩ c.toList.length).run Tryd.prog w = .ok c.toList.toArray w :=
    run_loadCells_list (P := Tryd.prog) w ⟨B, o, none⟩ c.toList (fun j v hv => by
      have hadd : (⟨B, o, none⟩ : Addr).add j = ⟨B, o + j, none⟩ := add_at B o j
      rw [hadd]
      exact hc j v (by simpa using hv))
  cases hq : Tryd.prog.info? ty with
  | none => simp [hq] at hi
  | some i =>
    have hs : i.size = c.size := by simpa [hq] using hi
    have hagg : (isAgg ty).run Tryd.prog w = .ok true w := by
      unfold isAgg
      rw [Sem.run_bind, run_underlying hu w]
      rfl
    simp only [Array.length_toList, Array.toArray_toList] at hl
    simp [loadVar, Sem.run_bind, hagg, sizeOf, typeInfo, hq, hs, hl]
theorem wpStill_load {P : Program} {ops : Array Oper} {w : World} {Q : Act → Prop} {a : Act} {o : Oper} {rest : List Oper} (hgd : o.guard = none) (ty : TypeId) (x : Operand) (ho : o.op = .load ty x) (p : Addr) (hx : a.eval x = .pointer (some p)) (c : Array Value)
    (hl : (loadVar ty p).run P w = .ok (.agg c) w) (h : wpStill P ops w Q rest (a.put o.dst (.agg c))) : wpStill P ops w Q (o :: rest) a := by
  refine wpStill_step (fun K hK => ?_)
  rw [if_pos (by unfold Region.wanted; rw [hgd])]
  unfold Oper.still execOp
  simp only [ho, hx, Instr.loadAt, Instr.sureAddr, Sem.run_bind, Sem.run_pure, Result.andThen_ok, hl]
  exact ⟨rfl, hK _ h⟩
theorem seq_from {P : Program} {Q : Exit → Act → World → Prop} {l : List Oper} {listed : Array Bool} {a : Act} {w : World} {g : Nat} (n : Nat) (hg : (l.drop n).length = g) (hB : Region.seqB .any l.toArray g n listed = true) (h : wpList P l.toArray Q (l.drop n) a w) : wpAny P .any l.toArray Q g listed a w := by
  subst hg
  exact wpAny_of_seq (l.drop n) n listed a w (fun j => by rw [List.getElem?_drop, List.getElem?_toArray]) hB h
theorem wpOp_load {P : Program} {ops : Array Oper} {Q : Exit → Act → World → Prop} {i : Nat} {o : Oper} {K : Act → World → Prop} {a : Act} {w : World} (hi : ops[i]? = some o) (hgd : o.guard = none) (ty : TypeId) (x : Operand) (ho : o.op = .load ty x) (p : Addr) (hx : a.eval x = .pointer (some p)) (c : Array Value)
    (hl : (loadVar ty p).run P w = .ok (.agg c) w) (h : K (a.put o.dst (.agg c)) w) : wpOp P ops Q i K a w := by
  unfold wpOp
  simp only [hi]
  rw [if_pos (by unfold Region.wanted; rw [hgd])]
  unfold Oper.wp execOp
  simp only [ho, hx, Instr.loadAt, Instr.sureAddr, Sem.run_bind, Sem.run_pure, Result.andThen_ok, hl]
  exact Or.inl h
end Go.Proofs.YtfnkloecfjppeaaDoor.sha
