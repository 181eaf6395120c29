/-
  Bytes appended to a row of the call's own, and made a text; regions that draw their order, from a place on in the text's order. No condition beside those in the statements.
-/
import Derived.Test.YtfnkloecfjppeaaDoorShaLaw
import Derived.Laws.AppendOwnNone
import Derived.Laws.BytesArg
import Derived.Laws.IdiomStrings
namespace Go.Proofs.YtfnkloecfjppeaaDoor.sha
open Go.ChangeShapes Go.WideShapes Go.ChangeAt Go.RowKit
open sx
set_option linter.unusedVariables false

/-- 'all = append(all, xs...)', all a row of bytes of the call's own. -/
theorem app_any {ops : Array Oper} {rest : List Oper} {o : Oper} {a : Act} {Q : Exit → Act → World → Prop} (hgd : o.guard = none) (s x : Operand)
    (ho : o.op = .call { callee := .builtin .append, args := #[s, x], argTypes := #[36, 36] }) (base : Nat) (W : World) (v xv : Value) (l m : List Nat)
    (hs : a.eval s = v) (hx : a.eval x = xv) (hown : Own base W v l) (hr : RdW W xv m) (hn : l.length + m.length < 8000000000000) (hbase : base ≤ W.heap.size)
    (h : ∀ v' w', Own base w' v' (l ++ m) → W.grownBy w' v.ownBlock → wpList Tryd.prog ops Q rest (a.put o.dst v') w') :
    wpList Tryd.prog ops Q (o :: rest) a W := by
  obtain ⟨A, cap, rfl, hc, hz, hr⟩ := hr
  obtain ⟨i0, hi, hz0, hz1, hz2⟩ := info_parts infoB
  cases A with
  | none =>
    have hm : m = [] := by
      refine Classical.byContradiction fun hne => ?_
      obtain ⟨b, o, e, _⟩ := hr hne
      cases e
    subst hm
    have hcap := hz rfl
    subst hcap
    refine wpList_append_own_none hgd s x 36 ho base 5 i0 1 Tryd.underlying36 hi v l.length (bc l) hs hown hx ?_
    exact h v W (by rw [List.append_nil]; exact hown) (World.grownBy.refl W _)
  | some ad =>
    refine wpList_append_own _ hgd s x 36 ho base 5 i0 _ 1 1 Tryd.underlying36 hi hz0 hz1 hz2 rfl (by decide) v l.length (bc l) hs hown ad m.length cap (bc m) hx (by rw [bc_len]; omega) (fun j u hu => ?_) (bc_one m) ?_ (by omega) hbase ?_
    · have hj : j < m.length := by have := (List.getElem?_eq_some_iff.1 hu).1; rw [bc_len] at this; exact this
      obtain ⟨b, o, e, hcell⟩ := hr (fun e => by rw [e] at hj; simp at hj)
      cases e
      rw [add_at, hcell j hj, ← hu]
      simp [bc, hj]
    · unfold maxLen; omega
    · intro v' w' h1 h2 _
      have e : bc (l ++ m) = bc l ++ bc m := by unfold bc; simp
      refine h v' w' ?_ h2
      unfold Own
      rw [e, List.length_append]
      exact h1
/-- bytes as a text. -/
def strN (l : List Nat) : ByteArray := strOfNums (l.map fun (x : Nat) => (x : Int))
theorem str_of {W : World} {v : Value} {l : List Nat} (h : RdW W v l) : (convert 36 9 v).run Tryd.prog W = .ok (.string (strN l)) W := by
  obtain ⟨A, cap, rfl, hc, hz, hr⟩ := h
  by_cases hl : l = []
  · subst hl
    cases A with
    | none => exact run_convert_bytes_nil W 36 5 Tryd.underlying36 Tryd.underlying5 0 cap 9 Tryd.underlying9
    | some a => exact run_convert_bytes_back W 36 9 5 a cap [] Tryd.underlying36 Tryd.underlying5 Tryd.underlying9 (fun j hj => by simp at hj)
  · obtain ⟨b, o, rfl, hcell⟩ := hr hl
    refine run_convert_bytes_arg W 36 5 Tryd.underlying36 Tryd.underlying5 b o l.length cap (l.map fun (x : Nat) => (x : Int)) (by simp) (fun i hi => ?_) 9 Tryd.underlying9
    rw [hcell i hi]
    simp [List.getD, hi]
theorem flat_le {ls : List (List Nat)} {n : Nat} (h : ∀ l ∈ ls, l.length ≤ n) : (flat ls).length ≤ n * ls.length := by
  unfold flat
  induction ls with
  | nil => simp
  | cons l ls ih =>
    have h1 := h l (List.mem_cons_self ..)
    have h2 := ih (fun x hx => h x (List.mem_cons_of_mem _ hx))
    rw [List.flatten_cons, List.length_append, List.length_cons, Nat.mul_add]
    omega
theorem Pts.below {W W' : World} {v : Value} {ls : List (List Nat)} (h : Pts W v ls) (hb : Below W.heap.size W W') : Pts W' v ls := by
  obtain ⟨A, cap, e, hr⟩ := h
  refine ⟨A, cap, e, fun hl => ?_⟩
  obtain ⟨b, o, hA, hc⟩ := hr hl
  refine ⟨b, o, hA, fun k hk => ?_⟩
  obtain ⟨x, hx, hrd⟩ := hc k hk
  exact ⟨x, (hb.cell (p := ⟨b, o + k, none⟩) (World.block_lt_of_cell? W ⟨b, o + k, none⟩ hx)).trans hx, hrd.below hb⟩

/-! regions, from a place on -/
theorem still_from {P : Program} {Q : Exit → Act → World → Prop} {l : List Oper} {listed : Array Bool} {a : Act} {w : World} {g : Nat} (k : Nat) (hg : (l.drop k).length = g) (hs : Region.noSelect l.toArray = true) (hB : Region.lexFrom .any l.toArray g k listed = true)
    (h : wpStill P l.toArray w (fun a' => Q .normal a' w) (l.drop k) a) : wpAny P .any l.toArray Q g listed a w := by
  subst hg
  exact wpAny_of_still (Q := fun a' => Q .normal a' w) (fun _ h => h) _ _ _ (wpAnyS_lex hs (l.drop k) k listed a (fun j => by rw [List.getElem?_drop, List.getElem?_toArray]) hB h)
theorem quiet_from {P : Program} {Q : Exit → Act → World → Prop} {C : World → Prop} {l : List Oper} {listed : Array Bool} {a : Act} {w : World} {g : Nat} (k : Nat) (hg : (l.drop k).length = g) (hs : Region.noSelect l.toArray = true) (hB : Region.lexFrom .any l.toArray g k listed = true) (hw : C w)
    (h : wpQuiet P l.toArray C (fun a' => ∀ w', C w' → Q .normal a' w') (l.drop k) a) : wpAny P .any l.toArray Q g listed a w := by
  subst hg
  exact wpAny_of_quiet (Q := fun a' => ∀ w', C w' → Q .normal a' w') (fun _ w' hw' h => h w' hw') _ _ _ _ hw (wpAnyQ_lex hs (l.drop k) k listed a (fun j => by rw [List.getElem?_drop, List.getElem?_toArray]) hB h)
theorem op_load {P : Program} {ops : Array Oper} {Q : Exit → Act → World → Prop} {i : Nat} {o : Oper} {K : Act → World → Prop} {a : Act} {w : World} (hi : ops[i]? = some o) (hw : Region.wanted o (yielded ops a.tmps) = true) (ty : TypeId) (x : Operand) (ho : o.op = .load ty x) (p : Addr) (hx : a.eval x = .pointer (some p)) (c : Array Value)
    (hl : (loadVar ty p).run P w = .ok (.agg c) w) (h : K (a.put o.dst (.agg c)) w) : wpOp P ops Q i K a w := by
  unfold wpOp
  simp only [hi]
  rw [if_pos hw]
  unfold Oper.wp execOp
  simp only [ho, hx, Instr.loadAt, Instr.sureAddr, Sem.run_bind, Sem.run_pure, Result.andThen_ok, hl]
  exact Or.inl h
theorem op_any {P : Program} {ops : Array Oper} {Q : Exit → Act → World → Prop} {i : Nat} {o : Oper} {K : Act → World → Prop} {a : Act} {w : World} (hi : ops[i]? = some o) (hw : Region.wanted o (yielded ops a.tmps) = true) (h : ∀ K' : Act → World → Prop, (∀ a w, K a w → K' a w) → o.wp P a w K' Q) : wpOp P ops Q i K a w := by
  unfold wpOp
  simp only [hi]
  rw [if_pos hw]
  exact Or.inl (h K fun _ _ h => h)
end Go.Proofs.YtfnkloecfjppeaaDoor.sha
