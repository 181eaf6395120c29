/-
  A row of names that came in, with its room; 'append' of a whole row of names; names that are handed in twice. Conditions: as said.
-/
import Derived.Test.YtgnglejdmnpfiaaAbbrLaw
import Derived.Laws.AppendOwnNone
namespace Go.Proofs.Ytgnglejdmnpfiaa.abr
open Go.ChangeShapes Go.WideShapes Go.ChangeAt Go.RowKit
open lx ab mem
set_option linter.unusedVariables false
set_option maxRecDepth 100000

def RowC (W : World) (A : Option Addr) (c : Nat) (l : List ByteArray) : Prop := RowN W A l ∧ (A = none → c = 0)
theorem open_names_c {H : Type} {enc : TypeId × Value → H} {W : World} {base : Nat} {v : Value} {d : DataW H} {p : List MemPlace} (hv : Value.okWide Try.prog W .any base 22 v) (h : DataW.Trod enc Try.prog W 0 (fun _ => true) true 22 v d p) :
    ∃ A c l, v = .slice A l.length c ∧ RowC W A c l := by
  obtain ⟨A, c, l, rfl, hr⟩ := open_names hv h
  refine ⟨A, c, l, rfl, hr, ?_⟩
  rintro rfl
  obtain ⟨fuel, hf⟩ := h
  rcases ChangeShapes.open_strings (cs := [.slice none l.length c]) Try.underlying22 Try.underlying9 cells_str hf with ⟨h1, _⟩ | ⟨a, len, cap, ss, h1, _⟩
  · simp only [List.cons.injEq, Value.slice.injEq, and_true] at h1
    exact h1.2.2
  · simp only [List.cons.injEq, Value.slice.injEq, and_true] at h1
    cases h1.1
def SOwn (base : Nat) (W : World) (v : Value) (l : List ByteArray) : Prop := W.ownsRow base 9 1 v l.length (l.map Value.string)
theorem sown_lit (base : Nat) (W : World) (hb : base ≤ W.heap.size) : SOwn base (W.alloc (.cells #[] 9)) (.slice (some ⟨W.heap.size, 0, none⟩) 0 0) [] :=
  World.ownsRow_lit (base := base) (e := 9) (size := 1) W #[] 0 hb (by unfold maxLen; omega) rfl
theorem sown_below {base : Nat} {w W W' : World} {v : Value} {l : List ByteArray} (ho : SOwn base W v l) (hb : Below base w W) (hbs : base ≤ W.heap.size) (hg : W.grownBy W' v.ownBlock) : Below base w W' :=
  hb.grown hg hbs (fun k hk => (World.ownsRow.lt ho k hk).1)
/-- 'append(row, l...)', l a row of names that came in. -/
theorem app_names {ops : Array Oper} {rest : List Oper} {o : Oper} {a : Act} {Q : Exit → Act → World → Prop} (hgd : o.guard = none) (s x : Operand)
    (ho : o.op = .call { callee := .builtin .append, args := #[s, x], argTypes := #[22, 22] }) (base : Nat) (W : World) (v : Value) (l m r : List ByteArray) (A : Option Addr) (c : Nat)
    (hs : a.eval s = v) (hx : a.eval x = .slice A m.length c) (hown : SOwn base W v l) (hr : lines.Strs W A m) (hc : A = none → c = 0) (hlm : l ++ m = r) (hn : r.length < 8000000000) (hbase : base ≤ W.heap.size)
    (h : ∀ v' w', SOwn base w' v' r → W.grownBy w' v.ownBlock → wpList Try.prog ops Q rest (a.put o.dst v') w') :
    wpList Try.prog ops Q (o :: rest) a W := by
  subst hlm
  rw [List.length_append] at hn
  obtain ⟨i0, hi, hz0, hz1, hz2⟩ := info_parts lines.infoS
  cases A with
  | none =>
    have hm : m = [] := by
      refine Classical.byContradiction fun hne => ?_
      obtain ⟨b, o, e, _⟩ := hr hne
      cases e
    subst hm
    obtain rfl := hc rfl
    refine wpList_append_own_none hgd s x 22 ho base 9 i0 1 Try.underlying22 hi v l.length (l.map Value.string) hs hown hx ?_
    exact h v W (by rw [List.append_nil]; exact hown) (World.grownBy.refl W _)
  | some ad =>
    refine wpList_append_own _ hgd s x 22 ho base 9 i0 _ 1 16 Try.underlying22 hi hz0 hz1 hz2 rfl (by decide) v l.length (l.map Value.string) hs hown ad m.length c (m.map Value.string) hx (by simp) (fun j u hu => ?_) (lines.strs_oneCell m) ?_ (by omega) hbase ?_
    · have hj : j < m.length := by have := (List.getElem?_eq_some_iff.1 hu).1; simpa using this
      obtain ⟨b, o, e, _, hcell⟩ := hr (fun e => by rw [e] at hj; simp at hj)
      cases e
      rw [Addr.add_mid, hcell j hj, ← hu]
      simp [hj]
    · unfold maxLen; omega
    · intro v' w' h1 h2 _
      refine h v' w' ?_ h2
      unfold SOwn
      rw [List.length_append, List.map_append]
      exact h1

/-! names handed in twice -/
theorem fold_had : ∀ (X ds : List Nm), (∀ x ∈ X, x ∈ ds) → X.foldl nx ds = ds
  | [], ds, _ => rfl
  | x :: X, ds, h => by
    rw [List.foldl_cons, nx_had (h x (by simp))]
    exact fold_had X ds (fun y hy => h y (by simp [hy]))
theorem dst_twice (Y : List Nm) : dst (Y ++ Y) = dst Y := by
  show (Y ++ Y).foldl nx [] = _
  rw [List.foldl_append]
  exact fold_had Y (dst Y) (fun x hx => (dst_mem Y x).2 hx)
theorem ok_twice (Y : List Nm) : okB (Y ++ Y) = okB Y := by
  unfold okB
  rw [dst_twice, List.all_append, Bool.and_self]
theorem pT_twice (Y : List Nm) : pT (Y ++ Y) = pT Y := by
  unfold pT
  rw [ok_twice, dst_twice]
theorem pN_twice (Y : List Nm) : pN (Y ++ Y) = pN Y ++ pN Y := by
  unfold pN
  rw [ok_twice, dst_twice]
  split
  · rw [List.map_append]
  · rfl
end Go.Proofs.Ytgnglejdmnpfiaa.abr
