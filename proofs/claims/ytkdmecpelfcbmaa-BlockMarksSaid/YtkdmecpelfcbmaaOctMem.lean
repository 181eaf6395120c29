/-
  Bytes in memory: slices of them as they are read, rows of them that a call owns, 'append', 'make', texts of them; and what is kept where one block is written. Nothing of any one function. Conditions: as said.
-/
import Derived.Test.YtkdmecpelfcbmaaMem
import Derived.Test.YtkdmecpelfcbmaaOctMath
import Derived.Laws.AppendOwnNone
import Derived.Laws.BytesArg
import Derived.Laws.IdiomStrings
import Derived.Maps.AppendAt
import Derived.Deep.AppendLies
import Derived.Laws.OwnMore
namespace Go.Proofs.Ytkdmecpelfcbmaa.oct
open Go.ChangeShapes Go.WideShapes Go.ChangeAt Go.RowKit
open om mem
set_option linter.unusedVariables false
set_option maxRecDepth 100000

/-! what is kept where one block is written -/
structure Keep (B : Nat) (W W' : World) : Prop where
  os : W'.os = W.os
  tape : W'.tape = W.tape
  output : W'.output = W.output
  size : W.heap.size ≤ W'.heap.size
  block : ∀ k, k < W.heap.size → k ≠ B → W'.heap[k]? = W.heap[k]?
theorem Keep.refl (B : Nat) (W : World) : Keep B W W := ⟨rfl, rfl, rfl, Nat.le_refl _, fun _ _ _ => rfl⟩
theorem Keep.trans {B : Nat} {a b c : World} (h : Keep B a b) (k : Keep B b c) : Keep B a c :=
  ⟨k.os.trans h.os, k.tape.trans h.tape, k.output.trans h.output, Nat.le_trans h.size k.size, fun i hi hn => (k.block i (Nat.lt_of_lt_of_le hi h.size) hn).trans (h.block i hi hn)⟩
theorem Keep.setCell {B : Nat} {a b : World} (h : Keep B a b) (o : Nat) (v : Value) : Keep B a (b.setCell ⟨B, o, none⟩ v) :=
  h.trans ⟨rfl, rfl, rfl, by simp [World.setCell], fun k _ hn => Below.heap_setCell _ _ _ _ hn⟩
theorem Keep.drewN {B : Nat} {a b : World} (h : Keep B a b) (n : Nat) : Keep B a (b.drewN n) := ⟨h.os, h.tape, h.output, h.size, h.block⟩
theorem Keep.below {B : Nat} {a b c : World} (h : Keep B a b) (k : Below b.heap.size b c) : Keep B a c :=
  h.trans ⟨k.os, k.tape, k.output, k.size, fun i hi _ => k.block i hi⟩
theorem Below.keep {B : Nat} {a b : World} (k : Below a.heap.size a b) : Keep B a b := (Keep.refl B a).below k
theorem Keep.to_below {B base : Nat} {w a b : World} (h : Keep B a b) (k : Below base w a) (hb : base ≤ B) (hs : base ≤ a.heap.size) : Below base w b :=
  k.trans ⟨h.os, h.tape, h.output, h.size, fun i hi => h.block i (by omega) (by omega)⟩
theorem Keep.cell {B : Nat} {a b : World} (h : Keep B a b) {p : Addr} {v : Value} (hp : p.block ≠ B) (hc : a.cell? p = some v) : b.cell? p = some v := by
  rw [World.cell?_of_block (w := a) (h.block p.block (World.block_lt_of_cell? a p hc) hp)]; exact hc

/-! slices of bytes, as they are read -/
def RdW (W : World) (v : Value) (l : List Nat) : Prop :=
  ∃ A cap, v = .slice A l.length cap ∧ l.length ≤ cap ∧ (A = none → cap = 0) ∧ (l ≠ [] → ∃ b o, A = some ⟨b, o, none⟩ ∧ ∀ k (h : k < l.length), W.cell? ⟨b, o + k, none⟩ = some (.int .u8 (l[k] : Nat)))
theorem RdW.below {W W' : World} {v : Value} {l : List Nat} (h : RdW W v l) (hb : Below W.heap.size W W') : RdW W' v l := by
  obtain ⟨A, cap, e, hc, hz, hr⟩ := h
  refine ⟨A, cap, e, hc, hz, fun hl => ?_⟩
  obtain ⟨b, o, hA, hcell⟩ := hr hl
  have hlt : b < W.heap.size := World.block_lt_of_cell? W _ (hcell 0 (List.length_pos_iff.2 hl))
  exact ⟨b, o, hA, fun k hk => (hb.cell (p := ⟨b, o + k, none⟩) hlt).trans (hcell k hk)⟩
/-- what lay there before a world's blocks were written. -/
theorem RdW.upto {w W W' : World} {v : Value} {l : List Nat} (h : RdW w v l) (hb : Below w.heap.size w W) : RdW W v l := h.below hb
theorem rd_none (W : World) : RdW W (.slice none 0 0) [] := ⟨none, 0, rfl, Nat.le_refl _, fun _ => rfl, fun h => absurd rfl h⟩
/-- a slice of bytes in a block of which more is known. -/
def By (P : Nat → Prop) (W : World) (v : Value) (l : List Nat) : Prop :=
  (v = .slice none 0 0 ∧ l = []) ∨ ∃ b o cap, v = .slice (some ⟨b, o, none⟩) l.length cap ∧ l.length ≤ cap ∧ P b ∧ ∀ k (h : k < l.length), W.cell? ⟨b, o + k, none⟩ = some (.int .u8 (l[k] : Nat))
theorem By.rd {P : Nat → Prop} {W : World} {v : Value} {l : List Nat} (h : By P W v l) : RdW W v l := by
  rcases h with ⟨rfl, rfl⟩ | ⟨b, o, cap, rfl, hc, hp, hr⟩
  · exact rd_none W
  · exact ⟨_, _, rfl, hc, (fun h => by cases h), fun _ => ⟨b, o, rfl, hr⟩⟩
theorem By.imp {P Q : Nat → Prop} {W W' : World} {v : Value} {l : List Nat} (h : By P W v l) (hq : ∀ b, P b → Q b) (hk : ∀ b o x, P b → W.cell? ⟨b, o, none⟩ = some x → W'.cell? ⟨b, o, none⟩ = some x) : By Q W' v l := by
  rcases h with ⟨rfl, rfl⟩ | ⟨b, o, cap, rfl, hc, hp, hr⟩
  · exact Or.inl ⟨rfl, rfl⟩
  · exact Or.inr ⟨b, o, cap, rfl, hc, hq b hp, fun k hk' => hk b _ _ hp (hr k hk')⟩
theorem By.keep {P : Nat → Prop} {W W' : World} {v : Value} {l : List Nat} (h : By P W v l) {g : Nat} (hk : Keep g W W') (hne : ∀ b, P b → b ≠ g) : By P W' v l :=
  h.imp (fun _ h => h) fun b o x hp hx => hk.cell (p := ⟨b, o, none⟩) (hne b hp) hx
theorem By.below {P : Nat → Prop} {W W' : World} {v : Value} {l : List Nat} (h : By P W v l) (hb : Below W.heap.size W W') : By P W' v l :=
  h.imp (fun _ h => h) fun b o x hp hx => (hb.cell (p := ⟨b, o, none⟩) (World.block_lt_of_cell? W _ hx)).trans hx

/-! rows of bytes of a call's own -/
def bc (l : List Nat) : List Value := l.map fun x => .int .u8 (x : Nat)
theorem bc_len (l : List Nat) : (bc l).length = l.length := by simp [bc]
theorem bc_app (l m : List Nat) : bc (l ++ m) = bc l ++ bc m := by unfold bc; simp
theorem bc_one (l : List Nat) : ∀ u ∈ bc l, u.oneCell' = true := by
  intro u hu
  obtain ⟨x, _, rfl⟩ := List.mem_map.1 hu
  rfl
theorem infoB : (Try.prog.info? 5).map (fun i => (i.zero, i.size, i.bytes)) = some (some (.int .u8 0), 1, 1) := by kernel_rfl
theorem szB : ∀ w, (Go.sizeOf 5).run Try.prog w = .ok 1 w := fun w => by
  obtain ⟨i0, hi, _, h1, _⟩ := info_parts infoB
  simp [Go.sizeOf, typeInfo, hi, h1]
def Own (base : Nat) (W : World) (v : Value) (l : List Nat) : Prop := W.ownsRow base 5 1 v l.length (bc l)
theorem own_by {base : Nat} {W : World} {v : Value} {l : List Nat} (h : Own base W v l) : By (fun b => base ≤ b ∧ b < W.heap.size) W v l := by
  rcases h.2 with ⟨rfl, hn⟩ | ⟨g, cap, cur, rfl, hb, hh, hnc, _⟩
  · exact Or.inl ⟨rfl, List.eq_nil_of_length_eq_zero hn⟩
  · refine Or.inr ⟨g, 0, cap, rfl, hnc, ⟨hb, hp_lt hh⟩, fun k hk => ?_⟩
    rw [Nat.zero_add, World.ownsRow.cellAt h k (by omega)]
    simp [bc, hk]
theorem own_below {base : Nat} {w W W' : World} {v : Value} {l : List Nat} (ho : Own base W v l) (hb : Below base w W) (hbs : base ≤ W.heap.size) (hg : W.grownBy W' v.ownBlock) : Below base w W' :=
  hb.grown hg hbs (fun k hk => (World.ownsRow.lt ho k hk).1)
theorem own_none (base : Nat) (W : World) : Own base W (.slice none 0 0) [] := World.ownsRow_nil W base _ 1
theorem own_kept {base : Nat} {W W' : World} {v : Value} {l : List Nat} (h : Own base W v l) (hb : Below W.heap.size W W') : Own base W' v l := by
  refine ⟨h.1, ?_⟩
  rcases h.2 with ⟨rfl, hn⟩ | ⟨g, cap, cur, rfl, hbs, hh, r⟩
  · exact Or.inl ⟨rfl, hn⟩
  · exact Or.inr ⟨g, cap, cur, rfl, hbs, kept hh hb, r⟩
theorem own_mono {base base' : Nat} {W : World} {v : Value} {l : List Nat} (h : Own base W v l) (hb : base' ≤ base) : Own base' W v l := by
  refine ⟨h.1, ?_⟩
  rcases h.2 with ⟨rfl, hn⟩ | ⟨g, cap, cur, rfl, hbs, r⟩
  · exact Or.inl ⟨rfl, hn⟩
  · exact Or.inr ⟨g, cap, cur, rfl, Nat.le_trans hb hbs, r⟩
theorem own_lit (base : Nat) (W : World) (cs : Array Value) (l : List Nat) (hb : base ≤ W.heap.size) (h : cs.toList = bc l) (hn : l.length < 1000) :
    Own base (W.alloc (.cells cs 5)) (.slice (some ⟨W.heap.size, 0, none⟩) l.length l.length) l := by
  have hs : cs.size = l.length * 1 := by rw [Nat.mul_one, ← bc_len l, ← h, Array.length_toList]
  have := World.ownsRow_lit (base := base) (e := 5) (size := 1) W cs l.length hb (by unfold maxLen; omega) hs
  rw [h] at this
  exact this
theorem cell_lit (W : World) (m : List Nat) (t : TypeId) (cs : Array Value) (h : cs.toList = bc m) : ∀ j u, (bc m)[j]? = some u → (W.alloc (.cells cs t)).cell? ((⟨W.heap.size, 0, none⟩ : Addr).add j) = some u := by
  intro j u hj
  rw [Addr.add_mid, Nat.zero_add, row_cell (hp_new W (.cells cs t)) j, ← Array.getElem?_toList, h]
  exact hj
/-- 'out = append(out, c, ..)', out a row of bytes of the call's own, the new ones a row just laid. -/
theorem app_lit {ops : Array Oper} {rest : List Oper} {o : Oper} {a : Act} {Q : Exit → Act → World → Prop} (hgd : o.guard = none) (s x : Operand)
    (ho : o.op = .call { callee := .builtin .append, args := #[s, x], argTypes := #[29, 29] }) (base : Nat) (W : World) (v : Value) (l m : List Nat) (cs : Array Value) (k : Nat) (hk : k = m.length) (hcs : cs.toList = bc m)
    (hs : a.eval s = v) (hx : a.eval x = .slice (some ⟨W.heap.size, 0, none⟩) k k) (hown : Own base W v l) (hn : l.length + m.length < 8000000000000) (hbase : base ≤ W.heap.size)
    (h : ∀ v' w', Own base w' v' (l ++ m) → W.grownBy w' v.ownBlock → wpList Try.prog ops Q rest (a.put o.dst v') w') :
    wpList Try.prog ops Q (o :: rest) a (W.alloc (.cells cs 5)) := by
  subst hk
  obtain ⟨i0, hi, hz0, hz1, hz2⟩ := info_parts infoB
  refine wpList_append_own _ hgd s x 29 ho base 5 i0 _ 1 1 Try.underlying29 hi hz0 hz1 hz2 rfl (by decide) v l.length (bc l) hs (World.ownsRow.alloc hown _) ⟨W.heap.size, 0, none⟩ m.length m.length (bc m) hx (by rw [bc_len]; omega) (cell_lit W m _ cs hcs) (bc_one m) ?_ (by omega) (by simp; omega) ?_
  · unfold maxLen; omega
  · intro v' w' h1 h2 _
    refine h v' w' ?_ ((World.grownBy_alloc W _ _).trans h2)
    unfold Own
    rw [bc_app, List.length_append]
    exact h1
/-- 'all = append(all, xs...)', all a row of bytes of the call's own. -/
theorem app_any {ops : Array Oper} {rest : List Oper} {o : Oper} {a : Act} {Q : Exit → Act → World → Prop} (hgd : o.guard = none) (s x : Operand)
    (ho : o.op = .call { callee := .builtin .append, args := #[s, x], argTypes := #[29, 29] }) (base : Nat) (W : World) (v xv : Value) (l m : List Nat)
    (hs : a.eval s = v) (hx : a.eval x = xv) (hown : Own base W v l) (hr : RdW W xv m) (hn : l.length + m.length < 8000000000000) (hbase : base ≤ W.heap.size)
    (h : ∀ v' w', Own base w' v' (l ++ m) → W.grownBy w' v.ownBlock → wpList Try.prog ops Q rest (a.put o.dst v') w') :
    wpList Try.prog ops Q (o :: rest) a W := by
  obtain ⟨A, cap, rfl, hc, hz, hr⟩ := hr
  obtain ⟨i0, hi, hz0, hz1, hz2⟩ := info_parts infoB
  cases A with
  | none =>
    have hm : m = [] := by
      refine Classical.byContradiction fun hne => ?_
      obtain ⟨b, o, e, _⟩ := hr hne
      cases e
    subst hm
    have hcap := hz rfl
    subst hcap
    refine wpList_append_own_none hgd s x 29 ho base 5 i0 1 Try.underlying29 hi v l.length (bc l) hs hown hx ?_
    exact h v W (by rw [List.append_nil]; exact hown) (World.grownBy.refl W _)
  | some ad =>
    refine wpList_append_own _ hgd s x 29 ho base 5 i0 _ 1 1 Try.underlying29 hi hz0 hz1 hz2 rfl (by decide) v l.length (bc l) hs hown ad m.length cap (bc m) hx (by rw [bc_len]; omega) (fun j u hu => ?_) (bc_one m) ?_ (by omega) hbase ?_
    · have hj : j < m.length := by have := (List.getElem?_eq_some_iff.1 hu).1; rw [bc_len] at this; exact this
      obtain ⟨b, o, e, hcell⟩ := hr (fun e => by rw [e] at hj; simp at hj)
      cases e
      rw [Addr.add_mid, hcell j hj, ← hu]
      simp [bc, hj]
    · unfold maxLen; omega
    · intro v' w' h1 h2 _
      refine h v' w' ?_ h2
      unfold Own
      rw [bc_app, List.length_append]
      exact h1
/-- 'make([]byte, 0, c)'. -/
theorem make_run (W : World) (c : Nat) (z : Int) (hz : z = (c : Nat)) (hc : c < 8000000000000) :
    (Instr.makeSlice 29 (.int .i64 0) (.int .i64 z)).run Try.prog W = .ok (.slice (some ⟨W.heap.size, 0, none⟩) 0 c) (W.alloc (.cells (madeCells #[.int .u8 0] c) 5)) := by
  subst hz
  obtain ⟨i0, hi, hz0, hz1, hz2⟩ := info_parts infoB
  have := run_make (P := Try.prog) W 29 5 i0 _ Try.underlying29 hi hz0 .i64 .i64 0 (c : Int) (Int.le_refl _) (by omega) (by rw [hz2]; omega) (by omega)
  rw [hz1, Nat.mul_one] at this
  exact this
theorem make_own (W : World) (c : Nat) (hc : c < 8000000000000) : Own W.heap.size (W.alloc (.cells (madeCells #[.int .u8 0] c) 5)) (.slice (some ⟨W.heap.size, 0, none⟩) 0 c) [] :=
  World.ownsRow_made W _ c (Nat.le_refl _) (by unfold maxLen; omega) (by rw [size_madeCells, Nat.mul_one])
/-! bytes as a text -/
def strN (l : List Nat) : ByteArray := strOfNums (l.map fun (x : Nat) => (x : Int))
theorem str_of {W : World} {v : Value} {l : List Nat} (h : RdW W v l) : (convert 29 9 v).run Try.prog W = .ok (.string (strN l)) W := by
  obtain ⟨A, cap, rfl, hc, hz, hr⟩ := h
  by_cases hl : l = []
  · subst hl
    cases A with
    | none => exact run_convert_bytes_nil W 29 5 Try.underlying29 Try.underlying5 0 cap 9 Try.underlying9
    | some a => exact run_convert_bytes_back W 29 9 5 a cap [] Try.underlying29 Try.underlying5 Try.underlying9 (fun j hj => by simp at hj)
  · obtain ⟨b, o, rfl, hcell⟩ := hr hl
    refine run_convert_bytes_arg W 29 5 Try.underlying29 Try.underlying5 b o l.length cap (l.map fun (x : Nat) => (x : Int)) (by simp) (fun i hi => ?_) 9 Try.underlying9
    rw [hcell i hi]
    simp [List.getD, hi]
end Go.Proofs.Ytkdmecpelfcbmaa.oct
