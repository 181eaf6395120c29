/-
  Bytes in memory: slices of them as they are read, rows of them that a call owns, 'append', 'make', texts of them; and what is kept where one block is written. Nothing of any one function. Conditions: as said.
-/
import Derived.Test.YtllficloadncfaaG04
import Derived.Test.YtllficloadncfaaG01
import Derived.Laws.AppendOwnNone
import Derived.Laws.BytesArg
import Derived.Laws.IdiomStrings
import Derived.Maps.AppendAt
import Derived.Deep.AppendLies
import Derived.Laws.OwnMore
import Derived.WalkSmall
import Derived.Deep.QuietTactic
import Derived.Lib.BufferWrite
namespace Go.Proofs.Ytllficloadncfaa.oct
open Go.ChangeShapes Go.WideShapes Go.ChangeAt Go.RowKit
open om mem
set_option linter.unusedVariables false
set_option maxRecDepth 100000

/-! what is kept where one block is written -/
structure Keep (B : Nat) (W W' : World) : Prop where
  os : W'.os = W.os
  tape : W'.tape = W.tape
  output : W'.output = W.output
  size : W.heap.size ≤ W'.heap.size
  block : ∀ k, k < W.heap.size → k ≠ B → W'.heap[k]? = W.heap[k]?
theorem Keep.refl (B : Nat) (W : World) : Keep B W W := ⟨rfl, rfl, rfl, Nat.le_refl _, fun _ _ _ => rfl⟩
theorem Keep.trans {B : Nat} {a b c : World} (h : Keep B a b) (k : Keep B b c) : Keep B a c :=
  ⟨k.os.trans h.os, k.tape.trans h.tape, k.output.trans h.output, Nat.le_trans h.size k.size, fun i hi hn => (k.block i (Nat.lt_of_lt_of_le hi h.size) hn).trans (h.block i hi hn)⟩
theorem Keep.setCell {B : Nat} {a b : World} (h : Keep B a b) (o : Nat) (v : Value) : Keep B a (b.setCell ⟨B, o, none⟩ v) :=
  h.trans ⟨rfl, rfl, rfl, by simp [World.setCell], fun k _ hn => Below.heap_setCell _ _ _ _ hn⟩
theorem Keep.drewN {B : Nat} {a b : World} (h : Keep B a b) (n : Nat) : Keep B a (b.drewN n) := ⟨h.os, h.tape, h.output, h.size, h.block⟩
theorem Keep.below {B : Nat} {a b c : World} (h : Keep B a b) (k : Below b.heap.size b c) : Keep B a c :=
  h.trans ⟨k.os, k.tape, k.output, k.size, fun i hi _ => k.block i hi⟩
theorem Below.keep {B : Nat} {a b : World} (k : Below a.heap.size a b) : Keep B a b := (Keep.refl B a).below k
theorem Keep.to_below {B base : Nat} {w a b : World} (h : Keep B a b) (k : Below base w a) (hb : base ≤ B) (hs : base ≤ a.heap.size) : Below base w b :=
  k.trans ⟨h.os, h.tape, h.output, h.size, fun i hi => h.block i (by omega) (by omega)⟩
theorem Keep.cell {B : Nat} {a b : World} (h : Keep B a b) {p : Addr} {v : Value} (hp : p.block ≠ B) (hc : a.cell? p = some v) : b.cell? p = some v := by
  rw [World.cell?_of_block (w := a) (h.block p.block (World.block_lt_of_cell? a p hc) hp)]; exact hc

/-! slices of bytes, as they are read -/
def RdW (W : World) (v : Value) (l : List Nat) : Prop :=
  ∃ A cap, v = .slice A l.length cap ∧ l.length ≤ cap ∧ (A = none → cap = 0) ∧ (l ≠ [] → ∃ b o, A = some ⟨b, o, none⟩ ∧ ∀ k (h : k < l.length), W.cell? ⟨b, o + k, none⟩ = some (.int .u8 (l[k] : Nat)))
theorem RdW.below {W W' : World} {v : Value} {l : List Nat} (h : RdW W v l) (hb : Below W.heap.size W W') : RdW W' v l := by
  obtain ⟨A, cap, e, hc, hz, hr⟩ := h
  refine ⟨A, cap, e, hc, hz, fun hl => ?_⟩
  obtain ⟨b, o, hA, hcell⟩ := hr hl
  have hlt : b < W.heap.size := World.block_lt_of_cell? W _ (hcell 0 (List.length_pos_iff.2 hl))
  exact ⟨b, o, hA, fun k hk => (hb.cell (p := ⟨b, o + k, none⟩) hlt).trans (hcell k hk)⟩
/-- what lay there before a world's blocks were written. -/
theorem RdW.upto {w W W' : World} {v : Value} {l : List Nat} (h : RdW w v l) (hb : Below w.heap.size w W) : RdW W v l := h.below hb
theorem rd_none (W : World) : RdW W (.slice none 0 0) [] := ⟨none, 0, rfl, Nat.le_refl _, fun _ => rfl, fun h => absurd rfl h⟩
/-- a slice of bytes in a block of which more is known. -/
def By (P : Nat → Prop) (W : World) (v : Value) (l : List Nat) : Prop :=
  (v = .slice none 0 0 ∧ l = []) ∨ ∃ b o cap, v = .slice (some ⟨b, o, none⟩) l.length cap ∧ l.length ≤ cap ∧ P b ∧ ∀ k (h : k < l.length), W.cell? ⟨b, o + k, none⟩ = some (.int .u8 (l[k] : Nat))
theorem By.rd {P : Nat → Prop} {W : World} {v : Value} {l : List Nat} (h : By P W v l) : RdW W v l := by
  rcases h with ⟨rfl, rfl⟩ | ⟨b, o, cap, rfl, hc, hp, hr⟩
  · exact rd_none W
  · exact ⟨_, _, rfl, hc, (fun h => by cases h), fun _ => ⟨b, o, rfl, hr⟩⟩
theorem By.imp {P Q : Nat → Prop} {W W' : World} {v : Value} {l : List Nat} (h : By P W v l) (hq : ∀ b, P b → Q b) (hk : ∀ b o x, P b → W.cell? ⟨b, o, none⟩ = some x → W'.cell? ⟨b, o, none⟩ = some x) : By Q W' v l := by
  rcases h with ⟨rfl, rfl⟩ | ⟨b, o, cap, rfl, hc, hp, hr⟩
  · exact Or.inl ⟨rfl, rfl⟩
  · exact Or.inr ⟨b, o, cap, rfl, hc, hq b hp, fun k hk' => hk b _ _ hp (hr k hk')⟩
theorem By.keep {P : Nat → Prop} {W W' : World} {v : Value} {l : List Nat} (h : By P W v l) {g : Nat} (hk : Keep g W W') (hne : ∀ b, P b → b ≠ g) : By P W' v l :=
  h.imp (fun _ h => h) fun b o x hp hx => hk.cell (p := ⟨b, o, none⟩) (hne b hp) hx
theorem By.below {P : Nat → Prop} {W W' : World} {v : Value} {l : List Nat} (h : By P W v l) (hb : Below W.heap.size W W') : By P W' v l :=
  h.imp (fun _ h => h) fun b o x hp hx => (hb.cell (p := ⟨b, o, none⟩) (World.block_lt_of_cell? W _ hx)).trans hx

/-! rows of bytes of a call's own -/
def bc (l : List Nat) : List Value := l.map fun x => .int .u8 (x : Nat)
theorem bc_len (l : List Nat) : (bc l).length = l.length := by simp [bc]
theorem bc_app (l m : List Nat) : bc (l ++ m) = bc l ++ bc m := by unfold bc; simp
theorem bc_one (l : List Nat) : ∀ u ∈ bc l, u.oneCell' = true := by
  intro u hu
  obtain ⟨x, _, rfl⟩ := List.mem_map.1 hu
  rfl
theorem infoB : (Try.prog.info? 5).map (fun i => (i.zero, i.size, i.bytes)) = some (some (.int .u8 0), 1, 1) := by kernel_rfl
theorem szB : ∀ w, (Go.sizeOf 5).run Try.prog w = .ok 1 w := fun w => by
  obtain ⟨i0, hi, _, h1, _⟩ := info_parts infoB
  simp [Go.sizeOf, typeInfo, hi, h1]
def Own (base : Nat) (W : World) (v : Value) (l : List Nat) : Prop := W.ownsRow base 5 1 v l.length (bc l)
theorem own_by {base : Nat} {W : World} {v : Value} {l : List Nat} (h : Own base W v l) : By (fun b => base ≤ b ∧ b < W.heap.size) W v l := by
  rcases h.2 with ⟨rfl, hn⟩ | ⟨g, cap, cur, rfl, hb, hh, hnc, _⟩
  · exact Or.inl ⟨rfl, List.eq_nil_of_length_eq_zero hn⟩
  · refine Or.inr ⟨g, 0, cap, rfl, hnc, ⟨hb, hp_lt hh⟩, fun k hk => ?_⟩
    rw [Nat.zero_add, World.ownsRow.cellAt h k (by omega)]
    simp [bc, hk]
theorem own_below {base : Nat} {w W W' : World} {v : Value} {l : List Nat} (ho : Own base W v l) (hb : Below base w W) (hbs : base ≤ W.heap.size) (hg : W.grownBy W' v.ownBlock) : Below base w W' :=
  hb.grown hg hbs (fun k hk => (World.ownsRow.lt ho k hk).1)
theorem own_none (base : Nat) (W : World) : Own base W (.slice none 0 0) [] := World.ownsRow_nil W base _ 1
theorem own_kept {base : Nat} {W W' : World} {v : Value} {l : List Nat} (h : Own base W v l) (hb : Below W.heap.size W W') : Own base W' v l := by
  refine ⟨h.1, ?_⟩
  rcases h.2 with ⟨rfl, hn⟩ | ⟨g, cap, cur, rfl, hbs, hh, r⟩
  · exact Or.inl ⟨rfl, hn⟩
  · exact Or.inr ⟨g, cap, cur, rfl, hbs, kept hh hb, r⟩
theorem own_mono {base base' : Nat} {W : World} {v : Value} {l : List Nat} (h : Own base W v l) (hb : base' ≤ base) : Own base' W v l := by
  refine ⟨h.1, ?_⟩
  rcases h.2 with ⟨rfl, hn⟩ | ⟨g, cap, cur, rfl, hbs, r⟩
  · exact Or.inl ⟨rfl, hn⟩
  · exact Or.inr ⟨g, cap, cur, rfl, Nat.le_trans hb hbs, r⟩
theorem own_lit (base : Nat) (W : World) (cs : Array Value) (l : List Nat) (hb : base ≤ W.heap.size) (h : cs.toList = bc l) (hn : l.length < 1000) :
    Own base (W.alloc (.cells cs 5)) (.slice (some ⟨W.heap.size, 0, none⟩) l.length l.length) l := by
  have hs : cs.size = l.length * 1 := by rw [Nat.mul_one, ← bc_len l, ← h, Array.length_toList]
  have := World.ownsRow_lit (base := base) (e := 5) (size := 1) W cs l.length hb (by unfold maxLen; omega) hs
  rw [h] at this
  exact this
theorem cell_lit (W : World) (m : List Nat) (t : TypeId) (cs : Array Value) (h : cs.toList = bc m) : ∀ j u, (bc m)[j]? = some u → (W.alloc (.cells cs t)).cell? ((⟨W.heap.size, 0, none⟩ : Addr).add j) = some u := by
  intro j u hj
  rw [Addr.add_mid, Nat.zero_add, row_cell (hp_new W (.cells cs t)) j, ← Array.getElem?_toList, h]
  exact hj
/-- 'out = append(out, c, ..)', out a row of bytes of the call's own, the new ones a row just laid. -/
theorem app_lit {ops : Array Oper} {rest : List Oper} {o : Oper} {a : Act} {Q : Exit → Act → World → Prop} (hgd : o.guard = none) (s x : Operand)
    (ho : o.op = .call { callee := .builtin .append, args := #[s, x], argTypes := #[29, 29] }) (base : Nat) (W : World) (v : Value) (l m : List Nat) (cs : Array Value) (k : Nat) (hk : k = m.length) (hcs : cs.toList = bc m)
    (hs : a.eval s = v) (hx : a.eval x = .slice (some ⟨W.heap.size, 0, none⟩) k k) (hown : Own base W v l) (hn : l.length + m.length < 8000000000000) (hbase : base ≤ W.heap.size)
    (h : ∀ v' w', Own base w' v' (l ++ m) → W.grownBy w' v.ownBlock → wpList Try.prog ops Q rest (a.put o.dst v') w') :
    wpList Try.prog ops Q (o :: rest) a (W.alloc (.cells cs 5)) := by
  subst hk
  obtain ⟨i0, hi, hz0, hz1, hz2⟩ := info_parts infoB
  refine wpList_append_own _ hgd s x 29 ho base 5 i0 _ 1 1 Try.underlying29 hi hz0 hz1 hz2 rfl (by decide) v l.length (bc l) hs (World.ownsRow.alloc hown _) ⟨W.heap.size, 0, none⟩ m.length m.length (bc m) hx (by rw [bc_len]; omega) (cell_lit W m _ cs hcs) (bc_one m) ?_ (by omega) (by simp; omega) ?_
  · unfold maxLen; omega
  · intro v' w' h1 h2 _
    refine h v' w' ?_ ((World.grownBy_alloc W _ _).trans h2)
    unfold Own
    rw [bc_app, List.length_append]
    exact h1
/-- 'all = append(all, xs...)', all a row of bytes of the call's own. -/
theorem app_any {ops : Array Oper} {rest : List Oper} {o : Oper} {a : Act} {Q : Exit → Act → World → Prop} (hgd : o.guard = none) (s x : Operand)
    (ho : o.op = .call { callee := .builtin .append, args := #[s, x], argTypes := #[29, 29] }) (base : Nat) (W : World) (v xv : Value) (l m : List Nat)
    (hs : a.eval s = v) (hx : a.eval x = xv) (hown : Own base W v l) (hr : RdW W xv m) (hn : l.length + m.length < 8000000000000) (hbase : base ≤ W.heap.size)
    (h : ∀ v' w', Own base w' v' (l ++ m) → W.grownBy w' v.ownBlock → wpList Try.prog ops Q rest (a.put o.dst v') w') :
    wpList Try.prog ops Q (o :: rest) a W := by
  obtain ⟨A, cap, rfl, hc, hz, hr⟩ := hr
  obtain ⟨i0, hi, hz0, hz1, hz2⟩ := info_parts infoB
  cases A with
  | none =>
    have hm : m = [] := by
      refine Classical.byContradiction fun hne => ?_
      obtain ⟨b, o, e, _⟩ := hr hne
      cases e
    subst hm
    have hcap := hz rfl
    subst hcap
    refine wpList_append_own_none hgd s x 29 ho base 5 i0 1 Try.underlying29 hi v l.length (bc l) hs hown hx ?_
    exact h v W (by rw [List.append_nil]; exact hown) (World.grownBy.refl W _)
  | some ad =>
    refine wpList_append_own _ hgd s x 29 ho base 5 i0 _ 1 1 Try.underlying29 hi hz0 hz1 hz2 rfl (by decide) v l.length (bc l) hs hown ad m.length cap (bc m) hx (by rw [bc_len]; omega) (fun j u hu => ?_) (bc_one m) ?_ (by omega) hbase ?_
    · have hj : j < m.length := by have := (List.getElem?_eq_some_iff.1 hu).1; rw [bc_len] at this; exact this
      obtain ⟨b, o, e, hcell⟩ := hr (fun e => by rw [e] at hj; simp at hj)
      cases e
      rw [Addr.add_mid, hcell j hj, ← hu]
      simp [bc, hj]
    · unfold maxLen; omega
    · intro v' w' h1 h2 _
      refine h v' w' ?_ h2
      unfold Own
      rw [bc_app, List.length_append]
      exact h1
/-- 'make([]byte, 0, c)'. -/
theorem make_run (W : World) (c : Nat) (z : Int) (hz : z = (c : Nat)) (hc : c < 8000000000000) :
    (Instr.makeSlice 29 (.int .i64 0) (.int .i64 z)).run Try.prog W = .ok (.slice (some ⟨W.heap.size, 0, none⟩) 0 c) (W.alloc (.cells (madeCells #[.int .u8 0] c) 5)) := by
  subst hz
  obtain ⟨i0, hi, hz0, hz1, hz2⟩ := info_parts infoB
  have := run_make (P := Try.prog) W 29 5 i0 _ Try.underlying29 hi hz0 .i64 .i64 0 (c : Int) (Int.le_refl _) (by omega) (by rw [hz2]; omega) (by omega)
  rw [hz1, Nat.mul_one] at this
  exact this
theorem make_own (W : World) (c : Nat) (hc : c < 8000000000000) : Own W.heap.size (W.alloc (.cells (madeCells #[.int .u8 0] c) 5)) (.slice (some ⟨W.heap.size, 0, none⟩) 0 c) [] :=
  World.ownsRow_made W _ c (Nat.le_refl _) (by unfold maxLen; omega) (by rw [size_madeCells, Nat.mul_one])
/-! bytes as a text -/
def strN (l : List Nat) : ByteArray := strOfNums (l.map fun (x : Nat) => (x : Int))
theorem str_of {W : World} {v : Value} {l : List Nat} (h : RdW W v l) : (convert 29 9 v).run Try.prog W = .ok (.string (strN l)) W := by
  obtain ⟨A, cap, rfl, hc, hz, hr⟩ := h
  by_cases hl : l = []
  · subst hl
    cases A with
    | none => exact run_convert_bytes_nil W 29 5 Try.underlying29 Try.underlying5 0 cap 9 Try.underlying9
    | some a => exact run_convert_bytes_back W 29 9 5 a cap [] Try.underlying29 Try.underlying5 Try.underlying9 (fun j hj => by simp at hj)
  · obtain ⟨b, o, rfl, hcell⟩ := hr hl
    refine run_convert_bytes_arg W 29 5 Try.underlying29 Try.underlying5 b o l.length cap (l.map fun (x : Nat) => (x : Int)) (by simp) (fun i hi => ?_) 9 Try.underlying9
    rw [hcell i hi]
    simp [List.getD, hi]
end Go.Proofs.Ytllficloadncfaa.oct

/-
  What package octet's functions answer: numbers as bytes, and readers of bytes. Conditions: the slices that are handed in read as bytes; readers are such as Open made.
-/
namespace Go.Proofs.Ytllficloadncfaa.oct
open Go.ChangeShapes Go.WideShapes Go.ChangeAt Go.RowKit
open om mem
set_option linter.unusedVariables false
set_option maxRecDepth 100000

def I64 (n : Int) : Prop := -9223372036854775808 ≤ n ∧ n ≤ 9223372036854775807
theorem ret_b {b c : Bool} (h : b = c) : Ending.returned (.bool b) = .returned (.bool c) := by rw [h]
set_option maxHeartbeats 1000000 in
theorem fits_at (n z : Int) (w : World) (hn : I64 n) (hz : I64 z) : Calls Try.prog 62 #[.int .i64 n, .int .i64 z] w fun e w' => e = .returned (.bool (fitB n z)) ∧ w = w' := by
  obtain ⟨n1, n2⟩ := hn
  obtain ⟨z1, z2⟩ := hz
  by_cases h1 : z = 1
  · subst h1
    have t : fitB n 1 = (n == n % 256) := by
      by_cases h : 0 ≤ n ∧ n ≤ 255
      · rw [show fitB n 1 = true by rw [fit_iff]; unfold Fits; omega]; symm; simp; omega
      · rw [show fitB n 1 = false by rw [fit_no]; unfold Fits; omega]; symm; simp; omega
    rw [t]
    clear t
    go_enter Try.func62, Try.ntmps62
    go_wp2
    go_ret
    exact ⟨rfl, rfl⟩
  · by_cases h4 : z = 4
    · subst h4
      have t : fitB n 4 = (n == IntKind.i32.wrap n) := by
        by_cases h : -2147483648 ≤ n ∧ n ≤ 2147483647
        · rw [show fitB n 4 = true by rw [fit_iff]; unfold Fits; omega]; symm; rw [IntKind.wrap_i32]; simp; omega
        · rw [show fitB n 4 = false by rw [fit_no]; unfold Fits; omega]; symm; rw [IntKind.wrap_i32]; simp; omega
      rw [t]
      clear t h1
      go_enter Try.func62, Try.ntmps62
      go_wp2
      all_goals go_ret
      all_goals first | exact ⟨rfl, rfl⟩ | exact ⟨ret_b (by rw [show wrap64 (wrap32 n) = IntKind.i32.wrap n by rw [IntWalk.i32_left, IntWalk.wrap64_in]; rw [← IntWalk.i32_left, IntKind.wrap_i32]; omega]), rfl⟩
    · by_cases h8 : z = 8
      · subst h8
        rw [show fitB n 8 = true by rw [fit_iff]; unfold Fits; omega]
        go_enter Try.func62, Try.ntmps62
        go_wp2
        go_ret
        exact ⟨rfl, rfl⟩
      · rw [show fitB n z = false by rw [fit_no]; unfold Fits; omega]
        have t1 : (z == 1) = false := by simpa using h1
        have t4 : (z == 4) = false := by simpa using h4
        have t8 : (z == 8) = false := by simpa using h8
        clear h1 h4 h8
        go_enter Try.func62, Try.ntmps62
        go_wp2
        go_ret
        exact ⟨rfl, rfl⟩
set_option maxHeartbeats 1000000 in
theorem isSize_at (z : Int) (w : World) (hz : I64 z) : Calls Try.prog 56 #[.int .i64 z] w fun e w' => e = .returned (.bool (fitB 0 z)) ∧ w = w' := by
  have C := Lib.hid (fun w => fits_at 0 z w ⟨by decide, by decide⟩ hz)
  obtain ⟨z1, z2⟩ := hz
  go_enter Try.func56, Try.ntmps56
  go_wp2_with (first
    | (go_at_call 62; (with_reducible refine (C.out _).mono ?_; rintro e w' ⟨rfl, rfl⟩)))
  go_ret
  exact ⟨rfl, rfl⟩
/-- new bytes. -/
def NewBy (w : World) (l : List Nat) (e : Ending) (w' : World) : Prop := ∃ v', e = .returned v' ∧ Own w.heap.size w' v' l ∧ Below w.heap.size w w'
set_option maxHeartbeats 1000000 in
theorem copied_at (l : List Nat) (v : Value) (more : Nat) (z : Int) (w : World) (hz : z = (more : Nat)) (h : RdW w v l) (hn : l.length + more < 4000000000000) : Calls Try.prog 48 #[v, .int .i64 z] w (NewBy w l) := by
  subst hz
  obtain ⟨A, cap, rfl, hc, hA⟩ := id h
  have hmk := make_run w (l.length + more) ((l.length : Int) + (more : Int)) (by omega) (by omega)
  have hown := Lib.hid (make_own w (l.length + more) (by omega))
  have hr := Lib.hid (h.below (bal (Below.refl w.heap.size w) (.cells (madeCells #[.int .u8 0] (l.length + more)) 5)))
  have hb := bal (Below.refl w.heap.size w) (.cells (madeCells #[.int .u8 0] (l.length + more)) 5)
  have hbs := hb.size
  have HL : Hid (l.length < 4000000000000) := Lib.hid (by omega)
  clear h hA hc
  generalize hN : l.length = N at *
  have HN := Lib.hid hN
  clear hN
  go_enter Try.func48, Try.ntmps48
  go_wp2_with (at_builtin; refine app_any rfl _ _ rfl w.heap.size (w.alloc (.cells (madeCells #[.int .u8 0] (N + more)) 5)) (.slice (some ⟨w.heap.size, 0, none⟩) 0 (N + more)) (.slice A N cap) [] l rfl rfl hown.out hr.out (by rw [HN.out]; have := HL.out; simp; omega) hbs ?_; intro v' w' ho' hg)
  go_ret
  exact ⟨_, rfl, ho', own_below hown.out hb hbs hg⟩
/-- bytes behind those of a row of the call's own. -/
def LaidBy (base : Nat) (W0 : World) (l : List Nat) (e : Ending) (w' : World) : Prop := ∃ v', e = .returned v' ∧ Own base w' v' l ∧ Below base W0 w'
theorem lay1 (n : Int) : lay n 1 = [(n % 256).toNat] := by simp [lay]
theorem lay4 (n : Int) : lay n 4 = [(n / 16777216 % 256).toNat, (n / 65536 % 256).toNat, (n / 256 % 256).toNat] ++ [(n % 256).toNat] := by simp [lay]
theorem lay8 (n : Int) : lay n 8 = [(n / 72057594037927936 % 256).toNat, (n / 281474976710656 % 256).toNat, (n / 1099511627776 % 256).toNat, (n / 4294967296 % 256).toNat] ++ ([(n / 16777216 % 256).toNat, (n / 65536 % 256).toNat, (n / 256 % 256).toNat] ++ [(n % 256).toNat]) := by simp [lay]
theorem u8v (x : Int) : Value.int .u8 (((x % 256).toNat : Nat) : Int) = .int .u8 (x % 256) := by congr 1 <;> omega
set_option maxHeartbeats 2000000 in
theorem laid_at (l : List Nat) (v : Value) (n z : Int) (base : Nat) (W0 w : World) (hn : I64 n) (hz : Sz z) (ho : Own base w v l) (hb : Below base W0 w) (hbs : base ≤ w.heap.size) (hl : l.length < 4000000000000) :
    Calls Try.prog 63 #[v, .int .i64 n, .int .i64 z] w (LaidBy base W0 (l ++ lay n z.toNat)) := by
  obtain ⟨n1, n2⟩ := hn
  have HO := Lib.hid ho
  have HB := Lib.hid hb
  have HS := Lib.hid hbs
  have HL := Lib.hid hl
  clear ho hb hbs hl
  have b0 : 0 ≤ n % 256 ∧ n % 256 < 256 := by omega
  rcases hz with rfl | rfl | rfl
  · rw [show (1 : Int).toNat = 1 from rfl, lay1]
    go_enter Try.func63, Try.ntmps63
    go_wp2_with (first
      | (at_builtin; refine app_lit rfl _ _ rfl base w v (l) [(n % 256).toNat] #[.int .u8 (n % 256)] 1 rfl (by simp only [bc, List.map, u8v]) rfl rfl HO.out (by have := HL.out; simp; omega) HS.out ?_; intro v1 w1 ho1 hg1; have HB1 := Lib.hid (own_below HO.out HB.out HS.out hg1); have HS1 := Lib.hid (Nat.le_trans HS.out hg1.size); have HO1 := Lib.hid ho1; clear hg1 ho1))
    go_ret
    exact ⟨_, rfl, HO1.out, HB1.out⟩
  · rw [show (4 : Int).toNat = 4 from rfl, lay4, ← List.append_assoc]
    go_enter Try.func63, Try.ntmps63
    go_wp2_with (first
      | (at_builtin; refine app_lit rfl _ _ rfl base w1 v1 (l ++ [(n / 16777216 % 256).toNat, (n / 65536 % 256).toNat, (n / 256 % 256).toNat]) [(n % 256).toNat] #[.int .u8 (n % 256)] 1 rfl (by simp only [bc, List.map, u8v]) rfl rfl HO1.out (by have := HL.out; simp; omega) HS1.out ?_; intro v2 w2 ho2 hg2; have HB2 := Lib.hid (own_below HO1.out HB1.out HS1.out hg2); have HS2 := Lib.hid (Nat.le_trans HS1.out hg2.size); have HO2 := Lib.hid ho2; clear hg2 ho2)
      | (at_builtin; refine app_lit rfl _ _ rfl base w v (l) [(n / 16777216 % 256).toNat, (n / 65536 % 256).toNat, (n / 256 % 256).toNat] #[.int .u8 (n / 16777216 % 256), .int .u8 (n / 65536 % 256), .int .u8 (n / 256 % 256)] 3 rfl (by simp only [bc, List.map, u8v]) rfl rfl HO.out (by have := HL.out; simp; omega) HS.out ?_; intro v1 w1 ho1 hg1; have HB1 := Lib.hid (own_below HO.out HB.out HS.out hg1); have HS1 := Lib.hid (Nat.le_trans HS.out hg1.size); have HO1 := Lib.hid ho1; clear hg1 ho1))
    go_ret
    exact ⟨_, rfl, HO2.out, HB2.out⟩
  · rw [show (8 : Int).toNat = 8 from rfl, lay8, ← List.append_assoc, ← List.append_assoc]
    go_enter Try.func63, Try.ntmps63
    go_wp2_with (first
      | (at_builtin; refine app_lit rfl _ _ rfl base w2 v2 (l ++ [(n / 72057594037927936 % 256).toNat, (n / 281474976710656 % 256).toNat, (n / 1099511627776 % 256).toNat, (n / 4294967296 % 256).toNat] ++ [(n / 16777216 % 256).toNat, (n / 65536 % 256).toNat, (n / 256 % 256).toNat]) [(n % 256).toNat] #[.int .u8 (n % 256)] 1 rfl (by simp only [bc, List.map, u8v]) rfl rfl HO2.out (by have := HL.out; simp; omega) HS2.out ?_; intro v3 w3 ho3 hg3; have HB3 := Lib.hid (own_below HO2.out HB2.out HS2.out hg3); have HS3 := Lib.hid (Nat.le_trans HS2.out hg3.size); have HO3 := Lib.hid ho3; clear hg3 ho3)
      | (at_builtin; refine app_lit rfl _ _ rfl base w1 v1 (l ++ [(n / 72057594037927936 % 256).toNat, (n / 281474976710656 % 256).toNat, (n / 1099511627776 % 256).toNat, (n / 4294967296 % 256).toNat]) [(n / 16777216 % 256).toNat, (n / 65536 % 256).toNat, (n / 256 % 256).toNat] #[.int .u8 (n / 16777216 % 256), .int .u8 (n / 65536 % 256), .int .u8 (n / 256 % 256)] 3 rfl (by simp only [bc, List.map, u8v]) rfl rfl HO1.out (by have := HL.out; simp; omega) HS1.out ?_; intro v2 w2 ho2 hg2; have HB2 := Lib.hid (own_below HO1.out HB1.out HS1.out hg2); have HS2 := Lib.hid (Nat.le_trans HS1.out hg2.size); have HO2 := Lib.hid ho2; clear hg2 ho2)
      | (at_builtin; refine app_lit rfl _ _ rfl base w v (l) [(n / 72057594037927936 % 256).toNat, (n / 281474976710656 % 256).toNat, (n / 1099511627776 % 256).toNat, (n / 4294967296 % 256).toNat] #[.int .u8 (n / 72057594037927936 % 256), .int .u8 (n / 281474976710656 % 256), .int .u8 (n / 1099511627776 % 256), .int .u8 (n / 4294967296 % 256)] 4 rfl (by simp only [bc, List.map, u8v]) rfl rfl HO.out (by have := HL.out; simp; omega) HS.out ?_; intro v1 w1 ho1 hg1; have HB1 := Lib.hid (own_below HO.out HB.out HS.out hg1); have HS1 := Lib.hid (Nat.le_trans HS.out hg1.size); have HO1 := Lib.hid ho1; clear hg1 ho1))
    go_ret
    exact ⟨_, rfl, HO3.out, HB3.out⟩
/-- what Put answers. -/
def put (l : List Nat) (n z : Int) : List Nat := if fitB n z = true then l ++ lay n z.toNat else l
theorem put_yes {l : List Nat} {n z : Int} (h : fitB n z = true) : put l n z = l ++ lay n z.toNat := if_pos h
theorem put_no {l : List Nat} {n z : Int} (h : fitB n z = false) : put l n z = l := if_neg (by rw [h]; decide)
def PutTold (w : World) (l : List Nat) (n z : Int) (e : Ending) (w' : World) : Prop := ∃ v', e = .returned (.tuple #[v', .bool (fitB n z)]) ∧ Own w.heap.size w' v' (put l n z) ∧ Below w.heap.size w w'
set_option maxHeartbeats 1000000 in
theorem put_at (l : List Nat) (v : Value) (n z : Int) (w : World) (hn : I64 n) (hz : I64 z) (h : RdW w v l) (hl : l.length < 2000000000000) : Calls Try.prog 55 #[v, .int .i64 n, .int .i64 z] w (PutTold w l n z) := by
  have C := Lib.hid (fun w => fits_at n z w hn hz)
  by_cases hf : fitB n z = true
  · have hs := fit_sz (fit_iff.1 hf)
    have hz0 : (z.toNat : Int) = z := by unfold Sz at hs; omega
    have hz8 : z.toNat ≤ 8 := by unfold Sz at hs; omega
    have D := Lib.hid (copied_at l v z.toNat z w hz0.symm h (by omega))
    have E := Lib.hid (fun v1 w1 (ho : Own w.heap.size w1 v1 l) (hb : Below w.heap.size w w1) => laid_at l v1 n z w.heap.size w w1 hn hs ho hb hb.size (by omega))
    have Q : Hid (∀ v' w', Own w.heap.size w' v' (l ++ lay n z.toNat) → Below w.heap.size w w' → PutTold w l n z (.returned (.tuple #[v', .bool true])) w') := Lib.hid fun v' w' ho hb => ⟨v', by rw [hf], by rw [put_yes hf]; exact ho, hb⟩
    rw [hf] at C
    clear hz0 hz8 hs hf hl h hz hn
    go_enter Try.func55, Try.ntmps55
    go_wp2_with (first
      | (go_at_call 62; (with_reducible refine (C.out _).mono ?_); rintro e w1 ⟨rfl, rfl⟩)
      | (go_at_call 48; (with_reducible refine D.out.mono ?_); rintro e w1 ⟨v1, rfl, ho1, hb1⟩; have HO1 := Lib.hid ho1; have HB1 := Lib.hid hb1; clear ho1 hb1)
      | (go_at_call 63; (with_reducible refine (E.out _ _ HO1.out HB1.out).mono ?_); rintro e w2 ⟨v2, rfl, ho2, hb2⟩; have HO2 := Lib.hid ho2; have HB2 := Lib.hid hb2; clear ho2 hb2))
    go_ret2
    exact Q.out _ _ HO2.out HB2.out
  · have hf' : fitB n z = false := by simpa using hf
    have D := Lib.hid (copied_at l v 0 0 w rfl h (by omega))
    have Q : Hid (∀ v' w', Own w.heap.size w' v' l → Below w.heap.size w w' → PutTold w l n z (.returned (.tuple #[v', .bool false])) w') := Lib.hid fun v' w' ho hb => ⟨v', by rw [hf'], by rw [put_no hf']; exact ho, hb⟩
    rw [hf'] at C
    clear hf hf' hl h hz hn
    go_enter Try.func55, Try.ntmps55
    go_wp2_with (first
      | (go_at_call 62; (with_reducible refine (C.out _).mono ?_); rintro e w1 ⟨rfl, rfl⟩)
      | (go_at_call 48; (with_reducible refine D.out.mono ?_); rintro e w1 ⟨v1, rfl, ho1, hb1⟩; have HO1 := Lib.hid ho1; have HB1 := Lib.hid hb1; clear ho1 hb1))
    go_ret2
    exact Q.out _ _ HO1.out HB1.out
end Go.Proofs.Ytllficloadncfaa.oct

/-
  What package head's functions answer, but for Decode: is a head right, its bytes, how many bytes follow. Conditions: numbers of 64 bits.
-/
namespace Go.Proofs.Ytllficloadncfaa.head
open Go.ChangeShapes Go.WideShapes Go.ChangeAt Go.RowKit
open om mem oct hd
set_option linter.unusedVariables false
set_option maxRecDepth 100000

set_option maxHeartbeats 1000000 in
theorem from_at (a n b : Int) (w : World) : Calls Try.prog 42 #[.int .i64 a, .int .i64 n, .int .i64 b] w fun e w' => e = .returned (.bool (fromB a n b)) ∧ w = w' := by
  unfold fromB
  by_cases h : a ≤ n
  · rw [decide_eq_true h]
    go_enter Try.func42, Try.ntmps42
    go_wp2
    go_ret
    exact ⟨by first | rfl | simp, rfl⟩
  · rw [decide_eq_false h]
    go_enter Try.func42, Try.ntmps42
    go_wp2
    go_ret
    exact ⟨by first | rfl | simp, rfl⟩
set_option maxHeartbeats 1000000 in
theorem none_at (n a : Int) (w : World) : Calls Try.prog 43 #[.int .i64 n, .int .i64 a] w fun e w' => e = .returned (.bool (noneB n a)) ∧ w = w' := by
  unfold noneB
  by_cases h : n = 0
  · subst h
    go_enter Try.func43, Try.ntmps43
    go_wp2
    go_ret
    exact ⟨by first | rfl | simp, rfl⟩
  · have t : (n == 0) = false := by simpa using h
    rw [t]
    clear h
    go_enter Try.func43, Try.ntmps43
    go_wp2
    go_ret
    exact ⟨by first | rfl | simp, rfl⟩
set_option maxHeartbeats 4000000 in
theorem right_at (h : Hd) (w : World) : Calls Try.prog 15 #[(.agg #[.int .i64 h.v, .int .i64 h.ut, .int .i64 h.sd, .int .i64 h.lp, .int .i64 h.tm, .int .i64 h.ty, .int .i64 h.ch])] w fun e w' => e = .returned (.bool (okB h)) ∧ Below w.heap.size w w' := by
  have C1 := Lib.hid (fun w => from_at 1 h.v 4 w)
  have C2 := Lib.hid (fun w => none_at h.ut h.ty w)
  have C3 := Lib.hid (fun w => none_at h.sd h.ty w)
  have C4 := Lib.hid (fun w => from_at 0 h.lp 201 w)
  have C5 := Lib.hid (fun w => from_at 0 h.tm 2000 w)
  have C6 := Lib.hid (fun w => from_at 1 h.ty 64 w)
  have C7 := Lib.hid (fun w => from_at 1 h.ch 256 w)
  unfold okB
  generalize fromB 1 h.v 4 = b1 at *
  generalize noneB h.ut h.ty = b2 at *
  generalize noneB h.sd h.ty = b3 at *
  generalize fromB 0 h.lp 201 = b4 at *
  generalize fromB 0 h.tm 2000 = b5 at *
  generalize fromB 1 h.ty 64 = b6 at *
  generalize fromB 1 h.ch 256 = b7 at *
  obtain ⟨v, ut, sd, lp, tm, ty, ch⟩ := h
  simp only at C1 C2 C3 C4 C5 C6 C7 ⊢
  cases b1
  rotate_left
  cases b2
  rotate_left
  cases b3
  rotate_left
  cases b4
  rotate_left
  cases b5
  rotate_left
  cases b6
  rotate_left
  cases b7
  all_goals
    go_enter Try.func15, Try.ntmps15
    go_wp2_with (first
      | (go_at_call 42; (first | (with_reducible refine (C1.out _).mono ?_; rintro e w' ⟨rfl, rfl⟩) | (with_reducible refine (C4.out _).mono ?_; rintro e w' ⟨rfl, rfl⟩) | (with_reducible refine (C5.out _).mono ?_; rintro e w' ⟨rfl, rfl⟩) | (with_reducible refine (C6.out _).mono ?_; rintro e w' ⟨rfl, rfl⟩) | (with_reducible refine (C7.out _).mono ?_; rintro e w' ⟨rfl, rfl⟩)))
      | (go_at_call 43; (first | (with_reducible refine (C2.out _).mono ?_; rintro e w' ⟨rfl, rfl⟩) | (with_reducible refine (C3.out _).mono ?_; rintro e w' ⟨rfl, rfl⟩))))
    go_ret
    exact ⟨rfl, bal (Below.refl _ _) _⟩
/-- what a box that holds a head tells, whatever memory came behind. -/
theorem box_tells (h : Hd) (w : World) : Hid (∀ W, Below (w.alloc (.cells #[.int .i64 h.v, .int .i64 h.ut, .int .i64 h.sd, .int .i64 h.lp, .int .i64 h.tm, .int .i64 h.ty, .int .i64 h.ch] 28)).heap.size (w.alloc (.cells #[.int .i64 h.v, .int .i64 h.ut, .int .i64 h.sd, .int .i64 h.lp, .int .i64 h.tm, .int .i64 h.ty, .int .i64 h.ch] 28)) W →
    W.cell? ⟨w.heap.size, 0, none⟩ = some (.int .i64 h.v) ∧ W.cell? ⟨w.heap.size, 1, none⟩ = some (.int .i64 h.ut) ∧ W.cell? ⟨w.heap.size, 2, none⟩ = some (.int .i64 h.sd) ∧ W.cell? ⟨w.heap.size, 3, none⟩ = some (.int .i64 h.lp) ∧ W.cell? ⟨w.heap.size, 4, none⟩ = some (.int .i64 h.tm) ∧ W.cell? ⟨w.heap.size, 5, none⟩ = some (.int .i64 h.ty) ∧ W.cell? ⟨w.heap.size, 6, none⟩ = some (.int .i64 h.ch) ∧ Below w.heap.size w W ∧ w.heap.size < W.heap.size) :=
  Lib.hid fun W hb => ⟨row_cell (kept (hp_new w _) hb) 0, row_cell (kept (hp_new w _) hb) 1, row_cell (kept (hp_new w _) hb) 2, row_cell (kept (hp_new w _) hb) 3, row_cell (kept (hp_new w _) hb) 4, row_cell (kept (hp_new w _) hb) 5, row_cell (kept (hp_new w _) hb) 6, btr (bal (Below.refl _ _) _) hb, by have := hb.size; rw [World.size_alloc] at this; omega⟩
set_option maxHeartbeats 4000000 in
theorem size_at (h : Hd) (s : Int) (w : World) : Calls Try.prog 19 #[(.agg #[.int .i64 h.v, .int .i64 h.ut, .int .i64 h.sd, .int .i64 h.lp, .int .i64 h.tm, .int .i64 h.ty, .int .i64 h.ch]), .int .i64 s] w fun e w' => e = .returned (.int .i64 (sz h s)) ∧ Below w.heap.size w w' := by
  have R := Lib.hid (fun w => right_at h w)
  have T := box_tells h w
  by_cases hok : okB h = true
  · obtain ⟨⟨a1, b1⟩, k2, k3, ⟨a4, b4⟩, ⟨a5, b5⟩, ⟨a6, b6⟩, a7, b7⟩ := ok_iff.1 hok
    have a2 : 0 ≤ h.ut ∧ h.ut ≤ 64 := by omega
    have a3 : 0 ≤ h.sd ∧ h.sd ≤ 64 := by omega
    rw [hok] at R
    obtain ⟨a2, b2⟩ := a2
    obtain ⟨a3, b3⟩ := a3
    clear k2 k3
    by_cases h4 : s = 4
    · subst h4
      rw [sz_yes (szb_iff.2 ⟨ok_iff.1 hok, Or.inl rfl⟩)]
      clear hok
      unfold szv
      rw [show h.tm * (4 + 1) + h.ty * 6 + h.ch + h.lp * (4 + 4) + h.sd + h.ut = h.tm * 5 + h.ty * 6 + h.ch + h.lp * 8 + h.sd + h.ut from rfl]
      obtain ⟨v, ut, sd, lp, tm, ty, ch⟩ := h
      simp only at *
      go_enter Try.func19, Try.ntmps19
      go_wp2_with (go_at_call 15; (with_reducible refine (R.out _).mono ?_); rintro e w1 ⟨rfl, hb1⟩; obtain ⟨c0, c1, c2, c3, c4, c5, c6, hb2, hs1⟩ := T.out _ hb1; have HB := Lib.hid hb2; clear hb1 hb2)
      go_ret
      exact ⟨rfl, HB.out⟩
    · by_cases h8 : s = 8
      · subst h8
        rw [sz_yes (szb_iff.2 ⟨ok_iff.1 hok, Or.inr rfl⟩)]
        clear hok h4
        unfold szv
        rw [show h.tm * (8 + 1) + h.ty * 6 + h.ch + h.lp * (8 + 4) + h.sd + h.ut = h.tm * 9 + h.ty * 6 + h.ch + h.lp * 12 + h.sd + h.ut from rfl]
        obtain ⟨v, ut, sd, lp, tm, ty, ch⟩ := h
        simp only at *
        go_enter Try.func19, Try.ntmps19
        go_wp2_with (go_at_call 15; (with_reducible refine (R.out _).mono ?_); rintro e w1 ⟨rfl, hb1⟩; obtain ⟨c0, c1, c2, c3, c4, c5, c6, hb2, hs1⟩ := T.out _ hb1; have HB := Lib.hid hb2; clear hb1 hb2)
        go_ret
        exact ⟨rfl, HB.out⟩
      · have hz : szOk h s = false := by rw [Bool.eq_false_iff]; intro e; rcases (szb_iff.1 e).2 with e | e <;> contradiction
        rw [sz_no hz]
        have t4 : (s != 4) = true := by simpa using h4
        have t8 : (s != 8) = true := by simpa using h8
        clear hok hz h4 h8
        obtain ⟨v, ut, sd, lp, tm, ty, ch⟩ := h
        simp only at *
        go_enter Try.func19, Try.ntmps19
        go_wp2_with (go_at_call 15; (with_reducible refine (R.out _).mono ?_); rintro e w1 ⟨rfl, hb1⟩; obtain ⟨c0, c1, c2, c3, c4, c5, c6, hb2, hs1⟩ := T.out _ hb1; have HB := Lib.hid hb2; clear hb1 hb2)
        go_ret
        exact ⟨rfl, HB.out⟩
  · have hok' : okB h = false := by simpa using hok
    have hz : szOk h s = false := by unfold szOk; rw [hok']; rfl
    rw [sz_no hz]
    rw [hok'] at R
    clear hok hok' hz
    obtain ⟨v, ut, sd, lp, tm, ty, ch⟩ := h
    simp only at *
    go_enter Try.func19, Try.ntmps19
    go_wp2_with (go_at_call 15; (with_reducible refine (R.out _).mono ?_); rintro e w1 ⟨rfl, hb1⟩; obtain ⟨c0, c1, c2, c3, c4, c5, c6, hb2, hs1⟩ := T.out _ hb1; have HB := Lib.hid hb2; clear hb1 hb2)
    go_ret
    exact ⟨rfl, HB.out⟩
end Go.Proofs.Ytllficloadncfaa.head
