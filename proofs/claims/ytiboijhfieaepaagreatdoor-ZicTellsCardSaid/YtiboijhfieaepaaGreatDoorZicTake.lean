/-
  What takeLeap and takeExpiry of a source's reading answer, and leave. Conditions: the names of months of package zic, and the tables of package day, hold what their initialisers lay; the library's variable MaxLen holds some number; the words have fewer than 2^32 - 15 bytes; the box holds how far the source is read.
-/
import Derived.Test.YtiboijhfieaepaaGreatDoorZicKind
import Derived.StillTailTactics
import Derived.BigRegion
import Derived.Deep.RegionHeld3
namespace Go.Proofs.YtiboijhfieaepaaGreatDoor.zic
open Go.ChangeShapes Go.WideShapes Go.ChangeAt Go.RowKit
open lx zs mem stx
open lm (Lp ce)
open leap (nx Own tcs Lps)
set_option linter.unusedVariables false
set_option maxRecDepth 100000

/-! all blocks but one are as they were -/
structure Keep (b : Nat) (W W' : World) : Prop where
  os : W'.os = W.os
  tape : W'.tape = W.tape
  output : W'.output = W.output
  size : W.heap.size ≤ W'.heap.size
  block : ∀ k, k < W.heap.size → k ≠ b → W'.heap[k]? = W.heap[k]?
theorem Keep.refl (b : Nat) (W : World) : Keep b W W := ⟨rfl, rfl, rfl, Nat.le_refl _, fun _ _ _ => rfl⟩
theorem Keep.trans {b : Nat} {x y z : World} (h : Keep b x y) (k : Keep b y z) : Keep b x z :=
  ⟨k.os.trans h.os, k.tape.trans h.tape, k.output.trans h.output, Nat.le_trans h.size k.size, fun i h1 h2 => (k.block i (Nat.lt_of_lt_of_le h1 h.size) h2).trans (h.block i h1 h2)⟩
theorem Keep.of_below {b : Nat} {x y : World} (h : Below x.heap.size x y) : Keep b x y := ⟨h.os, h.tape, h.output, h.size, fun i h1 _ => h.block i h1⟩
theorem Keep.setRow {b : Nat} {x y : World} (h : Keep b x y) (c : Array Value) : Keep b x (y.setRow b c) := ⟨h.os, h.tape, h.output, by simpa using h.size, fun i h1 h2 => (setRow_other _ _ _ _ h2).trans (h.block i h1 h2)⟩
theorem Keep.setCell {b : Nat} {x y : World} (h : Keep b x y) (j : Nat) (v : Value) : Keep b x (y.setCell ⟨b, j, none⟩ v) := ⟨h.os, h.tape, h.output, by simpa using h.size, fun i h1 h2 => (heap_setCell_other _ ⟨b, j, none⟩ _ _ h2).trans (h.block i h1 h2)⟩
theorem Keep.drewN {b : Nat} {x y : World} (h : Keep b x y) (n : Nat) : Keep b x (y.drewN n) := ⟨h.os, h.tape, h.output, h.size, h.block⟩
theorem Keep.to_below {b base : Nat} {w x y : World} (h : Keep b x y) (k : Below base w x) (hb : base ≤ b) (hs : base ≤ x.heap.size) : Below base w y :=
  ⟨h.os.trans k.os, h.tape.trans k.tape, h.output.trans k.output, Nat.le_trans k.size h.size, fun i hi => (h.block i (by omega) (by omega)).trans (k.block i hi)⟩
theorem Keep.cell {b : Nat} {x y : World} (h : Keep b x y) {p : Addr} (hp : p.block < x.heap.size) (h1 : p.block ≠ b) : y.cell? p = x.cell? p := World.cell?_of_block (h.block _ hp h1)
theorem lps_keep {b : Nat} {W W' : World} {A : Option Addr} {l : List Lp} (h : Lps W A l) (hb : Keep b W W') (hne : ∀ g o, A = some ⟨g, o, none⟩ → g ≠ b) : Lps W' A l := by
  intro hl
  obtain ⟨g, o, e, hlt, hc⟩ := h hl
  refine ⟨g, o, e, Nat.lt_of_lt_of_le hlt hb.size, fun k hk => ?_⟩
  obtain ⟨c0, c1, c2⟩ := hc k hk
  have n1 := hne g o e
  exact ⟨(hb.cell hlt n1).trans c0, (hb.cell hlt n1).trans c1, (hb.cell hlt n1).trans c2⟩
/-- a store into the middle of a row. -/
theorem store_in {P : Program} {ops : Array Oper} {rest : List Oper} {o : Oper} {a : Act} {w : World} {Q : Exit → Act → World → Prop} (hgd : o.guard = none) (ty : TypeId) (x y : Operand) (ho : o.op = .store ty x y)
    (g k : Nat) (t : TypeId) (cur cells new : Array Value) (hx : a.eval x = .pointer (some ⟨g, k, none⟩)) (hy : a.eval y = .agg cells) (hg : w.heap[g]? = some (.cells cur t (0, 0))) (hi : (P.info? ty).map (·.size) = some cells.size)
    (hfit : k + cells.size ≤ cur.size) (h1 : ∀ v ∈ cells.toList, v.oneCell' = true) (hnew : (cur.toList.take k ++ cells.toList ++ cur.toList.drop (k + cells.size)).toArray = new)
    (h : wpList P ops Q rest (a.put o.dst undef) (w.setRow g new)) : wpList P ops Q (o :: rest) a w := by
  refine wpList_plain hgd fun K hK => ?_
  have hr := run_storeCells_at (P := P) g k t cells.toList 0 cur w hg (by simpa using hfit) h1
  simp only [Nat.add_zero, Array.length_toList, hnew] at hr
  have hs : (storeVar ty ⟨g, k, none⟩ (.agg cells)).run P w = .ok () (w.setRow g new) := by
    cases hq : P.info? ty with
    | none => simp [hq] at hi
    | some i =>
      have hs : cells.size = i.size := by simp [hq] at hi; omega
      simp [storeVar, sizeOf, typeInfo, hq, Value.cells, hs, hr]
  unfold Oper.wp execOp
  simp only [ho, hx, hy, Instr.storeAt, Instr.sureAddr, Sem.run_bind, Sem.run_pure, Result.andThen_ok, hs]
  exact hK _ _ h

/-! the box of a reading -/
def rz (A : Option Addr) (n c : Nat) (xl : Nat) (ex : Int) : Array Value := #[.slice A n c, .bool false, .int .i64 0, .int .i64 (xl : Nat), .int .i64 ex]
def RS (b : Nat) (s : S) (W : World) : Prop :=
  ∃ A c, W.heap[b]? = some (.cells (rz A s.lv.length c s.xl s.ex) 41 (0, 0)) ∧ Lps W A s.lv ∧ s.lv.length ≤ c ∧ ∀ g o, A = some ⟨g, o, none⟩ → g ≠ b ∧ b < g
theorem rs_below {b : Nat} {s : S} {W W' : World} (h : RS b s W) (hb : Below W.heap.size W W') : RS b s W' := by
  obtain ⟨A, c, h1, h2, h3, h4⟩ := h
  exact ⟨A, c, kept h1 hb, h2.below hb, h3, h4⟩
theorem rs_lt {b : Nat} {s : S} {W : World} (h : RS b s W) : b < W.heap.size := by
  obtain ⟨A, c, h1, _⟩ := h
  exact (Array.getElem?_eq_some_iff.1 h1).1
theorem rz_cells {W : World} {b : Nat} {A : Option Addr} {n c xl : Nat} {ex : Int} (h : W.heap[b]? = some (.cells (rz A n c xl ex) 41 (0, 0))) :
    W.cell? ⟨b, 0, none⟩ = some (.slice A n c) ∧ W.cell? ⟨b, 1, none⟩ = some (.bool false) ∧ W.cell? ⟨b, 2, none⟩ = some (.int .i64 0) ∧ W.cell? ⟨b, 3, none⟩ = some (.int .i64 (xl : Nat)) ∧ W.cell? ⟨b, 4, none⟩ = some (.int .i64 ex) ∧ ∀ j, W.frozen? ⟨b, j, none⟩ = false :=
  ⟨row_cell h 0, row_cell h 1, row_cell h 2, row_cell h 3, row_cell h 4, fun j => frozen_of_row _ _ _ _ _ h⟩
/-- what taking leaves. -/
def Took (b : Nat) (W : World) (E : Int) (s' : S) (e : Ending) (w' : World) : Prop := e = .returned (.int .i64 E) ∧ Keep b W w' ∧ (E = 0 → RS b s' w')
theorem took_no {b : Nat} {W w' : World} {E E' : Int} {s' : S} (h : E = E') (h0 : E' ≠ 0) (hb : Below W.heap.size W w') : Took b W E s' (.returned (.int .i64 E')) w' := ⟨by rw [h], Keep.of_below hb, fun k => absurd (h.symm.trans k) h0⟩
theorem szTab : (Tryz.prog.info? 24).map (·.size) = some 3 := by kernel_rfl
theorem rz_fit (A : Option Addr) (n c xl : Nat) (ex : Int) : 0 + 3 ≤ (rz A n c xl ex).size := by show 3 ≤ 5; decide
theorem tab_one (A : Option Addr) (n c : Nat) (has : Bool) (x : Int) : ∀ v ∈ (#[.slice A n c, .bool has, .int .i64 x] : Array Value).toList, v.oneCell' = true := by
  intro v hv
  simp only [List.mem_cons, List.not_mem_nil, or_false] at hv
  rcases hv with rfl | rfl | rfl <;> rfl
theorem mo_cells {w1 w2 : World} {b : Bool} {n s : Int} (hb : Below (w1.alloc (.cells #[.bool b, .int .i64 n, .int .i64 s] 73)).heap.size (w1.alloc (.cells #[.bool b, .int .i64 n, .int .i64 s] 73)) w2) :
    w2.cell? ⟨w1.heap.size, 0, none⟩ = some (.bool b) ∧ w2.cell? ⟨w1.heap.size, 1, none⟩ = some (.int .i64 n) ∧ w2.cell? ⟨w1.heap.size, 2, none⟩ = some (.int .i64 s) := by
  have h := kept (hp_new w1 (.cells #[.bool b, .int .i64 n, .int .i64 s] 73)) hb
  exact ⟨row_cell h 0, row_cell h 1, row_cell h 2⟩
theorem s_start {b m : Nat} {A : Option Addr} {n c : Nat} {z : Int} {W w2 : World} {xl : Nat} {ex : Int}
    (h : w2.cell? ⟨b, 0, none⟩ = some (.slice A n c) ∧ w2.cell? ⟨b, 1, none⟩ = some (.bool false) ∧ w2.cell? ⟨b, 2, none⟩ = some (.int .i64 0) ∧ w2.cell? ⟨b, 3, none⟩ = some (.int .i64 (xl : Nat)) ∧ w2.cell? ⟨b, 4, none⟩ = some (.int .i64 ex) ∧ ∀ j, w2.frozen? ⟨b, j, none⟩ = false)
    (hm : w2.cell? ⟨m, 1, none⟩ = some (.int .i64 z)) (hb : Below W.heap.size W w2) :
    w2.drew.cell? ⟨b, 0, none⟩ = some (.slice A n c) ∧ w2.drew.cell? ⟨b, 1, none⟩ = some (.bool false) ∧ w2.drew.cell? ⟨b, 2, none⟩ = some (.int .i64 0) ∧ w2.drew.cell? ⟨m, 1, none⟩ = some (.int .i64 z) ∧ Below W.heap.size W w2.drew := ⟨h.1, h.2.1, h.2.2.1, hm, bel_drewN hb 1⟩
theorem s_keep {b m : Nat} {A : Option Addr} {n c : Nat} {z : Int} {W W1 W2 : World} (h : W1.cell? ⟨b, 0, none⟩ = some (.slice A n c) ∧ W1.cell? ⟨b, 1, none⟩ = some (.bool false) ∧ W1.cell? ⟨b, 2, none⟩ = some (.int .i64 0) ∧ W1.cell? ⟨m, 1, none⟩ = some (.int .i64 z) ∧ Below W.heap.size W W1) (hb : Below W1.heap.size W1 W2) :
    W2.cell? ⟨b, 0, none⟩ = some (.slice A n c) ∧ W2.cell? ⟨b, 1, none⟩ = some (.bool false) ∧ W2.cell? ⟨b, 2, none⟩ = some (.int .i64 0) ∧ W2.cell? ⟨m, 1, none⟩ = some (.int .i64 z) ∧ Below W.heap.size W W2 :=
  ⟨(hb.cell (World.block_lt_of_cell? W1 _ h.1)).trans h.1, (hb.cell (World.block_lt_of_cell? W1 _ h.2.1)).trans h.2.1, (hb.cell (World.block_lt_of_cell? W1 _ h.2.2.1)).trans h.2.2.1, (hb.cell (World.block_lt_of_cell? W1 _ h.2.2.2.1)).trans h.2.2.2.1, btr h.2.2.2.2 hb⟩
theorem s_alloc {b m : Nat} {A : Option Addr} {n c : Nat} {z : Int} {W W1 : World} (h : W1.cell? ⟨b, 0, none⟩ = some (.slice A n c) ∧ W1.cell? ⟨b, 1, none⟩ = some (.bool false) ∧ W1.cell? ⟨b, 2, none⟩ = some (.int .i64 0) ∧ W1.cell? ⟨m, 1, none⟩ = some (.int .i64 z) ∧ Below W.heap.size W W1) (o : Obj) :
    (W1.alloc o).cell? ⟨b, 0, none⟩ = some (.slice A n c) ∧ (W1.alloc o).cell? ⟨b, 1, none⟩ = some (.bool false) ∧ (W1.alloc o).cell? ⟨b, 2, none⟩ = some (.int .i64 0) ∧ (W1.alloc o).cell? ⟨m, 1, none⟩ = some (.int .i64 z) ∧ Below W.heap.size W (W1.alloc o) := s_keep h (bal (Below.refl _ _) o)
theorem s_below {b m : Nat} {A : Option Addr} {n c : Nat} {z : Int} {W W1 : World} (h : W1.cell? ⟨b, 0, none⟩ = some (.slice A n c) ∧ W1.cell? ⟨b, 1, none⟩ = some (.bool false) ∧ W1.cell? ⟨b, 2, none⟩ = some (.int .i64 0) ∧ W1.cell? ⟨m, 1, none⟩ = some (.int .i64 z) ∧ Below W.heap.size W W1) : Below W.heap.size W W1 := h.2.2.2.2
theorem cell_three {W1 : World} {k : Nat} {u v x : Value} {p : Addr} (h : p.block ≠ k) : (((W1.setCell ⟨k, 0, none⟩ u).setCell ⟨k, 1, none⟩ v).setCell ⟨k, 2, none⟩ x).cell? p = W1.cell? p :=
  World.cell?_of_block (by rw [heap_setCell_other _ ⟨k, 2, none⟩ _ _ h, heap_setCell_other _ ⟨k, 1, none⟩ _ _ h, heap_setCell_other _ ⟨k, 0, none⟩ _ _ h])
theorem s_set {b m k : Nat} {A : Option Addr} {n c : Nat} {z : Int} {W W1 : World} {u v x : Value} (h : W1.cell? ⟨b, 0, none⟩ = some (.slice A n c) ∧ W1.cell? ⟨b, 1, none⟩ = some (.bool false) ∧ W1.cell? ⟨b, 2, none⟩ = some (.int .i64 0) ∧ W1.cell? ⟨m, 1, none⟩ = some (.int .i64 z) ∧ Below W.heap.size W W1) (h1 : b ≠ k) (h2 : m ≠ k) (h3 : W.heap.size ≤ k) :
    (((W1.setCell ⟨k, 0, none⟩ u).setCell ⟨k, 1, none⟩ v).setCell ⟨k, 2, none⟩ x).cell? ⟨b, 0, none⟩ = some (.slice A n c) ∧ (((W1.setCell ⟨k, 0, none⟩ u).setCell ⟨k, 1, none⟩ v).setCell ⟨k, 2, none⟩ x).cell? ⟨b, 1, none⟩ = some (.bool false) ∧ (((W1.setCell ⟨k, 0, none⟩ u).setCell ⟨k, 1, none⟩ v).setCell ⟨k, 2, none⟩ x).cell? ⟨b, 2, none⟩ = some (.int .i64 0) ∧ (((W1.setCell ⟨k, 0, none⟩ u).setCell ⟨k, 1, none⟩ v).setCell ⟨k, 2, none⟩ x).cell? ⟨m, 1, none⟩ = some (.int .i64 z) ∧ Below W.heap.size W (((W1.setCell ⟨k, 0, none⟩ u).setCell ⟨k, 1, none⟩ v).setCell ⟨k, 2, none⟩ x) :=
  ⟨(cell_three (p := ⟨b, 0, none⟩) h1).trans h.1, (cell_three (p := ⟨b, 1, none⟩) h1).trans h.2.1, (cell_three (p := ⟨b, 2, none⟩) h1).trans h.2.2.1, (cell_three (p := ⟨m, 1, none⟩) h2).trans h.2.2.2.1, ((h.2.2.2.2.setCell (p := ⟨k, 0, none⟩) h3 u).setCell (p := ⟨k, 1, none⟩) h3 v).setCell (p := ⟨k, 2, none⟩) h3 x⟩
theorem s_swap {b m : Nat} {A : Option Addr} {n c : Nat} {z : Int} {W W1 : World} {o o' : Obj} (h : (W1.alloc o).cell? ⟨b, 0, none⟩ = some (.slice A n c) ∧ (W1.alloc o).cell? ⟨b, 1, none⟩ = some (.bool false) ∧ (W1.alloc o).cell? ⟨b, 2, none⟩ = some (.int .i64 0) ∧ (W1.alloc o).cell? ⟨m, 1, none⟩ = some (.int .i64 z) ∧ Below W.heap.size W (W1.alloc o)) (h1 : b < W1.heap.size) (h2 : m < W1.heap.size) (h3 : W.heap.size ≤ W1.heap.size) :
    (W1.alloc o').cell? ⟨b, 0, none⟩ = some (.slice A n c) ∧ (W1.alloc o').cell? ⟨b, 1, none⟩ = some (.bool false) ∧ (W1.alloc o').cell? ⟨b, 2, none⟩ = some (.int .i64 0) ∧ (W1.alloc o').cell? ⟨m, 1, none⟩ = some (.int .i64 z) ∧ Below W.heap.size W (W1.alloc o') := by
  have e : ∀ k, k < W1.heap.size → (W1.alloc o').heap[k]? = (W1.alloc o).heap[k]? := fun k hk => (Below.heap_alloc W1 o' k hk).trans (Below.heap_alloc W1 o k hk).symm
  refine ⟨(World.cell?_of_block (a := ⟨b, 0, none⟩) (e b h1)).trans h.1, (World.cell?_of_block (a := ⟨b, 1, none⟩) (e b h1)).trans h.2.1, (World.cell?_of_block (a := ⟨b, 2, none⟩) (e b h1)).trans h.2.2.1, (World.cell?_of_block (a := ⟨m, 1, none⟩) (e m h2)).trans h.2.2.2.1, ?_⟩
  have hb := h.2.2.2.2
  exact ⟨hb.os, hb.tape, hb.output, by simp; omega, fun k hk => (e k (by omega)).trans (hb.block k hk)⟩
theorem ne_new {w2 : World} {o : Obj} {N : Nat} (h : (w2.alloc o).drew.heap.size ≤ N) : N ≠ w2.heap.size := by
  rw [show (w2.alloc o).drew.heap.size = w2.heap.size + 1 by show (w2.alloc o).heap.size = _; simp] at h
  omega
theorem dr_size {w2 w5 : World} (hb : Below w2.drew.heap.size w2.drew w5) : w2.heap.size ≤ w5.heap.size := hb.size
theorem al_size {w2 w5 : World} {o : Obj} (hb : Below (w2.alloc o).drew.heap.size (w2.alloc o).drew w5) : w2.heap.size + 1 ≤ w5.heap.size := by
  have := hb.size
  rw [show (w2.alloc o).drew.heap.size = w2.heap.size + 1 by show (w2.alloc o).heap.size = _; simp] at this
  exact this
theorem al_cells {w2 w5 : World} {A : Option Addr} {n c : Nat} {has : Bool} {x : Int} (hb : Below (w2.alloc (.cells #[.slice A n c, .bool has, .int .i64 x] 24)).drew.heap.size (w2.alloc (.cells #[.slice A n c, .bool has, .int .i64 x] 24)).drew w5) :
    w5.cell? ⟨w2.heap.size, 0, none⟩ = some (.slice A n c) ∧ w5.cell? ⟨w2.heap.size, 1, none⟩ = some (.bool has) ∧ w5.cell? ⟨w2.heap.size, 2, none⟩ = some (.int .i64 x) ∧ (∀ j, w5.frozen? ⟨w2.heap.size, j, none⟩ = false) ∧ Hid (w5.heap[w2.heap.size]? = some (.cells #[.slice A n c, .bool has, .int .i64 x] 24 (0, 0))) := by
  have h : w5.heap[w2.heap.size]? = some (.cells #[.slice A n c, .bool has, .int .i64 x] 24 (0, 0)) := kept (W := (w2.alloc (.cells #[.slice A n c, .bool has, .int .i64 x] 24)).drew) (hp_new w2 _) hb
  exact ⟨row_cell h 0, row_cell h 1, row_cell h 2, fun j => frozen_of_row _ _ _ _ _ h, h⟩
theorem mo_len {X : List (List UInt8)} (h : 5 ≤ X.length) : (mo X).length = 4 := by unfold mo; rw [List.length_take, List.length_drop]; omega
theorem mo_g {X : List (List UInt8)} (k : Nat) (h : k < 4) : g (mo X) k = g X (k + 1) := by
  unfold g mo
  rw [List.getD_eq_getElem?_getD, List.getD_eq_getElem?_getD, List.getElem?_take, if_pos h, List.getElem?_drop, Nat.add_comm]
theorem mo_small {X : List (List UInt8)} (h : Small X) (hl : 5 ≤ X.length) : Small (mo X) := by
  refine ⟨by rw [mo_len hl]; decide, fun k => ?_⟩
  by_cases hk : k < 4
  · rw [mo_g k hk]; exact h.2 _
  · unfold g
    rw [List.getD_eq_getElem?_getD, List.getElem?_eq_none (by rw [mo_len hl]; omega)]
    decide
theorem mo_wds {w : World} {b o : Nat} {X : List (List UInt8)} (hb : b < w.heap.size) (hl : 5 ≤ X.length) (h : ∀ k, k < X.length → w.cell? ⟨b, o + k, none⟩ = some (.string (B (g X k)))) : Wds w (some ⟨b, o + 1, none⟩) (mo X) := by
  intro _
  refine ⟨b, o + 1, rfl, hb, fun k hk => ?_⟩
  rw [List.length_map, mo_len hl] at hk
  have hk' : k < (mo X).length := by rw [mo_len hl]; exact hk
  rw [show o + 1 + k = o + (k + 1) by omega, h (k + 1) (by omega), List.getElem_map, ← mo_g k hk]
  unfold g
  rw [List.getD_eq_getElem?_getD, List.getElem?_eq_getElem hk']
  rfl
theorem cut15 (b o n c : Nat) (h : 5 ≤ n) (hc : n ≤ c) (W : World) : (Instr.slice 42 (.slice (some ⟨b, o, none⟩) n c) (some (.int .i64 1)) (some (.int .i64 5)) none).run Tryz.prog W = .ok (.slice (some ⟨b, o + 1, none⟩) 4 (c - 1)) W := by
  rw [run_slice_lh (P := Tryz.prog) W 42 (some ⟨b, o, none⟩) n c Tryz.underlying42 .i64 .i64 1 5 (by decide) (by decide) (by omega)]
  rw [show (Go.sizeOf (Tryz.prog.elem 42)).run Tryz.prog W = .ok 1 W by kernel_rfl]
  simp [Result.andThen, sliced, Addr.add]
  omega
theorem box_at {A : Option Addr} {n c b m xl : Nat} {ex : Int} {W W0 w5 W6 : World} (hg : W.heap[b]? = some (.cells (rz A n c xl ex) 41 (0, 0))) (hk : Below W.heap.size W W0) (hb : Below W0.heap.size W0 w5) (k6 : Keep m w5 W6) (hm : W.heap.size ≤ m) :
    W6.heap[b]? = some (.cells (rz A n c xl ex) 41 (0, 0)) := by
  have h1 := hp_lt hg
  have h2 := kept (kept hg hk) hb
  rw [k6.block b (hp_lt h2) (by omega)]
  exact h2
theorem took_leap {A : Option Addr} {n c : Nat} {b N c' m : Nat} {s : S} {z : Lp} {W W0 w5 W6 : World} (hg : W.heap[b]? = some (.cells (rz A n c s.xl s.ex) 41 (0, 0))) (hk : Below W.heap.size W W0) (hN : W0.heap.size ≤ N) (hc : (nx s.lv z false 0).length ≤ c') (ho : Own w5 N (nx s.lv z false 0)) (hb : Below W0.heap.size W0 w5) (k6 : Keep m w5 W6) (hm : W.heap.size ≤ m) (hNm : N ≠ m)
    {E : Int} (hE : E = ce (s.lv ++ [z]) false 0) :
    Took b W E { s with lv := s.lv ++ [z] } (.returned (.int .i64 (ce (s.lv ++ [z]) false 0))) (W6.setRow b (rz (some ⟨N, 0, none⟩) (nx s.lv z false 0).length c' s.xl s.ex)) := by
  subst hE
  have hbl := hp_lt hg
  have hs := hb.size
  have hs0 := hk.size
  have hs6 := k6.size
  have hg6 := box_at hg hk hb k6 hm
  have K : Keep b W (W6.setRow b (rz (some ⟨N, 0, none⟩) (nx s.lv z false 0).length c' s.xl s.ex)) := by
    refine Keep.setRow ⟨k6.os.trans (hb.os.trans hk.os), k6.tape.trans (hb.tape.trans hk.tape), k6.output.trans (hb.output.trans hk.output), by omega, fun i h1 h2 => ?_⟩ _
    rw [k6.block i (by omega) (by omega), hb.block i (by omega), hk.block i h1]
  refine ⟨rfl, K, fun h => ?_⟩
  have e : nx s.lv z false 0 = s.lv ++ [z] := by unfold nx; rw [if_pos h]
  rw [e] at hc ho ⊢
  refine ⟨some ⟨N, 0, none⟩, c', setRow_heap _ _ _ _ _ _ hg6, ?_, hc, fun g o e => by cases e; omega⟩
  exact lps_keep (lps_keep ho.lps k6 (fun g o e => by cases e; exact hNm)) ((Keep.refl b W6).setRow _) (fun g o e => by cases e; omega)
theorem set3 {w5 : World} {m : Nat} {u0 v0 x0 u v x : Value} {t : TypeId} (h : w5.heap[m]? = some (.cells #[u0, v0, x0] t (0, 0))) : (((w5.setCell ⟨m, 0, none⟩ u).setCell ⟨m, 1, none⟩ v).setCell ⟨m, 2, none⟩ x).heap[m]? = some (.cells #[u, v, x] t (0, 0)) :=
  heap_setCell_same _ m 2 _ _ _ (heap_setCell_same _ m 1 _ _ _ (heap_setCell_same w5 m 0 _ _ _ h))
theorem own_lt {W : World} {N : Nat} {l : List Lp} (h : Own W N l) : N < W.heap.size := by
  obtain ⟨cs, h, _⟩ := h
  exact hp_lt h

set_option maxHeartbeats 4000000 in
theorem takeLeap_at (b : Nat) (s : S) (X : List (List UInt8)) (hX : X.length = 7) (A : Option Addr) (c : Nat) (W : World) (T : day.Tabs W) (TM : lines.ML W) (TN : Nm W) (h : RS b s W) (hw : Wds W A X) (hx : Small X) (hc7 : 7 ≤ c) (hlen : s.lv.length ≤ 1000000) :
    Calls Tryz.prog 19 #[.pointer (some ⟨b, 0, none⟩), .slice A 7 c] W (Took b W (lE X s) { s with lv := s.lv ++ [lpO X] }) := by
  have hbl := rs_lt h
  obtain ⟨A0, cA, hg, hl, hc, hne⟩ := h
  obtain ⟨q, o, rfl, hq, hcw⟩ := hw.cell (by omega)
  have CC : ∀ k, k < 7 → ∀ W', Below W.heap.size W W' → W'.cell? ⟨q, o + k, none⟩ = some (.string (B (g X k))) := fun k hk W' hW => (hW.cell (World.block_lt_of_cell? W _ (hcw k (by omega)))).trans (hcw k (by omega))
  have C5 := Lib.hid (CC 5 (by omega))
  have C6 := Lib.hid (CC 6 (by omega))
  have SL := cut15 q o 7 c (by omega) hc7
  have MO : Hid (∀ W', Below W.heap.size W W' → Calls Tryz.prog 44 #[.slice (some ⟨q, o + 1, none⟩) 4 (c - 1)] W' fun e w' => e = .returned (.tuple #[.agg #[.bool (moT (mo X) && moD (mo X)), .int .i64 (oN (mo X)), .int .i64 (oS (mo X))], .bool (moT (mo X))]) ∧ Below W'.heap.size W' w') := fun W' hW =>
    moment_at (mo X) (mo_len (by omega)) _ _ W' (T.below hW) (TM.below hW) (TN.below hW) ((mo_wds hq (by omega) hcw).below hW) (mo_small hx (by omega))
  have RK := Lib.hid (fun W' => readKind_at (g X 6) W' (hx.2 6))
  have AD : Hid (∀ W', Below W.heap.size W W' → Calls Tryz.prog 46 #[.agg #[.slice A0 s.lv.length cA, .bool false, .int .i64 0], .agg #[.int .i64 (moN (mo X)), .int .i64 (sgn X), .bool (rkR (g X 6))]] W' (leap.Added s.lv (lpO X) false 0 W')) := fun W' hW =>
    leap.add_at s.lv (lpO X) A0 cA false 0 W' (T.below hW) (hl.below hW) hlen hc
  unfold leap.Added at AD
  have HG := Lib.hid hg
  have FX : Hid (∀ E' w', lE X s = E' → E' ≠ 0 → Below W.heap.size W w' → Took b W (lE X s) { s with lv := s.lv ++ [lpO X] } (.returned (.int .i64 E')) w') := fun E' w' e hE hb => took_no e hE hb
  have RC := Lib.hid (fun w1 (hb : Below W.heap.size W w1) => rz_cells (kept hg hb))
  have hb0 : Below W.heap.size W W := Below.refl _ _
  have EL : Hid (lE X s = if lfT X = false then 2 else if moD (mo X) = false then 9 else if moS (mo X) ≠ (if sgn X = -1 then 86399 else 86400) then 6 else ce (s.lv ++ [lpO X]) false 0) := rfl
  have EF : Hid (lfT X = (moT (mo X) && (rkT (g X 6) && sgT X))) := rfl
  have e43 : ((B (g X 5)).toList == [43]) = decide (g X 5 = [43]) := lit_is _ _
  have e45 : ((B (g X 5)).toList == [45]) = decide (g X 5 = [45]) := lit_is _ _
  have ES : Hid (sgT X = (decide (g X 5 = [43]) || decide (g X 5 = [45]))) := by
    show _ = _
    unfold sgT
    by_cases k1 : g X 5 = [43] <;> by_cases k2 : g X 5 = [45] <;> simp [k1, k2]
  have EG : Hid (sgn X = if g X 5 = [45] then -1 else 1) := rfl
  have ON : Hid (moT (mo X) = true → oN (mo X) = moN (mo X) ∧ oS (mo X) = moS (mo X)) := fun k => ⟨if_pos k, if_pos k⟩
  have hexcl : ¬ (g X 5 = [43] ∧ g X 5 = [45]) := by
    rintro ⟨k1, k2⟩
    rw [k1] at k2
    exact absurd k2 (by decide)
  have nb := moN_bd (mo X)
  clear T TM TN hc hg hl hne hw CC hx hcw
  generalize lE X s = E at *
  generalize lfT X = lf at *
  generalize moT (mo X) = t0 at *
  generalize moD (mo X) = md at *
  generalize oN (mo X) = oN' at *
  generalize oS (mo X) = oS' at *
  generalize rkT (g X 6) = t9 at *
  generalize B (g X 6) = y6 at *
  cases t0 with
  | false =>
    obtain rfl : lf = false := by rw [EF.out]; rfl
    obtain rfl : E = 2 := by rw [EL.out, if_pos rfl]
    clear EL EF ON AD HG RC
    generalize B (g X 5) = y5 at *
    go_enter Tryz.func19, Tryz.ntmps19
    go_wp2_with (first
      | (go_at_call 44; with_reducible refine (MO.out _ hb0).mono ?_; rintro e w1 ⟨rfl, hb1⟩; have k5 := fun a b c => C5.out _ (bal hb1 (.cells #[.bool a, .int .i64 b, .int .i64 c] 73)); have k6 := fun a b c => C6.out _ (bal hb1 (.cells #[.bool a, .int .i64 b, .int .i64 c] 73)); have hm1 := Lib.hid (fun a b c => bal hb1 (.cells #[.bool a, .int .i64 b, .int .i64 c] 73)))
      | (go_at_call 45; with_reducible refine (RK.out _).mono ?_; rintro e w2 ⟨rfl, hb2⟩; obtain ⟨m0, m1, m2⟩ := mo_cells hb2; have h2 := btr (hm1.out _ _ _) hb2))
    go_ret
    exact FX.out 2 _ rfl (by decide) h2
  | true =>
    obtain ⟨rfl, rfl⟩ := ON.out rfl
    rw [Bool.true_and] at MO EF
    cases t9 with
    | false =>
      obtain rfl : lf = false := by rw [EF.out]; rfl
      obtain rfl : E = 2 := by rw [EL.out, if_pos rfl]
      clear EL EF ON AD HG RC
      generalize B (g X 5) = y5 at *
      go_enter Tryz.func19, Tryz.ntmps19
      go_wp2_with (first
        | (go_at_call 44; with_reducible refine (MO.out _ hb0).mono ?_; rintro e w1 ⟨rfl, hb1⟩; have k5 := fun a b c => C5.out _ (bal hb1 (.cells #[.bool a, .int .i64 b, .int .i64 c] 73)); have k6 := fun a b c => C6.out _ (bal hb1 (.cells #[.bool a, .int .i64 b, .int .i64 c] 73)); have hm1 := Lib.hid (fun a b c => bal hb1 (.cells #[.bool a, .int .i64 b, .int .i64 c] 73)))
        | (go_at_call 45; with_reducible refine (RK.out _).mono ?_; rintro e w2 ⟨rfl, hb2⟩; obtain ⟨m0, m1, m2⟩ := mo_cells hb2; have h2 := btr (hm1.out _ _ _) hb2))
      go_ret
      exact FX.out 2 _ rfl (by decide) h2
    | true =>
      rw [Bool.true_and] at EF
      by_cases k43 : g X 5 = [43]
      · have k45 : ¬ g X 5 = [45] := fun k => hexcl ⟨k43, k⟩
        rw [decide_eq_true k43] at e43 ES
        rw [decide_eq_false k45] at e45
        rw [if_neg k45] at EG
        obtain rfl : lf = true := by rw [EF.out, ES.out]; rfl
        rw [if_neg (by decide)] at EL
        rw [EG.out] at AD EL
        rw [if_neg (show ¬ ((1 : Int) = -1) by decide)] at EL
        clear EF ES k43 k45 hexcl ON
        cases md with
        | false =>
          rw [if_pos rfl] at EL
          clear AD HG RC
          generalize B (g X 5) = y5 at *
          go_enter Tryz.func19, Tryz.ntmps19
          go_wp2_with (first
            | (go_at_call 44; with_reducible refine (MO.out _ hb0).mono ?_; rintro e w1 ⟨rfl, hb1⟩; have k5 := fun a b c => C5.out _ (bal hb1 (.cells #[.bool a, .int .i64 b, .int .i64 c] 73)); have k6 := fun a b c => C6.out _ (bal hb1 (.cells #[.bool a, .int .i64 b, .int .i64 c] 73)); have hm1 := Lib.hid (fun a b c => bal hb1 (.cells #[.bool a, .int .i64 b, .int .i64 c] 73)))
            | (go_at_call 45; with_reducible refine (RK.out _).mono ?_; rintro e w2 ⟨rfl, hb2⟩; obtain ⟨m0, m1, m2⟩ := mo_cells hb2; have h2 := btr (hm1.out _ _ _) hb2))
          go_ret
          exact FX.out 9 _ EL.out (by decide) h2
        | true =>
          rw [if_neg (by decide)] at EL
          by_cases ks : moS (mo X) = 86400
          · rw [if_neg (fun k => k ks)] at EL
            rw [ks] at MO
            clear FX ks
            generalize B (g X 5) = y5 at *
            go_enter Tryz.func19, Tryz.ntmps19
            go_wp2_with (first
              | (go_at_call 44; with_reducible refine (MO.out _ hb0).mono ?_; rintro e w1 ⟨rfl, hb1⟩; have k5 := fun a b c => C5.out _ (bal hb1 (.cells #[.bool a, .int .i64 b, .int .i64 c] 73)); have k6 := fun a b c => C6.out _ (bal hb1 (.cells #[.bool a, .int .i64 b, .int .i64 c] 73)); have hm1 := Lib.hid (fun a b c => bal hb1 (.cells #[.bool a, .int .i64 b, .int .i64 c] 73)))
              | (go_at_call 45; with_reducible refine (RK.out _).mono ?_; rintro e w2 ⟨rfl, hb2⟩; obtain ⟨m0, m1, m2⟩ := mo_cells hb2; have h2 := btr (hm1.out _ _ _) hb2))
            have s0 := s_start (RC.out w2 h2) m1 h2
            have hw1 : W.heap.size ≤ w1.heap.size := hb1.size
            have hw2 : w1.heap.size < w2.heap.size := by have := hb2.size; simp at this; omega
            clear m0 m1 m2 k5 k6 RC MO RK C5 C6
            go_region_held3 (fun w' => w'.cell? ⟨b, 0, none⟩ = some (.slice A0 s.lv.length cA) ∧ w'.cell? ⟨b, 1, none⟩ = some (.bool false) ∧ w'.cell? ⟨b, 2, none⟩ = some (.int .i64 0) ∧ w'.cell? ⟨w1.heap.size, 1, none⟩ = some (.int .i64 (moN (mo X))) ∧ Below W.heap.size W w') (first | exact s0 | exact s_alloc (by assumption) _ | exact s_swap (by assumption) (by omega) (by omega) (by omega) | exact s_keep (by assumption) (by assumption) | exact s_set (by assumption) (by omega) (by omega) (by omega))
              (first | (go_at_call 46; first
                | (with_reducible refine (AD.out w2.drew (s_below (by assumption))).mono ?_; rintro e w5 ⟨N, c', hN, rfl, hc', ho, hb5⟩; have HN := Lib.hid hN; have HC := Lib.hid hc'; have hs5 := dr_size hb5; clear hN hc')
                | (with_reducible refine (AD.out (w2.alloc (.cells #[.slice none 0 0, .bool false, .int .i64 0] 24)).drew (s_below (by assumption))).mono ?_; rintro e w5 ⟨N, c', hN, rfl, hc', ho, hb5⟩; have HN := Lib.hid hN; have HC := Lib.hid hc'; obtain ⟨a0, a1, a2, af, HA⟩ := al_cells (w2 := w2) (A := none) (n := 0) (c := 0) (has := false) (x := 0) hb5; have hs5 := al_size hb5; clear hN hc')))
            · have hW0 : Below W.heap.size W w2.drew := bel_drewN h2 1
              have HS5 : Hid (W.heap.size ≤ w5.heap.size) := (show W.heap.size ≤ w5.heap.size by omega)
              have HO := Lib.hid ho
              have HB5 := Lib.hid hb5
              have HH := Lib.hid hW0
              have HE := Lib.hid EL.out
              have K6 : Hid (Keep w5.heap.size w5 (w5.alloc (.cells #[.slice (some ⟨N, 0, none⟩) (nx s.lv (lpO X) false 0).length c', .bool false, .int .i64 0] 24))) := Keep.of_below (bal (Below.refl _ _) _)
              have HR6 := hp_new w5 (.cells #[.slice (some ⟨N, 0, none⟩) (nx s.lv (lpO X) false 0).length c', .bool false, .int .i64 0] 24)
              have x0 := row_cell HR6 0
              have x1 := row_cell HR6 1
              have x2 := row_cell HR6 2
              generalize (w5.alloc (.cells #[.slice (some ⟨N, 0, none⟩) (nx s.lv (lpO X) false 0).length c', .bool false, .int .i64 0] 24)) = W6 at *
              have HG6 := Lib.hid (box_at HG.out HH.out HB5.out K6.out HS5.out)
              clear ho hb5 hW0 HR6
              go_wp2_with (refine store_in rfl 24 (.tmp 69) (.tmp 67) rfl b 0 41 (rz A0 s.lv.length cA s.xl s.ex) _ (rz (some ⟨N, 0, none⟩) (nx s.lv (lpO X) false 0).length c' s.xl s.ex) rfl rfl HG6.out szTab (rz_fit _ _ _ _ _) (tab_one _ _ _ _ _) rfl ?_)
              go_ret
              exact took_leap HG.out HH.out HN.out HC.out HO.out HB5.out K6.out HS5.out (Nat.ne_of_lt (own_lt HO.out)) HE.out
            · have hW0 : Below W.heap.size W (w2.alloc (.cells #[.slice none 0 0, .bool false, .int .i64 0] 24)).drew := bel_drewN (bal h2 _) 1
              have HS5 : Hid (W.heap.size ≤ w2.heap.size) := (show W.heap.size ≤ w2.heap.size by omega)
              have HO := Lib.hid ho
              have HB5 := Lib.hid hb5
              have HH := Lib.hid hW0
              have HE := Lib.hid EL.out
              have HNE : Hid (N ≠ w2.heap.size) := ne_new HN.out
              have K6 : Hid (Keep w2.heap.size w5 (((w5.setCell ⟨w2.heap.size, 0, none⟩ (.slice (some ⟨N, 0, none⟩) (nx s.lv (lpO X) false 0).length c')).setCell ⟨w2.heap.size, 1, none⟩ (.bool false)).setCell ⟨w2.heap.size, 2, none⟩ (.int .i64 0))) := (((Keep.refl _ _).setCell 0 _).setCell 1 _).setCell 2 _
              have HR6 := set3 (u := .slice (some ⟨N, 0, none⟩) (nx s.lv (lpO X) false 0).length c') (v := .bool false) (x := .int .i64 0) HA.out
              have x0 := row_cell HR6 0
              have x1 := row_cell HR6 1
              have x2 := row_cell HR6 2
              generalize (((w5.setCell ⟨w2.heap.size, 0, none⟩ (.slice (some ⟨N, 0, none⟩) (nx s.lv (lpO X) false 0).length c')).setCell ⟨w2.heap.size, 1, none⟩ (.bool false)).setCell ⟨w2.heap.size, 2, none⟩ (.int .i64 0)) = W6 at *
              have HG6 := Lib.hid (box_at HG.out HH.out HB5.out K6.out HS5.out)
              clear ho hb5 hW0 HR6 a0 a1 a2 af
              go_wp2_with (refine store_in rfl 24 (.tmp 69) (.tmp 67) rfl b 0 41 (rz A0 s.lv.length cA s.xl s.ex) _ (rz (some ⟨N, 0, none⟩) (nx s.lv (lpO X) false 0).length c' s.xl s.ex) rfl rfl HG6.out szTab (rz_fit _ _ _ _ _) (tab_one _ _ _ _ _) rfl ?_)
              go_ret
              exact took_leap HG.out HH.out HN.out HC.out HO.out HB5.out K6.out HS5.out HNE.out HE.out
          · rw [if_pos ks] at EL
            have u1 : (moS (mo X) != 86400) = true := by simpa using ks
            clear AD HG RC ks
            generalize B (g X 5) = y5 at *
            generalize moS (mo X) = ms at *
            go_enter Tryz.func19, Tryz.ntmps19
            go_wp2_with (first
              | (go_at_call 44; with_reducible refine (MO.out _ hb0).mono ?_; rintro e w1 ⟨rfl, hb1⟩; have k5 := fun a b c => C5.out _ (bal hb1 (.cells #[.bool a, .int .i64 b, .int .i64 c] 73)); have k6 := fun a b c => C6.out _ (bal hb1 (.cells #[.bool a, .int .i64 b, .int .i64 c] 73)); have hm1 := Lib.hid (fun a b c => bal hb1 (.cells #[.bool a, .int .i64 b, .int .i64 c] 73)))
              | (go_at_call 45; with_reducible refine (RK.out _).mono ?_; rintro e w2 ⟨rfl, hb2⟩; obtain ⟨m0, m1, m2⟩ := mo_cells hb2; have h2 := btr (hm1.out _ _ _) hb2))
            go_ret
            exact FX.out 6 _ EL.out (by decide) h2
      · by_cases k45 : g X 5 = [45]
        · rw [decide_eq_false k43] at e43
          rw [decide_eq_true k45] at e45 ES
          rw [if_pos k45] at EG
          obtain rfl : lf = true := by rw [EF.out, ES.out]; cases decide (g X 5 = [43]) <;> rfl
          rw [if_neg (by decide)] at EL
          rw [EG.out] at AD EL
          rw [if_pos rfl] at EL
          clear EF ES k43 k45 hexcl ON
          cases md with
          | false =>
            rw [if_pos rfl] at EL
            clear AD HG RC
            generalize B (g X 5) = y5 at *
            go_enter Tryz.func19, Tryz.ntmps19
            go_wp2_with (first
              | (go_at_call 44; with_reducible refine (MO.out _ hb0).mono ?_; rintro e w1 ⟨rfl, hb1⟩; have k5 := fun a b c => C5.out _ (bal hb1 (.cells #[.bool a, .int .i64 b, .int .i64 c] 73)); have k6 := fun a b c => C6.out _ (bal hb1 (.cells #[.bool a, .int .i64 b, .int .i64 c] 73)); have hm1 := Lib.hid (fun a b c => bal hb1 (.cells #[.bool a, .int .i64 b, .int .i64 c] 73)))
              | (go_at_call 45; with_reducible refine (RK.out _).mono ?_; rintro e w2 ⟨rfl, hb2⟩; obtain ⟨m0, m1, m2⟩ := mo_cells hb2; have h2 := btr (hm1.out _ _ _) hb2))
            go_ret
            exact FX.out 9 _ EL.out (by decide) h2
          | true =>
            rw [if_neg (by decide)] at EL
            by_cases ks : moS (mo X) = 86399
            · rw [if_neg (fun k => k ks)] at EL
              rw [ks] at MO
              clear FX ks
              generalize B (g X 5) = y5 at *
              go_enter Tryz.func19, Tryz.ntmps19
              go_wp2_with (first
                | (go_at_call 44; with_reducible refine (MO.out _ hb0).mono ?_; rintro e w1 ⟨rfl, hb1⟩; have k5 := fun a b c => C5.out _ (bal hb1 (.cells #[.bool a, .int .i64 b, .int .i64 c] 73)); have k6 := fun a b c => C6.out _ (bal hb1 (.cells #[.bool a, .int .i64 b, .int .i64 c] 73)); have hm1 := Lib.hid (fun a b c => bal hb1 (.cells #[.bool a, .int .i64 b, .int .i64 c] 73)))
                | (go_at_call 45; with_reducible refine (RK.out _).mono ?_; rintro e w2 ⟨rfl, hb2⟩; obtain ⟨m0, m1, m2⟩ := mo_cells hb2; have h2 := btr (hm1.out _ _ _) hb2))
              have s0 := s_start (RC.out w2 h2) m1 h2
              have hw1 : W.heap.size ≤ w1.heap.size := hb1.size
              have hw2 : w1.heap.size < w2.heap.size := by have := hb2.size; simp at this; omega
              clear m0 m1 m2 k5 k6 RC MO RK C5 C6
              go_region_held3 (fun w' => w'.cell? ⟨b, 0, none⟩ = some (.slice A0 s.lv.length cA) ∧ w'.cell? ⟨b, 1, none⟩ = some (.bool false) ∧ w'.cell? ⟨b, 2, none⟩ = some (.int .i64 0) ∧ w'.cell? ⟨w1.heap.size, 1, none⟩ = some (.int .i64 (moN (mo X))) ∧ Below W.heap.size W w') (first | exact s0 | exact s_alloc (by assumption) _ | exact s_swap (by assumption) (by omega) (by omega) (by omega) | exact s_keep (by assumption) (by assumption) | exact s_set (by assumption) (by omega) (by omega) (by omega))
                (first | (go_at_call 46; first
                  | (with_reducible refine (AD.out w2.drew (s_below (by assumption))).mono ?_; rintro e w5 ⟨N, c', hN, rfl, hc', ho, hb5⟩; have HN := Lib.hid hN; have HC := Lib.hid hc'; have hs5 := dr_size hb5; clear hN hc')
                  | (with_reducible refine (AD.out (w2.alloc (.cells #[.slice none 0 0, .bool false, .int .i64 0] 24)).drew (s_below (by assumption))).mono ?_; rintro e w5 ⟨N, c', hN, rfl, hc', ho, hb5⟩; have HN := Lib.hid hN; have HC := Lib.hid hc'; obtain ⟨a0, a1, a2, af, HA⟩ := al_cells (w2 := w2) (A := none) (n := 0) (c := 0) (has := false) (x := 0) hb5; have hs5 := al_size hb5; clear hN hc')))
              · have hW0 : Below W.heap.size W w2.drew := bel_drewN h2 1
                have HS5 : Hid (W.heap.size ≤ w5.heap.size) := (show W.heap.size ≤ w5.heap.size by omega)
                have HO := Lib.hid ho
                have HB5 := Lib.hid hb5
                have HH := Lib.hid hW0
                have HE := Lib.hid EL.out
                have K6 : Hid (Keep w5.heap.size w5 (w5.alloc (.cells #[.slice (some ⟨N, 0, none⟩) (nx s.lv (lpO X) false 0).length c', .bool false, .int .i64 0] 24))) := Keep.of_below (bal (Below.refl _ _) _)
                have HR6 := hp_new w5 (.cells #[.slice (some ⟨N, 0, none⟩) (nx s.lv (lpO X) false 0).length c', .bool false, .int .i64 0] 24)
                have x0 := row_cell HR6 0
                have x1 := row_cell HR6 1
                have x2 := row_cell HR6 2
                generalize (w5.alloc (.cells #[.slice (some ⟨N, 0, none⟩) (nx s.lv (lpO X) false 0).length c', .bool false, .int .i64 0] 24)) = W6 at *
                have HG6 := Lib.hid (box_at HG.out HH.out HB5.out K6.out HS5.out)
                clear ho hb5 hW0 HR6
                go_wp2_with (refine store_in rfl 24 (.tmp 69) (.tmp 67) rfl b 0 41 (rz A0 s.lv.length cA s.xl s.ex) _ (rz (some ⟨N, 0, none⟩) (nx s.lv (lpO X) false 0).length c' s.xl s.ex) rfl rfl HG6.out szTab (rz_fit _ _ _ _ _) (tab_one _ _ _ _ _) rfl ?_)
                go_ret
                exact took_leap HG.out HH.out HN.out HC.out HO.out HB5.out K6.out HS5.out (Nat.ne_of_lt (own_lt HO.out)) HE.out
              · have hW0 : Below W.heap.size W (w2.alloc (.cells #[.slice none 0 0, .bool false, .int .i64 0] 24)).drew := bel_drewN (bal h2 _) 1
                have HS5 : Hid (W.heap.size ≤ w2.heap.size) := (show W.heap.size ≤ w2.heap.size by omega)
                have HO := Lib.hid ho
                have HB5 := Lib.hid hb5
                have HH := Lib.hid hW0
                have HE := Lib.hid EL.out
                have HNE : Hid (N ≠ w2.heap.size) := ne_new HN.out
                have K6 : Hid (Keep w2.heap.size w5 (((w5.setCell ⟨w2.heap.size, 0, none⟩ (.slice (some ⟨N, 0, none⟩) (nx s.lv (lpO X) false 0).length c')).setCell ⟨w2.heap.size, 1, none⟩ (.bool false)).setCell ⟨w2.heap.size, 2, none⟩ (.int .i64 0))) := (((Keep.refl _ _).setCell 0 _).setCell 1 _).setCell 2 _
                have HR6 := set3 (u := .slice (some ⟨N, 0, none⟩) (nx s.lv (lpO X) false 0).length c') (v := .bool false) (x := .int .i64 0) HA.out
                have x0 := row_cell HR6 0
                have x1 := row_cell HR6 1
                have x2 := row_cell HR6 2
                generalize (((w5.setCell ⟨w2.heap.size, 0, none⟩ (.slice (some ⟨N, 0, none⟩) (nx s.lv (lpO X) false 0).length c')).setCell ⟨w2.heap.size, 1, none⟩ (.bool false)).setCell ⟨w2.heap.size, 2, none⟩ (.int .i64 0)) = W6 at *
                have HG6 := Lib.hid (box_at HG.out HH.out HB5.out K6.out HS5.out)
                clear ho hb5 hW0 HR6 a0 a1 a2 af
                go_wp2_with (refine store_in rfl 24 (.tmp 69) (.tmp 67) rfl b 0 41 (rz A0 s.lv.length cA s.xl s.ex) _ (rz (some ⟨N, 0, none⟩) (nx s.lv (lpO X) false 0).length c' s.xl s.ex) rfl rfl HG6.out szTab (rz_fit _ _ _ _ _) (tab_one _ _ _ _ _) rfl ?_)
                go_ret
                exact took_leap HG.out HH.out HN.out HC.out HO.out HB5.out K6.out HS5.out HNE.out HE.out
            · rw [if_pos ks] at EL
              have u1 : (moS (mo X) != 86399) = true := by simpa using ks
              clear AD HG RC ks
              generalize B (g X 5) = y5 at *
              generalize moS (mo X) = ms at *
              go_enter Tryz.func19, Tryz.ntmps19
              go_wp2_with (first
                | (go_at_call 44; with_reducible refine (MO.out _ hb0).mono ?_; rintro e w1 ⟨rfl, hb1⟩; have k5 := fun a b c => C5.out _ (bal hb1 (.cells #[.bool a, .int .i64 b, .int .i64 c] 73)); have k6 := fun a b c => C6.out _ (bal hb1 (.cells #[.bool a, .int .i64 b, .int .i64 c] 73)); have hm1 := Lib.hid (fun a b c => bal hb1 (.cells #[.bool a, .int .i64 b, .int .i64 c] 73)))
                | (go_at_call 45; with_reducible refine (RK.out _).mono ?_; rintro e w2 ⟨rfl, hb2⟩; obtain ⟨m0, m1, m2⟩ := mo_cells hb2; have h2 := btr (hm1.out _ _ _) hb2))
              go_ret
              exact FX.out 6 _ EL.out (by decide) h2
        · rw [decide_eq_false k43] at e43 ES
          rw [decide_eq_false k45] at e45 ES
          obtain rfl : lf = false := by rw [EF.out, ES.out]; rfl
          obtain rfl : E = 2 := by rw [EL.out, if_pos rfl]
          clear EL EF ON AD HG RC k43 k45 ES EG
          generalize B (g X 5) = y5 at *
          go_enter Tryz.func19, Tryz.ntmps19
          go_wp2_with (first
            | (go_at_call 44; with_reducible refine (MO.out _ hb0).mono ?_; rintro e w1 ⟨rfl, hb1⟩; have k5 := fun a b c => C5.out _ (bal hb1 (.cells #[.bool a, .int .i64 b, .int .i64 c] 73)); have k6 := fun a b c => C6.out _ (bal hb1 (.cells #[.bool a, .int .i64 b, .int .i64 c] 73)); have hm1 := Lib.hid (fun a b c => bal hb1 (.cells #[.bool a, .int .i64 b, .int .i64 c] 73)))
            | (go_at_call 45; with_reducible refine (RK.out _).mono ?_; rintro e w2 ⟨rfl, hb2⟩; obtain ⟨m0, m1, m2⟩ := mo_cells hb2; have h2 := btr (hm1.out _ _ _) hb2))
          go_ret
          exact FX.out 2 _ rfl (by decide) h2
end Go.Proofs.YtiboijhfieaepaaGreatDoor.zic
