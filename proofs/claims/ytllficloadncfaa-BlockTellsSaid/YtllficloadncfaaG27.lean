/-
  The small case that each statement of layer 16 begins with comes out true. Condition: MaxLen holds a number.
-/
import Derived.Test.YtllficloadncfaaG26
namespace Go.Proofs.Ytllficloadncfaa.blk
open Go.ChangeShapes Go.WideShapes Go.ChangeAt Go.RowKit
open om mem oct bk
open abr (Fr)
set_option linter.unusedVariables false
set_option maxRecDepth 100000

/-- all blocks but two are as they were. -/
structure Bt (a b : Nat) (W W' : World) : Prop where
  os : W'.os = W.os
  tape : W'.tape = W.tape
  output : W'.output = W.output
  size : W.heap.size ≤ W'.heap.size
  block : ∀ k, k < W.heap.size → k ≠ a → k ≠ b → W'.heap[k]? = W.heap[k]?
theorem Bt.trans {a b : Nat} {x y z : World} (h : Bt a b x y) (k : Bt a b y z) : Bt a b x z :=
  ⟨k.os.trans h.os, k.tape.trans h.tape, k.output.trans h.output, Nat.le_trans h.size k.size, fun i h1 h2 h3 => (k.block i (Nat.lt_of_lt_of_le h1 h.size) h2 h3).trans (h.block i h1 h2 h3)⟩
theorem Bt.of {a b : Nat} {x y : World} (h : Below x.heap.size x y) : Bt a b x y := ⟨h.os, h.tape, h.output, h.size, fun i h1 _ _ => h.block i h1⟩
theorem Bt.grown {a b : Nat} {x y : World} {r : Option Nat} (h : x.grownBy y r) (hr : ∀ k, r = some k → k = a) : Bt a b x y := ⟨h.os, h.tape, h.output, h.size, fun i h1 h2 _ => h.block i h1 (fun e => h2 (hr i e.symm))⟩
theorem Bt.set {a b : Nat} {x y : World} (h : Bt a b x y) (o : Nat) (v : Value) : Bt a b x (y.setCell ⟨b, o, none⟩ v) :=
  ⟨h.os, h.tape, h.output, by simpa [World.setCell] using h.size, fun i h1 h2 h3 => (Below.heap_setCell _ _ _ _ (by show i ≠ b; exact h3)).trans (h.block i h1 h2 h3)⟩
theorem Bt.heap {a b : Nat} {x y : World} (h : Bt a b x y) {k : Nat} {o : Obj} (hk : x.heap[k]? = some o) (h1 : k ≠ a) (h2 : k ≠ b) : y.heap[k]? = some o := by
  rw [h.block k (hp_lt hk) h1 h2]; exact hk
theorem Bt.cell {a b : Nat} {x y : World} (h : Bt a b x y) {k o : Nat} (hk : k < x.heap.size) (h1 : k ≠ a) (h2 : k ≠ b) : y.cell? ⟨k, o, none⟩ = x.cell? ⟨k, o, none⟩ := World.cell?_of_block (h.block k hk h1 h2)
theorem Bt.zr {a b : Nat} {x y : World} (h : Bt a b x y) {A B C : Option Addr} {z : Zn} (hz : Zr x A B C z) (M : Nat) (g1 : ∀ g o, A = some ⟨g, o, none⟩ → M ≤ g) (g2 : ∀ g o, B = some ⟨g, o, none⟩ → M ≤ g) (g3 : ∀ g o, C = some ⟨g, o, none⟩ → M ≤ g) (ha : a < M) (hb : ∀ k, M ≤ k → k < x.heap.size → k ≠ b) : Zr y A B C z :=
  ⟨hz.ty.keep h.size fun k o p e hlt => h.cell hlt (by have := g1 k o e; omega) (hb k (g1 k o e) hlt), hz.tr.keep h.size fun k o p e hlt => h.cell hlt (by have := g2 k o e; omega) (hb k (g2 k o e) hlt), hz.lp.keep h.size fun k o p e hlt => h.cell hlt (by have := g3 k o e; omega) (hb k (g3 k o e) hlt)⟩
theorem Bt.below {a b base : Nat} {w x y : World} (h : Bt a b x y) (k : Below base w x) (ha : base ≤ a) (hb : base ≤ b) (hs : base ≤ x.heap.size) : Below base w y :=
  ⟨h.os.trans k.os, h.tape.trans k.tape, h.output.trans k.output, Nat.le_trans k.size h.size, fun i hi => (h.block i (by omega) (by omega) (by omega)).trans (k.block i hi)⟩
theorem head7 {W : World} {g : Nat} (h : W.heap[g]? = some (.cells #[.int .i64 2, .int .i64 0, .int .i64 0, .int .i64 0, .int .i64 0, .int .i64 1, .int .i64 4] 28)) : W.cell? ⟨g, 0, none⟩ = some (.int .i64 2) ∧ W.cell? ⟨g, 1, none⟩ = some (.int .i64 0) ∧ W.cell? ⟨g, 2, none⟩ = some (.int .i64 0) ∧ W.cell? ⟨g, 3, none⟩ = some (.int .i64 0) ∧ W.cell? ⟨g, 4, none⟩ = some (.int .i64 0) ∧ W.cell? ⟨g, 5, none⟩ = some (.int .i64 1) ∧ W.cell? ⟨g, 6, none⟩ = some (.int .i64 4) :=
  ⟨row_cell h 0, row_cell h 1, row_cell h 2, row_cell h 3, row_cell h 4, row_cell h 5, row_cell h 6⟩
theorem own_some {base : Nat} {W : World} {A : Option Addr} {n c : Nat} {l : List Nat} (h : Own base W (.slice A n c) l) (hl : l ≠ []) : ∃ g, A = some ⟨g, 0, none⟩ ∧ n = l.length ∧ base ≤ g ∧ g < W.heap.size := by
  rcases h.2 with ⟨_, hn⟩ | ⟨g, cap, cur, e, hb, hh, _⟩
  · exact absurd (List.eq_nil_of_length_eq_zero hn) hl
  · cases e
    exact ⟨g, rfl, rfl, hb, hp_lt hh⟩
theorem rd_one (W W' : World) (h : Below (W.alloc (.cells #[.int .u8 0] 5)).heap.size (W.alloc (.cells #[.int .u8 0] 5)) W') : RdW W' (.slice (some ⟨W.heap.size, 0, none⟩) 1 1) [0] :=
  ⟨_, 1, rfl, Nat.le_refl _, (fun h => by cases h), fun _ => ⟨W.heap.size, 0, rfl, fun k hk => by
    have : k = 0 := by simp only [List.length_singleton] at hk; omega
    subst this
    exact row_cell (kept (hp_new W (.cells #[.int .u8 0] 5)) h) 0⟩⟩
/-- 'append(a, xs...)' of a row of the call's own, as a run. -/
theorem app_ex (base : Nat) (W : World) (v : Value) (b o k cap : Nat) (l m : List Nat) (hown : Own base W v l) (hr : RdW W (.slice (some ⟨b, o, none⟩) k cap) m) (hm : m ≠ []) (hn : l.length + m.length < 8000000000000) (hbase : base ≤ W.heap.size) :
    ∃ v' w', (Builtin.append_ #[29, 29] 29 #[v, .slice (some ⟨b, o, none⟩) k cap]).run Try.prog W = .ok v' w' ∧ Own base w' v' (l ++ m) ∧ W.grownBy w' v.ownBlock ∧ Old w' v l := by
  obtain ⟨A, cap', e, hc, hz, hr⟩ := hr
  cases e
  obtain ⟨i0, hi, hz0, hz1, hz2⟩ := info_parts infoB
  obtain ⟨v', w', hrun, h1, h2, h3⟩ := run_keep (P := Try.prog) W base 29 29 5 i0 _ 1 1 Try.underlying29 hi hz0 hz1 hz2 rfl (by decide) v l.length (bc l) hown ⟨b, o, none⟩ m.length cap (bc m) (by rw [bc_len]; omega) (fun j u hu => by
    have hj : j < m.length := by have := (List.getElem?_eq_some_iff.1 hu).1; rw [bc_len] at this; exact this
    obtain ⟨b', o', e, hcell⟩ := hr hm
    cases e
    rw [Addr.add_mid, hcell j hj, ← hu]
    simp [bc, hj]) (bc_one m) (by unfold maxLen; omega) (by omega) hbase
  refine ⟨v', w', hrun, ?_, h2, old_of hown h3⟩
  unfold Own
  rw [bc_app, List.length_append]
  exact h1
/-- a builtin whose run is known to be, as a step of a region that draws. -/
theorem step_any {P : Program} {ops : Array Oper} {o : Oper} {a : Act} {W : World} {K : Act → World → Prop} {Q : Exit → Act → World → Prop} {E : Prop} (hgd : o.guard = none) (s x : Operand) (t : TypeId)
    (ho : o.op = .call { callee := .builtin .append, args := #[s, x], argTypes := #[t, t] }) (va vx : Value) (hs : a.eval s = va) (hx : a.eval x = vx) (R : Value → World → Prop)
    (run : ∃ v' w', (Builtin.append_ #[t, t] o.type #[va, vx]).run P W = .ok v' w' ∧ R v' w') (h : ∀ v' w', R v' w' → K (a.put o.dst v') w') :
    if Region.wanted o (yielded ops a.tmps) = true then Oper.wp P o a W K Q else E := by
  obtain ⟨v', w', run, hR⟩ := run
  have hw : Region.wanted o (yielded ops a.tmps) = true := by simp [Region.wanted, hgd]
  rw [if_pos hw]
  unfold Oper.wp execOp
  simp only [ho, resolve, invoke, builtin, Sem.run_bind, Sem.run_pure, Result.andThen_ok, List.map_toArray, List.map_cons, List.map_nil, hs, hx, run]
  exact h v' w' hR
theorem grown_at {W w' : World} {g ga n c : Nat} {o : Obj} (h : W.heap[g]? = some o) (hne : g ≠ ga) (hg : W.grownBy w' (Value.slice (some ⟨ga, 0, none⟩) n c).ownBlock) : w'.heap[g]? = some o := by
  rw [hg.block g (hp_lt h) (fun e => hne (by cases e; rfl))]
  exact h
theorem cs1 {W : World} {g zb : Nat} {o : Obj} (h : W.heap[g]? = some o) (hne : g ≠ zb) (j : Nat) (v : Value) : (W.setCell ⟨zb, j, none⟩ v).heap[g]? = some o := by
  rw [Below.heap_setCell _ _ _ _ (by show g ≠ zb; exact hne)]; exact h
theorem sc5 {W : World} {g zb : Nat} {o : Obj} (h : W.heap[g]? = some o) (hne : g ≠ zb) (a b c d e : Value) : (((((W.setCell ⟨zb, 0, none⟩ a).setCell ⟨zb, 1, none⟩ b).setCell ⟨zb, 2, none⟩ c).setCell ⟨zb, 3, none⟩ d).setCell ⟨zb, 4, none⟩ e).heap[g]? = some o :=
  cs1 (cs1 (cs1 (cs1 (cs1 h hne 0 a) hne 1 b) hne 2 c) hne 3 d) hne 4 e
theorem sr5 {W : World} {g zb : Nat} {o : Obj} (h : W.heap[g]? = some o) (hne : g ≠ zb) (c : Array Value) : (W.setRow zb c).heap[g]? = some o := by
  rw [setRow_other _ _ _ _ hne]; exact h
theorem z_cells {W : World} {g : Nat} (h : W.heap[g]? = some (.cells #[.slice none 0 0, .slice none 0 0, .slice none 0 0, .string ⟨#[]⟩, .int .i64 0] 26)) : (W.cell? ⟨g, 0, none⟩ = some (.slice none 0 0) ∧ W.cell? ⟨g, 1, none⟩ = some (.slice none 0 0) ∧ W.cell? ⟨g, 2, none⟩ = some (.slice none 0 0) ∧ W.cell? ⟨g, 3, none⟩ = some (.string ⟨#[]⟩) ∧ W.cell? ⟨g, 4, none⟩ = some (.int .i64 0)) ∧ ∀ j, W.frozen? ⟨g, j, none⟩ = false :=
  ⟨⟨row_cell h 0, row_cell h 1, row_cell h 2, row_cell h 3, row_cell h 4⟩, fun j => frozen_of_row _ _ _ _ _ h⟩
theorem Bt.high {a b : Nat} {x y : World} (h : Bt a b x y) {g : Nat} (hg : x.heap.size ≤ g) (j : Nat) (v : Value) : Bt a b x (y.setCell ⟨g, j, none⟩ v) :=
  ⟨h.os, h.tape, h.output, by simpa [World.setCell] using h.size, fun i h1 h2 h3 => (Below.heap_setCell _ _ _ _ (by show i ≠ g; omega)).trans (h.block i h1 h2 h3)⟩
theorem Bt.high5 {a b : Nat} {x y : World} (h : Bt a b x y) {g : Nat} (hg : x.heap.size ≤ g) (v0 v1 v2 v3 v4 : Value) : Bt a b x (((((y.setCell ⟨g, 0, none⟩ v0).setCell ⟨g, 1, none⟩ v1).setCell ⟨g, 2, none⟩ v2).setCell ⟨g, 3, none⟩ v3).setCell ⟨g, 4, none⟩ v4) :=
  ((((h.high hg 0 v0).high hg 1 v1).high hg 2 v2).high hg 3 v3).high hg 4 v4
theorem Bt.weak {a b : Nat} {x y : World} (h : Bt a a x y) : Bt a b x y := ⟨h.os, h.tape, h.output, h.size, fun i h1 h2 _ => h.block i h1 h2 h2⟩
theorem rdw_block {W W' : World} {g n c : Nat} {l : List Nat} (h : RdW W (.slice (some ⟨g, 0, none⟩) n c) l) (hb : W'.heap[g]? = W.heap[g]?) : RdW W' (.slice (some ⟨g, 0, none⟩) n c) l := by
  obtain ⟨A, cap, e, h1, h2, hr⟩ := h
  refine ⟨A, cap, e, h1, h2, fun hl => ?_⟩
  obtain ⟨b, o, e', hc⟩ := hr hl
  cases e
  cases e'
  exact ⟨g, 0, rfl, fun k hk => (World.cell?_of_block (a := ⟨g, 0 + k, none⟩) hb).trans (hc k hk)⟩
theorem high5_at {y : World} {g k : Nat} (hne : k ≠ g) (v0 v1 v2 v3 v4 : Value) : (((((y.setCell ⟨g, 0, none⟩ v0).setCell ⟨g, 1, none⟩ v1).setCell ⟨g, 2, none⟩ v2).setCell ⟨g, 3, none⟩ v3).setCell ⟨g, 4, none⟩ v4).heap[k]? = y.heap[k]? := by
  rw [Below.heap_setCell _ _ _ _ hne, Below.heap_setCell _ _ _ _ hne, Below.heap_setCell _ _ _ _ hne, Below.heap_setCell _ _ _ _ hne, Below.heap_setCell _ _ _ _ hne]
theorem d1_str : strN D1 = ⟨#[0, 0, 0, 0, 0, 0, 85, 84, 67, 0]⟩ := by decide +kernel
theorem d2_str : strN D2 = ⟨#[255, 255, 255, 251, 1, 255, 255, 185, 176, 0, 0, 255, 255, 199, 192, 1, 4, 69, 83, 84, 0, 69, 68, 84, 0, 0, 0, 0, 7, 0, 0, 0, 1]⟩ := by decide +kernel
theorem zone5 {W : World} {g n m q : Nat} {A B C : Option Addr} {a b c : Nat} {ft : ByteArray} {v : Int} (h : W.heap[g]? = some (.cells #[.slice A n a, .slice B m b, .slice C q c, .string ft, .int .i64 v] 26)) : W.cell? ⟨g, 0, none⟩ = some (.slice A n a) ∧ W.cell? ⟨g, 1, none⟩ = some (.slice B m b) ∧ W.cell? ⟨g, 2, none⟩ = some (.slice C q c) ∧ W.cell? ⟨g, 3, none⟩ = some (.string ft) ∧ W.cell? ⟨g, 4, none⟩ = some (.int .i64 v) :=
  ⟨row_cell h 0, row_cell h 1, row_cell h 2, row_cell h 3, row_cell h 4⟩
theorem al5 (W : World) (a b c d e : Obj) : (((((W.alloc a).alloc b).alloc c).alloc d).alloc e).heap[W.heap.size]? = some a ∧ (((((W.alloc a).alloc b).alloc c).alloc d).alloc e).heap[W.heap.size + 1]? = some b ∧ (((((W.alloc a).alloc b).alloc c).alloc d).alloc e).heap[W.heap.size + 1 + 1]? = some c ∧ (((((W.alloc a).alloc b).alloc c).alloc d).alloc e).heap[W.heap.size + 1 + 1 + 1]? = some d ∧ (((((W.alloc a).alloc b).alloc c).alloc d).alloc e).heap[W.heap.size + 1 + 1 + 1 + 1]? = some e ∧ Below W.heap.size W (((((W.alloc a).alloc b).alloc c).alloc d).alloc e) := by
  have e1 := hp_new1 W a b
  have e2 := hp_new (W.alloc a |>.alloc b) c
  have e3 := hp_new (W.alloc a |>.alloc b |>.alloc c) d
  have e4 := hp_new (W.alloc a |>.alloc b |>.alloc c |>.alloc d) e
  simp only [World.size_alloc] at e2 e3 e4
  exact ⟨hp_old (hp_old (hp_old (hp_old (hp_new W a) b) c) d) e, hp_old (hp_old (hp_old e1 c) d) e, hp_old (hp_old e2 d) e, hp_old e3 e, e4, bal (bal (bal (bal (bal (Below.refl _ _) a) b) c) d) e⟩
set_option maxHeartbeats 16000000 in
theorem small_at (w : World) (T : lines.ML w) : Calls Try.prog 4 #[] w fun e w' => e = .returned (.bool true) ∧ Below w.heap.size w w' := by
  have TM := Lib.hid (fun W (hb : Below w.heap.size w W) => T.below hb)
  clear T
  have R1 := Lib.hid (hp_old (hp_new w (.cells rZ 41)) (.cells #[.slice (some ⟨w.heap.size, 0, none⟩) 1 1, .slice none 0 0, .slice none 0 0, .string ⟨#[]⟩, .int .i64 2] 26))
  have B1 := Lib.hid (hp_new1 w (.cells rZ 41) (.cells #[.slice (some ⟨w.heap.size, 0, none⟩) 1 1, .slice none 0 0, .slice none 0 0, .string ⟨#[]⟩, .int .i64 2] 26))
  have A1 := Lib.hid (bal (bal (Below.refl w.heap.size w) (.cells rZ 41)) (.cells #[.slice (some ⟨w.heap.size, 0, none⟩) 1 1, .slice none 0 0, .slice none 0 0, .string ⟨#[]⟩, .int .i64 2] 26))
  go_enter Try.func4, Try.ntmps4
  go_wp2_with (first
    | (go_at_call 8; first
      | ((with_reducible refine (se1 _ _ R1.out).mono ?_); rintro e w2 ⟨Aa, ca, rfl, o2, b2⟩; have O2 := Lib.hid o2; have R2 := Lib.hid (kept R1.out b2); have B2 := Lib.hid (kept B1.out b2); have A2 := Lib.hid (btr A1.out b2); have K2 := Lib.hid b2; have x0 := row_cell B2.out 0; have x1 := row_cell B2.out 1; have x2 := row_cell B2.out 2; have x3 := row_cell B2.out 3; have x4 := row_cell B2.out 4; clear o2 b2)
      | ((with_reducible refine (se2 _ _ _ _ L5.out.2.1 L5.out.2.2.1 L5.out.2.2.2.1).mono ?_); rintro e w6 ⟨Af, cf, rfl, o6, b6⟩; have O6 := Lib.hid o6; have K6 := Lib.hid b6; have B8 := Lib.hid (kept L5.out.2.2.2.2.1 b6); have RY6 := Lib.hid (kept L5.out.2.1 b6); have RT6 := Lib.hid (kept L5.out.2.2.1 b6); have RL6 := Lib.hid (kept L5.out.2.2.2.1 b6); have x0 := row_cell B8.out 0; have x1 := row_cell B8.out 1; have x2 := row_cell B8.out 2; have x3 := row_cell B8.out 3; have x4 := row_cell B8.out 4; clear o6 b6)
      | ((with_reducible refine (se0 _).mono ?_); rintro e w9 ⟨Az, cz, rfl, b9⟩; have K9 := Lib.hid b9; clear b9))
    | (go_at_call 6; first
      | ((with_reducible refine (sc1 _ _ R2.out).mono ?_); rintro e w3 ⟨rfl, b3⟩; have K3 := Lib.hid b3; have A3 := Lib.hid (btr A2.out b3); have O3 := Lib.hid (own_kept O2.out b3); clear x0 x1 x2 x3 x4 b3)
      | ((with_reducible refine (sc2 _ _ _ _ RY6.out RT6.out RL6.out).mono ?_); rintro e w7 ⟨rfl, b7⟩; have K7 := Lib.hid b7; have O7 := Lib.hid (own_kept O6.out b7); have A7 := Lib.hid (btr (btr (btr A4.out L5.out.2.2.2.2.2) K6.out) b7); clear x0 x1 x2 x3 x4 b7))
    | (go_at_call 10; first
      | ((with_reducible refine (sd1 _ _ ((own_by O3.out).rd.below (bal (Below.refl _ _) _)) (TM.out _ (bal A3.out _))).mono ?_); rintro e w4 ⟨Ad, ad, Bd', bd', Cd, cd, rfl, zr4, b4⟩; have Z4 := Lib.hid zr4; have K4 := Lib.hid b4; have A4 := Lib.hid (btr (bal A3.out _) b4); have L5 := Lib.hid (al5 w4 (.cells #[.slice Ad 1 ad, .slice Bd' 0 bd', .slice Cd 0 cd, .string ⟨#[]⟩, .int .i64 2] 26) (.cells rY 41) (.cells #[.int .i64 (-5), .int .i64 1] 43) (.cells #[.int .i64 7, .int .i64 1] 45) (.cells #[.slice (some ⟨w4.heap.size + 1, 0, none⟩) 2 2, .slice (some ⟨w4.heap.size + 1 + 1, 0, none⟩) 1 1, .slice (some ⟨w4.heap.size + 1 + 1 + 1, 0, none⟩) 1 1, .string ⟨#[]⟩, .int .i64 4] 26)); clear zr4 b4)
      | ((with_reducible refine (sd2 _ _ ((own_by O7.out).rd.below (bal (Below.refl _ _) _)) (TM.out _ (bal A7.out _))).mono ?_); rintro e w8 ⟨Al, al, Bl, bl, Cl, cl, rfl, zr8, b8⟩; have Z8 := Lib.hid zr8; have K8 := Lib.hid b8; have A8 := Lib.hid (btr (bal A7.out _) b8); clear zr8 b8)))
  obtain ⟨ga, rfl, -, ga1, ga2⟩ := own_some O2.out (by unfold D1; simp)
  have H4 : Hid ((w3.alloc (.cells #[.int .i64 2, .int .i64 0, .int .i64 0, .int .i64 0, .int .i64 0, .int .i64 1, .int .i64 4] 28)).heap[w3.heap.size]? = some (.cells #[.int .i64 2, .int .i64 0, .int .i64 0, .int .i64 0, .int .i64 0, .int .i64 1, .int .i64 4] 28)) := Lib.hid (hp_new _ _)
  have q9 : Hid (w9.drew.heap[w3.heap.size]? = some (.cells #[.int .i64 2, .int .i64 0, .int .i64 0, .int .i64 0, .int .i64 0, .int .i64 1, .int .i64 4] 28)) := Lib.hid (kept H4.out (bel_drewN (btr (bal (btr (bal (btr (btr (btr K4.out L5.out.2.2.2.2.2) K6.out) K7.out) _) K8.out) _) K9.out) 1))
  have O9 : Hid (Own (((w.alloc (.cells rZ 41)).alloc (.cells #[.slice (some ⟨w.heap.size, 0, none⟩) 1 1, .slice none 0 0, .slice none 0 0, .string ⟨#[]⟩, .int .i64 2] 26)).heap.size) w9.drew (.slice (some ⟨ga, 0, none⟩) 10 ca) D1) := Lib.hid (own_kept O3.out (bel_drewN (btr (bal (btr (bal (btr (btr (btr (btr (bal (Below.refl _ _) _) K4.out) L5.out.2.2.2.2.2) K6.out) K7.out) _) K8.out) _) K9.out) 1))
  have hN1 := Lib.hid (Nat.le_of_lt (Nat.lt_of_le_of_lt ga1 (hp_lt q9.out |> fun h => Nat.lt_of_lt_of_le ga2 (Nat.le_trans K3.out.size (Nat.le_of_lt h)))))
  have A9 : Hid (Below w.heap.size w w9.drew) := Lib.hid (bel_drewN (btr (bal (btr (bal A7.out _) K8.out) _) K9.out) 1)
  have s0 := head7 q9.out
  have GA2 : Hid (w.heap.size + 2 ≤ ga ∧ ga < w2.heap.size) := Lib.hid ⟨by simp only [World.size_alloc] at ga1; omega, ga2⟩
  have GB : Hid (w.heap.size ≤ ga) := Lib.hid (Nat.le_trans A1.out.size ga1)
  generalize ((w.alloc (.cells rZ 41)).alloc (.cells #[.slice (some ⟨w.heap.size, 0, none⟩) 1 1, .slice none 0 0, .slice none 0 0, .string ⟨#[]⟩, .int .i64 2] 26)).heap.size = N1 at ga1 O9 hN1
  have hne : Hid (w3.heap.size ≠ ga) := Lib.hid (Nat.ne_of_gt (Nat.lt_of_lt_of_le ga2 K3.out.size))
  have A0 : Hid (Below w.heap.size w w9) := Lib.hid ⟨A9.out.os, A9.out.tape, A9.out.output, A9.out.size, A9.out.block⟩
  have q0 : Hid (w9.heap[w3.heap.size]? = some (.cells #[.int .i64 2, .int .i64 0, .int .i64 0, .int .i64 0, .int .i64 0, .int .i64 1, .int .i64 4] 28)) := Lib.hid q9.out
  have O0 : Hid (Own N1 w9 (.slice (some ⟨ga, 0, none⟩) 10 ca) D1) := Lib.hid O9.out
  have M0 : Hid (N1 ≤ w9.heap.size) := Lib.hid hN1.out
  have Y1 := Lib.hid (head7 (W := (w9.alloc (.cells #[.int .u8 0] 5)).drew) (kept q0.out (bel_drewN (bal (Below.refl w9.heap.size w9) (.cells #[.int .u8 0] 5)) 1)))
  have Y2 := Lib.hid (head7 (W := ((w9.alloc (.cells #[.slice none 0 0, .slice none 0 0, .slice none 0 0, .string ⟨#[]⟩, .int .i64 0] 26)).alloc (.cells #[.int .u8 0] 5)).drew) (kept q0.out (bel_drewN (bal (bal (Below.refl w9.heap.size w9) (.cells #[.slice none 0 0, .slice none 0 0, .slice none 0 0, .string ⟨#[]⟩, .int .i64 0] 26)) (.cells #[.int .u8 0] 5)) 1)))
  have Y3 := Lib.hid (head7 (W := ((w9.alloc (.cells #[.int .u8 0] 5)).alloc (.cells #[.slice none 0 0, .slice none 0 0, .slice none 0 0, .string ⟨#[]⟩, .int .i64 0] 26)).drew) (kept q0.out (bel_drewN (bal (bal (Below.refl w9.heap.size w9) (.cells #[.int .u8 0] 5)) (.cells #[.slice none 0 0, .slice none 0 0, .slice none 0 0, .string ⟨#[]⟩, .int .i64 0] 26)) 1)))
  have Y4 := Lib.hid (head7 (W := (w9.alloc (.cells #[.slice none 0 0, .slice none 0 0, .slice none 0 0, .string ⟨#[]⟩, .int .i64 0] 26)).drew) (kept q0.out (bel_drewN (bal (Below.refl w9.heap.size w9) (.cells #[.slice none 0 0, .slice none 0 0, .slice none 0 0, .string ⟨#[]⟩, .int .i64 0] 26)) 1)))
  have GA9 : Hid (ga < w9.heap.size) := Lib.hid (Nat.lt_trans (Nat.lt_of_lt_of_le ga2 K3.out.size) (hp_lt q0.out))
  have AP1 := Lib.hid (app_ex N1 ((w9.alloc (.cells #[.int .u8 0] 5)).drew) (.slice (some ⟨ga, 0, none⟩) 10 ca) w9.heap.size 0 1 1 D1 [0] (own_kept O0.out (bel_drewN (bal (Below.refl w9.heap.size w9) (.cells #[.int .u8 0] 5)) 1)) (rd_one w9 _ (bel_drewN (Below.refl _ _) 1)) (by simp) (by decide) (Nat.le_trans M0.out ((bel_drewN (bal (Below.refl w9.heap.size w9) (.cells #[.int .u8 0] 5)) 1)).size))
  have AP2 := Lib.hid (app_ex N1 (((w9.alloc (.cells #[.slice none 0 0, .slice none 0 0, .slice none 0 0, .string ⟨#[]⟩, .int .i64 0] 26)).alloc (.cells #[.int .u8 0] 5)).drew) (.slice (some ⟨ga, 0, none⟩) 10 ca) (w9.heap.size + 1) 0 1 1 D1 [0] (own_kept O0.out (bel_drewN (bal (bal (Below.refl w9.heap.size w9) (.cells #[.slice none 0 0, .slice none 0 0, .slice none 0 0, .string ⟨#[]⟩, .int .i64 0] 26)) (.cells #[.int .u8 0] 5)) 1)) (by have := rd_one (w9.alloc (.cells #[.slice none 0 0, .slice none 0 0, .slice none 0 0, .string ⟨#[]⟩, .int .i64 0] 26)) ((w9.alloc (.cells #[.slice none 0 0, .slice none 0 0, .slice none 0 0, .string ⟨#[]⟩, .int .i64 0] 26)).alloc (.cells #[.int .u8 0] 5)).drew (bel_drewN (Below.refl _ _) 1); rw [World.size_alloc] at this; exact this) (by simp) (by decide) (Nat.le_trans M0.out ((bel_drewN (bal (bal (Below.refl w9.heap.size w9) (.cells #[.slice none 0 0, .slice none 0 0, .slice none 0 0, .string ⟨#[]⟩, .int .i64 0] 26)) (.cells #[.int .u8 0] 5)) 1)).size))
  have AP3 := Lib.hid (app_ex N1 (((w9.alloc (.cells #[.int .u8 0] 5)).alloc (.cells #[.slice none 0 0, .slice none 0 0, .slice none 0 0, .string ⟨#[]⟩, .int .i64 0] 26)).drew) (.slice (some ⟨ga, 0, none⟩) 10 ca) w9.heap.size 0 1 1 D1 [0] (own_kept O0.out (bel_drewN (bal (bal (Below.refl w9.heap.size w9) (.cells #[.int .u8 0] 5)) (.cells #[.slice none 0 0, .slice none 0 0, .slice none 0 0, .string ⟨#[]⟩, .int .i64 0] 26)) 1)) (rd_one w9 _ (bel_drewN (bal (Below.refl _ _) _) 1)) (by simp) (by decide) (Nat.le_trans M0.out ((bel_drewN (bal (bal (Below.refl w9.heap.size w9) (.cells #[.int .u8 0] 5)) (.cells #[.slice none 0 0, .slice none 0 0, .slice none 0 0, .string ⟨#[]⟩, .int .i64 0] 26)) 1)).size))
  have X8 := Lib.hid (bel_drewN (btr (bal (Below.refl w8.heap.size w8) (.cells #[.slice Al 2 al, .slice Bl 1 bl, .slice Cl 1 cl, .string ⟨#[]⟩, .int .i64 4] 26)) K9.out) 1)
  have X5 := Lib.hid (btr (bal (btr K6.out K7.out) (.cells #[.int .i64 4, .int .i64 0, .int .i64 0, .int .i64 1, .int .i64 1, .int .i64 2, .int .i64 8] 28)) K8.out)
  have X58 := Lib.hid (btr X5.out X8.out)
  have X4 := Lib.hid (btr L5.out.2.2.2.2.2 X58.out)
  have X2 := Lib.hid (btr (btr (bal K3.out (.cells #[.int .i64 2, .int .i64 0, .int .i64 0, .int .i64 0, .int .i64 0, .int .i64 1, .int .i64 4] 28)) K4.out) X4.out)
  have PK := Lib.hid (And.intro (show w9.drew.heap[w.heap.size]? = some (.cells rZ 41) from kept R2.out X2.out) (And.intro (show w9.drew.heap[w.heap.size + 1]? = some (.cells #[.slice (some ⟨w.heap.size, 0, none⟩) 1 1, .slice none 0 0, .slice none 0 0, .string ⟨#[]⟩, .int .i64 2] 26) from kept B2.out X2.out) (And.intro (show w9.drew.heap[w4.heap.size]? = some (.cells #[.slice Ad 1 ad, .slice Bd' 0 bd', .slice Cd 0 cd, .string ⟨#[]⟩, .int .i64 2] 26) from kept L5.out.1 X58.out) (And.intro (show w9.drew.heap[w4.heap.size + 1]? = some (.cells rY 41) from kept L5.out.2.1 X58.out) (And.intro (show w9.drew.heap[w4.heap.size + 1 + 1]? = some (.cells #[.int .i64 (-5), .int .i64 1] 43) from kept L5.out.2.2.1 X58.out) (And.intro (show w9.drew.heap[w4.heap.size + 1 + 1 + 1]? = some (.cells #[.int .i64 7, .int .i64 1] 45) from kept L5.out.2.2.2.1 X58.out) (And.intro (show w9.drew.heap[w4.heap.size + 1 + 1 + 1 + 1]? = some (.cells #[.slice (some ⟨w4.heap.size + 1, 0, none⟩) 2 2, .slice (some ⟨w4.heap.size + 1 + 1, 0, none⟩) 1 1, .slice (some ⟨w4.heap.size + 1 + 1 + 1, 0, none⟩) 1 1, .string ⟨#[]⟩, .int .i64 4] 26) from kept L5.out.2.2.2.2.1 X58.out) (And.intro (show w9.drew.heap[w8.heap.size]? = some (.cells #[.slice Al 2 al, .slice Bl 1 bl, .slice Cl 1 cl, .string ⟨#[]⟩, .int .i64 4] 26) from kept (hp_new w8 _) (bel_drewN K9.out 1)) (And.intro (Zr.below Z4.out.1 X4.out) (And.intro (Zr.below Z8.out.1 X8.out) (own_kept O7.out (btr (btr (bal (Below.refl _ _) (.cells #[.int .i64 4, .int .i64 0, .int .i64 0, .int .i64 1, .int .i64 1, .int .i64 2, .int .i64 8] 28)) K8.out) X8.out))))))))))))
  have PZ := Lib.hid (And.intro Z4.out.2 Z8.out.2)
  have PX := Lib.hid (And.intro Z4.out.1 X4.out)
  have PS : Hid (w.heap.size + 2 ≤ w2.heap.size ∧ w2.heap.size ≤ w3.heap.size ∧ w3.heap.size + 1 ≤ w4.heap.size ∧ w4.heap.size + 5 ≤ w6.heap.size ∧ w6.heap.size ≤ w7.heap.size ∧ w7.heap.size + 1 ≤ w8.heap.size ∧ w8.heap.size + 1 ≤ w9.heap.size) := Lib.hid (by
    have h2 := K2.out.size
    have h3 := K3.out.size
    have h4 := K4.out.size
    have h6 := K6.out.size
    have h7 := K7.out.size
    have h8 := K8.out.size
    have h9 := K9.out.size
    simp only [World.size_alloc] at h2 h4 h6 h8 h9
    omega)
  clear X2 X4 X5 X58 X8 L5 K2 K3 K4 K6 K7 K8 K9 A1 A2 A3 A4 A7 A8 R1 R2 B1 B2 B8 O2 O3 O6 O7 RY6 RT6 RL6 Z4 Z8 H4
  go_region_held3 (fun w' => w'.cell? ⟨w3.heap.size, 0, none⟩ = some (.int .i64 2) ∧ w'.cell? ⟨w3.heap.size, 1, none⟩ = some (.int .i64 0) ∧ w'.cell? ⟨w3.heap.size, 2, none⟩ = some (.int .i64 0) ∧ w'.cell? ⟨w3.heap.size, 3, none⟩ = some (.int .i64 0) ∧ w'.cell? ⟨w3.heap.size, 4, none⟩ = some (.int .i64 0) ∧ w'.cell? ⟨w3.heap.size, 5, none⟩ = some (.int .i64 1) ∧ w'.cell? ⟨w3.heap.size, 6, none⟩ = some (.int .i64 4))
    (first | with_reducible exact s0 | with_reducible exact Y1.out | with_reducible exact Y2.out | with_reducible exact Y3.out | with_reducible exact Y4.out | with_reducible exact head7 q10.out | with_reducible exact head7 (hp_old q10.out _) | with_reducible exact head7 q11.out | with_reducible exact head7 (hp_old q11.out _) | with_reducible exact head7 (sc5 q11.out HZB.out _ _ _ _ _) | with_reducible exact head7 (sr5 q11.out HZB.out _))
    (first
    | ((with_reducible refine step_any (W := (w9.alloc (.cells #[.int .u8 0] 5)).drew) ?_ (.tmp 71) (.tmp 72) 29 ?_ (.slice (some ⟨ga, 0, none⟩) 10 ca) (.slice (some ⟨w9.heap.size, 0, none⟩) 1 1) ?_ ?_ _ AP1.out ?_); (next => exact rfl); (next => exact rfl); (next => exact rfl); (next => exact rfl); rintro v10 w10 ⟨o10, g10, old10⟩; have B10 : Hid (Bt ga ga w9 w10) := Lib.hid ((Bt.of (bel_drewN (bal (Below.refl w9.heap.size w9) (.cells #[.int .u8 0] 5)) 1)).trans (Bt.grown g10 (fun k e => by cases e; rfl))); have R10 := Lib.hid (own_by o10).rd; have OD10 := Lib.hid old10; have q10 := Lib.hid (B10.out.heap q0.out hne.out hne.out); clear g10 o10 old10)
    | ((with_reducible refine step_any (W := ((w9.alloc (.cells #[.slice none 0 0, .slice none 0 0, .slice none 0 0, .string ⟨#[]⟩, .int .i64 0] 26)).alloc (.cells #[.int .u8 0] 5)).drew) ?_ (.tmp 71) (.tmp 72) 29 ?_ (.slice (some ⟨ga, 0, none⟩) 10 ca) (.slice (some ⟨w9.heap.size + 1, 0, none⟩) 1 1) ?_ ?_ _ AP2.out ?_); (next => exact rfl); (next => exact rfl); (next => exact rfl); (next => exact rfl); rintro v10 w10 ⟨o10, g10, old10⟩; have ZNE := Lib.hid (Nat.ne_of_lt (hp_lt q0.out)); have ZF := Lib.hid (grown_at (kept (hp_new w9 (.cells #[.slice none 0 0, .slice none 0 0, .slice none 0 0, .string ⟨#[]⟩, .int .i64 0] 26)) (bel_drewN (bal (Below.refl _ _) (.cells #[.int .u8 0] 5)) 1)) (Nat.ne_of_gt GA9.out) g10); have B10 : Hid (Bt ga ga w9 w10) := Lib.hid ((Bt.of (bel_drewN (bal (bal (Below.refl w9.heap.size w9) (.cells #[.slice none 0 0, .slice none 0 0, .slice none 0 0, .string ⟨#[]⟩, .int .i64 0] 26)) (.cells #[.int .u8 0] 5)) 1)).trans (Bt.grown g10 (fun k e => by cases e; rfl))); have R10 := Lib.hid (own_by o10).rd; have OD10 := Lib.hid old10; have q10 := Lib.hid (B10.out.heap q0.out hne.out hne.out); clear g10 o10 old10)
    | ((with_reducible refine step_any (W := ((w9.alloc (.cells #[.int .u8 0] 5)).alloc (.cells #[.slice none 0 0, .slice none 0 0, .slice none 0 0, .string ⟨#[]⟩, .int .i64 0] 26)).drew) ?_ (.tmp 71) (.tmp 72) 29 ?_ (.slice (some ⟨ga, 0, none⟩) 10 ca) (.slice (some ⟨w9.heap.size, 0, none⟩) 1 1) ?_ ?_ _ AP3.out ?_); (next => exact rfl); (next => exact rfl); (next => exact rfl); (next => exact rfl); rintro v10 w10 ⟨o10, g10, old10⟩; have ZNE := Lib.hid (Nat.ne_of_lt (Nat.lt_succ_of_lt (hp_lt q0.out))); have ZF := Lib.hid (grown_at (kept (hp_new1 w9 (.cells #[.int .u8 0] 5) (.cells #[.slice none 0 0, .slice none 0 0, .slice none 0 0, .string ⟨#[]⟩, .int .i64 0] 26)) (bel_drewN (Below.refl _ _) 1)) (Nat.ne_of_gt (Nat.lt_succ_of_lt GA9.out)) g10); have B10 : Hid (Bt ga ga w9 w10) := Lib.hid ((Bt.of (bel_drewN (bal (bal (Below.refl w9.heap.size w9) (.cells #[.int .u8 0] 5)) (.cells #[.slice none 0 0, .slice none 0 0, .slice none 0 0, .string ⟨#[]⟩, .int .i64 0] 26)) 1)).trans (Bt.grown g10 (fun k e => by cases e; rfl))); have R10 := Lib.hid (own_by o10).rd; have OD10 := Lib.hid old10; have q10 := Lib.hid (B10.out.heap q0.out hne.out hne.out); clear g10 o10 old10)
    | (go_at_call 10; first
      | ((with_reducible refine (sd3 w10 _ R10.out (TM.out _ (B10.out.below A0.out GB.out GB.out A0.out.size))).mono ?_); rintro e w11 ⟨Ax, ax, Bx, bx, Cx, cx, rfl, b11⟩; have B11 := Lib.hid (B10.out.trans (Bt.of b11)); have OD11 := Lib.hid (OD10.out.below b11); have q11 := Lib.hid (B11.out.heap q0.out hne.out hne.out); (try (have ZC := z_cells (kept ZF.out b11))); (try (have HZB := Lib.hid ZNE.out)); clear b11; (try (obtain ⟨⟨z0, z1, z2, z3, z4⟩, zf⟩ := ZC; have f0 := zf 0; have f1 := zf 1; have f2 := zf 2; have f3 := zf 3; have f4 := zf 4; clear zf)))
      | ((with_reducible refine (sd3 (w10.alloc (.cells #[.slice none 0 0, .slice none 0 0, .slice none 0 0, .string ⟨#[]⟩, .int .i64 0] 26)) _ (R10.out.below (bal (Below.refl _ _) _)) (TM.out _ (bal (B10.out.below A0.out GB.out GB.out A0.out.size) _))).mono ?_); rintro e w11 ⟨Ax, ax, Bx, bx, Cx, cx, rfl, b11⟩; have B11 := Lib.hid (B10.out.trans (Bt.of (btr (bal (Below.refl _ _) _) b11))); have OD11 := Lib.hid (OD10.out.below (btr (bal (Below.refl _ _) _) b11)); have q11 := Lib.hid (B11.out.heap q0.out hne.out hne.out); have ZC := z_cells (kept (hp_new w10 (.cells #[.slice none 0 0, .slice none 0 0, .slice none 0 0, .string ⟨#[]⟩, .int .i64 0] 26)) b11); have HZB := Lib.hid (Nat.ne_of_lt (hp_lt q10.out)); clear b11; obtain ⟨⟨z0, z1, z2, z3, z4⟩, zf⟩ := ZC; have f0 := zf 0; have f1 := zf 1; have f2 := zf 2; have f3 := zf 3; have f4 := zf 4; clear zf)))
  have FB := Lib.hid (B11.out.trans (Bt.of (bal (Below.refl _ _) (.cells #[.slice Ax 0 ax, .slice Bx 0 bx, .slice Cx 0 cx, .string ⟨#[]⟩, .int .i64 0] 26))))
  have FR := Lib.hid (OD11.out.rd.below (bal (Below.refl _ _) (.cells #[.slice Ax 0 ax, .slice Bx 0 bx, .slice Cx 0 cx, .string ⟨#[]⟩, .int .i64 0] 26)))
  generalize w11.alloc (.cells #[.slice Ax 0 ax, .slice Bx 0 bx, .slice Cx 0 cx, .string ⟨#[]⟩, .int .i64 0] 26) = Wf at *
  rotate_left
  have FB := Lib.hid (B11.out.high5 B10.out.size (.slice Ax 0 ax) (.slice Bx 0 bx) (.slice Cx 0 cx) (.string ⟨#[]⟩) (.int .i64 0))
  have FR := Lib.hid (rdw_block OD11.out.rd (high5_at (Nat.ne_of_lt (Nat.lt_of_lt_of_le GA9.out B10.out.size)) (.slice Ax 0 ax) (.slice Bx 0 bx) (.slice Cx 0 cx) (.string ⟨#[]⟩) (.int .i64 0)))
  generalize (((((w11.setCell ⟨w10.heap.size, 0, none⟩ (.slice Ax 0 ax)).setCell ⟨w10.heap.size, 1, none⟩ (.slice Bx 0 bx)).setCell ⟨w10.heap.size, 2, none⟩ (.slice Cx 0 cx)).setCell ⟨w10.heap.size, 3, none⟩ (.string ⟨#[]⟩)).setCell ⟨w10.heap.size, 4, none⟩ (.int .i64 0)) = Wf at *
  rotate_left
  have FB := Lib.hid (B11.out.high5 (Nat.le_succ _) (.slice Ax 0 ax) (.slice Bx 0 bx) (.slice Cx 0 cx) (.string ⟨#[]⟩) (.int .i64 0))
  have FR := Lib.hid (rdw_block OD11.out.rd (high5_at (Nat.ne_of_lt (Nat.lt_succ_of_lt GA9.out)) (.slice Ax 0 ax) (.slice Bx 0 bx) (.slice Cx 0 cx) (.string ⟨#[]⟩) (.int .i64 0)))
  generalize (((((w11.setCell ⟨w9.heap.size + 1, 0, none⟩ (.slice Ax 0 ax)).setCell ⟨w9.heap.size + 1, 1, none⟩ (.slice Bx 0 bx)).setCell ⟨w9.heap.size + 1, 2, none⟩ (.slice Cx 0 cx)).setCell ⟨w9.heap.size + 1, 3, none⟩ (.string ⟨#[]⟩)).setCell ⟨w9.heap.size + 1, 4, none⟩ (.int .i64 0)) = Wf at *
  rotate_left
  have FB := Lib.hid (B11.out.high5 (Nat.le_refl _) (.slice Ax 0 ax) (.slice Bx 0 bx) (.slice Cx 0 cx) (.string ⟨#[]⟩) (.int .i64 0))
  have FR := Lib.hid (rdw_block OD11.out.rd (high5_at (Nat.ne_of_lt GA9.out) (.slice Ax 0 ax) (.slice Bx 0 bx) (.slice Cx 0 cx) (.string ⟨#[]⟩) (.int .i64 0)))
  generalize (((((w11.setCell ⟨w9.heap.size, 0, none⟩ (.slice Ax 0 ax)).setCell ⟨w9.heap.size, 1, none⟩ (.slice Bx 0 bx)).setCell ⟨w9.heap.size, 2, none⟩ (.slice Cx 0 cx)).setCell ⟨w9.heap.size, 3, none⟩ (.string ⟨#[]⟩)).setCell ⟨w9.heap.size, 4, none⟩ (.int .i64 0)) = Wf at *
  rotate_left
  all_goals
    clear B10 B11 q10 q11 OD10 OD11 R10 Y1 Y2 Y3 Y4 AP1 AP2 AP3 O9 O0 M0 hN1 s0 q9 GA9
  all_goals
    obtain ⟨p1, p2, p3, p4, p5, p6, p7, p8, p9, p10, p11⟩ := PK.out
    obtain ⟨m1, m2, m3, m4, m5, m6, m7⟩ := PS.out
    obtain ⟨m8, m9⟩ := GA2.out
    have FW := Lib.hid (FB.out.weak (b := w4.heap.size + 1 + 1))
    have RT := FB.out.heap (x := w9) p5 (by omega) (by omega)
    have RYf := Lib.hid (cs1 (FB.out.heap (x := w9) p4 (by omega) (by omega)) (by omega : w4.heap.size + 1 ≠ w4.heap.size + 1 + 1) 0 (.int .i64 2147483648))
    have RLf := Lib.hid (cs1 (FB.out.heap (x := w9) p6 (by omega) (by omega)) (by omega : w4.heap.size + 1 + 1 + 1 ≠ w4.heap.size + 1 + 1) 0 (.int .i64 2147483648))
    have RTf : Hid ((Wf.setCell ⟨w4.heap.size + 1 + 1, 0, none⟩ (.int .i64 2147483648)).heap[w4.heap.size + 1 + 1]? = some (.cells #[.int .i64 2147483648, .int .i64 1] 43)) := Lib.hid (heap_setCell_same Wf (w4.heap.size + 1 + 1) 0 _ _ _ RT)
    have B8 := FB.out.heap (x := w9) p7 (by omega) (by omega)
    obtain ⟨y0, y1, y2, y3, y4⟩ := zone5 B8
    obtain ⟨y0', y1', y2', y3', y4'⟩ := zone5 (cs1 B8 (by omega : w4.heap.size + 1 + 1 + 1 + 1 ≠ w4.heap.size + 1 + 1) 0 (.int .i64 2147483648))
    have t0 := row_cell RT 0
    have tf := fz RT 0
    have AW := Lib.hid (FW.out.below A0.out (by omega : w.heap.size ≤ ga) (by omega : w.heap.size ≤ w4.heap.size + 1 + 1) A0.out.size)
    have FIN : Hid (∀ w13, Below (Wf.setCell ⟨w4.heap.size + 1 + 1, 0, none⟩ (.int .i64 2147483648)).heap.size (Wf.setCell ⟨w4.heap.size + 1 + 1, 0, none⟩ (.int .i64 2147483648)) w13 → w13.heap[w4.heap.size + 1 + 1]? = some (.cells #[.int .i64 2147483648, .int .i64 1] 43) ∧ w13.heap[w4.heap.size + 1 + 1 + 1 + 1]? = some (.cells #[.slice (some ⟨w4.heap.size + 1, 0, none⟩) 2 2, .slice (some ⟨w4.heap.size + 1 + 1, 0, none⟩) 1 1, .slice (some ⟨w4.heap.size + 1 + 1 + 1, 0, none⟩) 1 1, .string ⟨#[]⟩, .int .i64 4] 26) ∧ Bt ga (w4.heap.size + 1 + 1) w9 (w13.setCell ⟨w4.heap.size + 1 + 1, 0, none⟩ (.int .i64 (-5))) ∧ RdW (w13.setCell ⟨w4.heap.size + 1 + 1, 0, none⟩ (.int .i64 (-5))) (.slice (some ⟨ga, 0, none⟩) 10 ca) D1 ∧ (w13.setCell ⟨w4.heap.size + 1 + 1, 0, none⟩ (.int .i64 (-5))).heap[w4.heap.size + 1 + 1]? = some (.cells #[.int .i64 (-5), .int .i64 1] 43)) := Lib.hid fun w13 hb => by
      have h1 := kept RTf.out hb
      have hga : ga ≠ w4.heap.size + 1 + 1 := by omega
      refine ⟨h1, kept (cs1 B8 (by omega) 0 _) hb, ((FW.out.set 0 _).trans (Bt.of hb)).set 0 _, ?_, heap_setCell_same w13 (w4.heap.size + 1 + 1) 0 _ _ _ h1⟩
      refine rdw_block (W := w13) ((rdw_block (W := Wf) (W' := (Wf.setCell ⟨w4.heap.size + 1 + 1, 0, none⟩ (.int .i64 2147483648))) FR.out (Below.heap_setCell _ _ _ _ hga)).below hb) (Below.heap_setCell _ _ _ _ hga)
    have CL : Hid (∀ W, Bt ga (w4.heap.size + 1 + 1) w9 W → RdW W (.slice (some ⟨ga, 0, none⟩) 10 ca) D1 → W.heap[w4.heap.size + 1 + 1]? = some (.cells #[.int .i64 (-5), .int .i64 1] 43) → W.heap[w3.heap.size]? = some (.cells #[.int .i64 2, .int .i64 0, .int .i64 0, .int .i64 0, .int .i64 0, .int .i64 1, .int .i64 4] 28) ∧ W.heap[w4.heap.size]? = some (.cells #[.slice Ad 1 ad, .slice Bd' 0 bd', .slice Cd 0 cd, .string ⟨#[]⟩, .int .i64 2] 26) ∧ W.heap[w.heap.size + 1]? = some (.cells #[.slice (some ⟨w.heap.size, 0, none⟩) 1 1, .slice none 0 0, .slice none 0 0, .string ⟨#[]⟩, .int .i64 2] 26) ∧ W.heap[w8.heap.size]? = some (.cells #[.slice Al 2 al, .slice Bl 1 bl, .slice Cl 1 cl, .string ⟨#[]⟩, .int .i64 4] 26) ∧ W.heap[w4.heap.size + 1 + 1 + 1 + 1]? = some (.cells #[.slice (some ⟨w4.heap.size + 1, 0, none⟩) 2 2, .slice (some ⟨w4.heap.size + 1 + 1, 0, none⟩) 1 1, .slice (some ⟨w4.heap.size + 1 + 1 + 1, 0, none⟩) 1 1, .string ⟨#[]⟩, .int .i64 4] 26) ∧ (Zr W Ad Bd' Cd Z1 ∧ Zr W (some ⟨w.heap.size, 0, none⟩) none none Z1) ∧ (Zr W Al Bl Cl (YY (-5)) ∧ Zr W (some ⟨w4.heap.size + 1, 0, none⟩) (some ⟨w4.heap.size + 1 + 1, 0, none⟩) (some ⟨w4.heap.size + 1 + 1 + 1, 0, none⟩) (YY (-5))) ∧ RdW W (.slice Af 33 cf) D2) := Lib.hid fun W hb hr ht => by
      obtain ⟨z4, x4⟩ := PX.out
      obtain ⟨⟨g1, g2, g3⟩, g4, g5, g6⟩ := PZ.out
      have hb4 := (Bt.of (a := ga) (b := w4.heap.size + 1 + 1) x4).trans (show Bt ga (w4.heap.size + 1 + 1) w9.drew W from ⟨hb.os, hb.tape, hb.output, hb.size, hb.block⟩)
      simp only [World.size_alloc] at g1 g2 g3 g4 g5 g6
      refine ⟨hb.heap q0.out (by omega) (by omega), hb.heap (x := w9) p3 (by omega) (by omega), hb.heap (x := w9) p2 (by omega) (by omega), hb.heap (x := w9) p8 (by omega) (by omega), hb.heap (x := w9) p7 (by omega) (by omega), ⟨hb4.zr z4 (w3.heap.size + 1) g1 g2 g3 (by omega) (fun k h1 h2 => by omega), zr_z (hb.heap (x := w9) p1 (by omega) (by omega))⟩, ⟨hb.zr (x := w9) (show Zr w9 Al Bl Cl (YY (-5)) from ⟨p10.ty, p10.tr, p10.lp⟩) (w7.heap.size + 1) g4 g5 g6 (by omega) (fun k h1 h2 => by omega), zr_y (hb.heap (x := w9) p4 (by omega) (by omega)) ht (hb.heap (x := w9) p6 (by omega) (by omega))⟩, ?_⟩
      have q := own_by p11
      refine (By.imp (Q := fun _ => True) q (fun _ _ => trivial) fun b o x hp hx => ?_).rd
      obtain ⟨h1, h2⟩ := hp
      simp only [World.size_alloc] at h1
      rw [hb.cell (x := w9) (k := b) (o := o) h2 (by omega) (by omega)]
      exact hx
    have SA1 : Hid (∀ W, Zr W Ad Bd' Cd Z1 → Zr W (some ⟨w.heap.size, 0, none⟩) none none Z1 → Calls Try.prog 12 #[.agg #[.slice Ad 1 ad, .slice Bd' 0 bd', .slice Cd 0 cd, .string ⟨#[]⟩, .int .i64 2], .agg #[.slice (some ⟨w.heap.size, 0, none⟩) 1 1, .slice none 0 0, .slice none 0 0, .string ⟨#[]⟩, .int .i64 2]] W fun e w' => e = .returned (.bool true) ∧ Below W.heap.size W w') := Lib.hid fun W h g => same_at Ad ad Bd' bd' Cd cd (some ⟨w.heap.size, 0, none⟩) 1 none 0 none 0 Z1 W h g (by decide)
    have SA2 : Hid (∀ W, Zr W Al Bl Cl (YY (-5)) → Zr W (some ⟨w4.heap.size + 1, 0, none⟩) (some ⟨w4.heap.size + 1 + 1, 0, none⟩) (some ⟨w4.heap.size + 1 + 1 + 1, 0, none⟩) (YY (-5)) → Calls Try.prog 12 #[.agg #[.slice Al 2 al, .slice Bl 1 bl, .slice Cl 1 cl, .string ⟨#[]⟩, .int .i64 4], .agg #[.slice (some ⟨w4.heap.size + 1, 0, none⟩) 2 2, .slice (some ⟨w4.heap.size + 1 + 1, 0, none⟩) 1 1, .slice (some ⟨w4.heap.size + 1 + 1 + 1, 0, none⟩) 1 1, .string ⟨#[]⟩, .int .i64 4]] W fun e w' => e = .returned (.bool true) ∧ Below W.heap.size W w') := Lib.hid fun W h g => same_at Al al Bl bl Cl cl (some ⟨w4.heap.size + 1, 0, none⟩) 2 (some ⟨w4.heap.size + 1 + 1, 0, none⟩) 1 (some ⟨w4.heap.size + 1 + 1 + 1, 0, none⟩) 1 (YY (-5)) W h g (by decide)
    have EQ : ∀ W, (Op.equalIn 10000 28 (.agg #[.int .i64 2, .int .i64 0, .int .i64 0, .int .i64 0, .int .i64 0, .int .i64 1, .int .i64 4]) (.agg #[.int .i64 2, .int .i64 0, .int .i64 0, .int .i64 0, .int .i64 0, .int .i64 1, .int .i64 4])).run Try.prog W = .ok true W := fun W => by have := head.eqH H1 H1 W; rw [head.hdb_self] at this; exact this
    have BE : Hid (∀ W, Bt ga (w4.heap.size + 1 + 1) w9 W → Below w.heap.size w W) := Lib.hid fun W hb => hb.below A0.out (by omega) (by omega) A0.out.size
    clear p1 p2 p3 p4 p5 p6 p7 p8 p9 p10 p11 m1 m2 m3 m4 m5 m6 m7 m8 m9 RT B8 PK PS PZ PX FB FR FW AW q0 A0 GA2 GB hne
    go_wp2_with (first
      | (go_at_call 8; (with_reducible refine (se3 _ _ _ _ RYf.out RTf.out RLf.out).mono ?_); rintro e w13 ⟨Aq, cq, rfl, b13⟩; obtain ⟨g1, g2, g3, g4, g5⟩ := FIN.out _ b13; clear y0 y1 y2 y3 y4 y0' y1' y2' y3' y4' t0 tf b13; have y1 := (zone5 g2).2.1; have t0 := row_cell g1 0; have tf := fz g1 0; obtain ⟨c1, c2, c3, c4, c5, c6, c7, c8⟩ := CL.out _ g3 g4 g5; have cv := (str_of g4); rw [d1_str] at cv; obtain ⟨h0, h1, h2, h3, h4, h5, h6⟩ := head7 c1; obtain ⟨u0, u1, u2, u3, u4⟩ := zone5 c2; obtain ⟨v0, v1, v2, v3, v4⟩ := zone5 c3; have G3 := Lib.hid g3; have G4 := Lib.hid g4; have G5 := Lib.hid g5; have C6 := Lib.hid c6; clear g1 g2 g3 g4 g5 c1 c2 c3 c4 c5 c6 c7 c8)
      | (go_at_call 12; (with_reducible refine (SA1.out _ C6.out.1 C6.out.2).mono ?_); rintro e w15 ⟨rfl, b15⟩; have G6 := Lib.hid (G3.out.trans (Bt.of b15)); obtain ⟨c1, c2, c3, c4, c5, c6, c7, c8⟩ := CL.out _ G6.out (G4.out.below b15) (kept G5.out b15); clear y1 t0 tf cv h0 h1 h2 h3 h4 h5 h6 u0 u1 u2 u3 u4 v0 v1 v2 v3 v4 b15; have cv := str_of c8; rw [d2_str] at cv; obtain ⟨u0, u1, u2, u3, u4⟩ := zone5 c4; obtain ⟨v0, v1, v2, v3, v4⟩ := zone5 c5; have C7 := Lib.hid c7; clear c1 c2 c3 c4 c5 c6 c7 c8)
      | (go_at_call 12; (with_reducible refine (SA2.out _ C7.out.1 C7.out.2).mono ?_); rintro e w16 ⟨rfl, b16⟩; have HE := Lib.hid (btr (BE.out _ G6.out) b16); clear b16))
    go_ret
    exact ⟨rfl, HE.out⟩
end Go.Proofs.Ytllficloadncfaa.blk
