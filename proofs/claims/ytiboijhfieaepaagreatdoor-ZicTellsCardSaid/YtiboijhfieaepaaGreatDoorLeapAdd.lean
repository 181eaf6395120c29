/-
  What leap's Add answers. Conditions: the tables of package day hold what their initialisers lay; the slice reads as the row.
-/
import Derived.Test.YtiboijhfieaepaaGreatDoorLeapRows
import Derived.Deep.RegionLaw
import Derived.BigRegion
namespace Go.Proofs.YtiboijhfieaepaaGreatDoor.leap
open Go.ChangeShapes Go.WideShapes Go.ChangeAt Go.RowKit
open lm mem
set_option linter.unusedVariables false
set_option maxRecDepth 100000

/-- a region that draws its order, all of whose operations but the last ones only read: in the text's order. -/
theorem tail_region {P : Program} {id : Nat} {Q : Exit → Act → World → Prop} {a : Act} {w : World} {l : List Oper} (n : Nat) (hm : P.follows .mixedOrders = true) (hB : Region.lexTailB .any l.toArray n = true)
    (h : wpStill P l.toArray w.drew (fun a' => wpList P l.toArray Q (l.drop n) a' w.drew) (l.take n) a) : (Code.region id l.toArray true).wp P Q a w := wp_region_still_tail n hm hB h
set_option maxRecDepth 100000 in
theorem cutM (A : Option Addr) (n c f : Nat) (h : f ≤ c) (W : World) : (Instr.slice 22 (.slice A n c) none (some (.int .i64 (f : Nat))) (some (.int .i64 (f : Nat)))).run Tryz.prog W = .ok (.slice A f f) W := by
  rw [run_slice_hm (P := Tryz.prog) W 22 A n c Tryz.underlying22 .i64 .i64 f f (by omega) (by omega) (by omega)]
  rw [show (Go.sizeOf (Tryz.prog.elem 22)).run Tryz.prog W = .ok 3 W by kernel_rfl]
  simp only [Result.andThen, sliced, Int.toNat_natCast, Nat.sub_zero, Nat.zero_mul]
  cases A with
  | none => simp
  | some a => simp [Addr.add]
/-- an 'append' at a step of a region that draws its order. -/
theorem step_app {P : Program} {ops : Array Oper} {o : Oper} {a : Act} {W : World} {K : Act → World → Prop} {Q : Exit → Act → World → Prop} {E : Prop} (hgd : o.guard = none) (s x : Operand) (t : TypeId)
    (ho : o.op = .call { callee := .builtin .append, args := #[s, x], argTypes := #[t, t] }) (va vx v : Value) (W' : World) (hs : a.eval s = va) (hx : a.eval x = vx)
    (run : (Builtin.append_ #[t, t] o.type #[va, vx]).run P W = .ok v W') (h : K (a.put o.dst v) W') :
    if Region.wanted o (yielded ops a.tmps) = true then Oper.wp P o a W K Q else E := by
  have hw : Region.wanted o (yielded ops a.tmps) = true := by simp [Region.wanted, hgd]
  rw [if_pos hw]
  unfold Oper.wp execOp
  simp only [ho, resolve, invoke, builtin, Sem.run_bind, Sem.run_pure, Result.andThen_ok, List.map_toArray, List.map_cons, List.map_nil, hs, hx, run]
  exact h
/-- 'return t, e', t a struct in the result's row. -/
theorem end_pair {fn : Func} {R : Ending → World → Prop} {p q : Tmp} {ty : TypeId} (hr : fn.results = #[.cell p ty, .tmp q]) (a : Act) (w : World) (g : Nat) (t : TypeId) (c : Array Value) (fs : Array Field) (v : Value)
    (hp : a.tmps.getD p undef = .pointer (some ⟨g, 0, none⟩)) (hq : a.tmps.getD q undef = v) (hg : w.heap[g]? = some (.cells c t (0, 0))) (hu : Tryz.prog.underlying ty = some (.struct fs))
    (hi : (Tryz.prog.info? ty).map (·.size) = some c.size) (hdf : a.defers = []) (h : R (.returned (.tuple #[.agg c, v])) w) : bodyPost Tryz.prog fn R .ret a w := by
  refine bodyPost_ret (v := .tuple #[.agg c, v]) ?_ hdf h
  have hp' : a.tmps[p]?.getD undef = .pointer (some ⟨g, 0, none⟩) := by simpa using hp
  have hq' : a.tmps[q]?.getD undef = v := by simpa using hq
  simp [results, hr, hp', hq', asAddr, run_loadVar_row w g t ty c (0, 0) _ hg hu rfl hi]
theorem szT : (Tryz.prog.info? 24).map (·.size) = some 3 := by kernel_rfl
theorem tcs_one (A : Option Addr) (n c : Nat) (has : Bool) (x : Int) : (tcs A n c has x).all (·.oneCell') = true := by simp [tcs, Value.oneCell']
/-- the memory behind 'longer.Leaps = append(..)'. -/
def addW (w : World) (A : Option Addr) (n c : Nat) (has : Bool) (x z0 z1 : Int) (z2 : Bool) (cap : Nat) (cs : Array Value) : World :=
  ((((((w.alloc (.cells #[.slice A n c, .bool has, .int .i64 x] 24)).alloc (.cells #[.int .i64 z0, .int .i64 z1, .bool z2] 39)).alloc (.cells #[.slice none 0 0, .bool false, .int .i64 0] 24)).alloc
    (.cells #[.slice (some ⟨w.heap.size + 1 + 1 + 1 + 1 + 1, 0, none⟩) (n + 1) cap, .bool has, .int .i64 x] 24)).alloc (.cells #[.int .i64 z0, .int .i64 z1, .bool z2] 39)).alloc (.cells cs 39)).drew.drew
theorem addW_is (w : World) (A : Option Addr) (n c : Nat) (has : Bool) (x z0 z1 : Int) (z2 : Bool) (cap : Nat) (cs : Array Value) :
    Below w.heap.size w (addW w A n c has x z0 z1 z2 cap cs) ∧
    (addW w A n c has x z0 z1 z2 cap cs).heap[w.heap.size + 1 + 1]? = some (.cells (tcs none 0 0 false 0) 24) ∧
    (addW w A n c has x z0 z1 z2 cap cs).heap[w.heap.size + 1 + 1 + 1]? = some (.cells (tcs (some ⟨w.heap.size + 1 + 1 + 1 + 1 + 1, 0, none⟩) (n + 1) cap has x) 24) ∧
    (addW w A n c has x z0 z1 z2 cap cs).heap[w.heap.size + 1 + 1 + 1 + 1 + 1]? = some (.cells cs 39) := by
  refine ⟨bel_drewN (bal (bal (bal (bal (bal (bal (Below.refl _ _) _) _) _) _) _) _) 2, ?_, ?_, ?_⟩
  · have h2 := hp_new1 (w.alloc (.cells #[.slice A n c, .bool has, .int .i64 x] 24)) (.cells #[.int .i64 z0, .int .i64 z1, .bool z2] 39) (.cells #[.slice none 0 0, .bool false, .int .i64 0] 24)
    simp only [World.size_alloc] at h2
    exact hp_old (hp_old (hp_old h2 _) _) _
  · have h2 := hp_new1 ((w.alloc (.cells #[.slice A n c, .bool has, .int .i64 x] 24)).alloc (.cells #[.int .i64 z0, .int .i64 z1, .bool z2] 39)) (.cells #[.slice none 0 0, .bool false, .int .i64 0] 24)
      (.cells #[.slice (some ⟨w.heap.size + 1 + 1 + 1 + 1 + 1, 0, none⟩) (n + 1) cap, .bool has, .int .i64 x] 24)
    simp only [World.size_alloc] at h2
    exact hp_old (hp_old h2 _) _
  · have h2 := hp_new1 ((((w.alloc (.cells #[.slice A n c, .bool has, .int .i64 x] 24)).alloc (.cells #[.int .i64 z0, .int .i64 z1, .bool z2] 39)).alloc (.cells #[.slice none 0 0, .bool false, .int .i64 0] 24)).alloc
      (.cells #[.slice (some ⟨w.heap.size + 1 + 1 + 1 + 1 + 1, 0, none⟩) (n + 1) cap, .bool has, .int .i64 x] 24)) (.cells #[.int .i64 z0, .int .i64 z1, .bool z2] 39) (.cells cs 39)
    simp only [World.size_alloc] at h2
    exact h2
theorem tcs_cells {W : World} {g : Nat} {A : Option Addr} {n c : Nat} {has : Bool} {x : Int} (h : W.heap[g]? = some (.cells (tcs A n c has x) 24)) :
    W.cell? ⟨g, 0, none⟩ = some (.slice A n c) ∧ W.cell? ⟨g, 1, none⟩ = some (.bool has) ∧ W.cell? ⟨g, 2, none⟩ = some (.int .i64 x) := ⟨row_cell h 0, row_cell h 1, row_cell h 2⟩
theorem Own.other {W : World} {N g : Nat} {l : List Lp} (h : Own W N l) (hg : g < N) (c : Array Value) : Own (W.setRow g c) N l := by
  obtain ⟨cs, h, e⟩ := h
  exact ⟨cs, (setRow_other _ _ _ _ (by omega)).trans h, e⟩
theorem Own.otherCell {W : World} {N g o : Nat} {l : List Lp} (h : Own W N l) (hg : g < N) (v : Value) : Own (W.setCell ⟨g, o, none⟩ v) N l := by
  obtain ⟨cs, h, e⟩ := h
  exact ⟨cs, (heap_setCell_other _ ⟨g, o, none⟩ _ _ (by show N ≠ g; omega)).trans h, e⟩
theorem tcs_set {W : World} {g : Nat} {A B : Option Addr} {n c m d : Nat} {has : Bool} {x : Int} (h : W.heap[g]? = some (.cells (tcs A n c has x) 24)) :
    (W.setCell ⟨g, 0, none⟩ (.slice B m d)).heap[g]? = some (.cells (tcs B m d has x) 24) := heap_setCell_same W g 0 _ _ _ h
theorem tcs_frozen {W : World} {g : Nat} {A : Option Addr} {n c : Nat} {has : Bool} {x : Int} (h : W.heap[g]? = some (.cells (tcs A n c has x) 24)) : W.frozen? ⟨g, 0, none⟩ = false := by
  simp [World.frozen?, h]
/-- the leaps of what Add answers. -/
noncomputable def nx (l : List Lp) (z : Lp) (has : Bool) (x : Int) : List Lp := if ce (l ++ [z]) has x = 0 then l ++ [z] else l
def Added (l : List Lp) (z : Lp) (has : Bool) (x : Int) (w : World) (e : Ending) (w' : World) : Prop :=
  ∃ N c', w.heap.size ≤ N ∧ e = .returned (.tuple #[.agg #[.slice (some ⟨N, 0, none⟩) (nx l z has x).length c', .bool has, .int .i64 x], .int .i64 (ce (l ++ [z]) has x)]) ∧ (nx l z has x).length ≤ c' ∧ Own w' N (nx l z has x) ∧ Below w.heap.size w w'
theorem added_yes {l : List Lp} {z : Lp} {has : Bool} {x : Int} (h : ce (l ++ [z]) has x = 0) (w W : World) (N c' : Nat) (h1 : w.heap.size ≤ N) (h2 : l.length + 1 ≤ c') (h3 : Own W N (l ++ [z])) (hb : Below w.heap.size w W) :
    Added l z has x w (.returned (.tuple #[.agg (tcs (some ⟨N, 0, none⟩) (l.length + 1) c' has x), .int .i64 0])) W := by
  have e : nx l z has x = l ++ [z] := by unfold nx; rw [if_pos h]
  refine ⟨N, c', h1, ?_, by rw [e]; simpa using h2, by rw [e]; exact h3, hb⟩
  rw [e, h, List.length_append]
  rfl
theorem added_no {l : List Lp} {z : Lp} {has : Bool} {x : Int} (h : ce (l ++ [z]) has x ≠ 0) (w W : World) (N : Nat) (h1 : w.heap.size ≤ N) (h3 : Own W N (l ++ [z])) (hb : Below w.heap.size w W) :
    Added l z has x w (.returned (.tuple #[.agg (tcs (some ⟨N, 0, none⟩) l.length l.length has x), .int .i64 (ce (l ++ [z]) has x)])) W := by
  have e : nx l z has x = l := by unfold nx; rw [if_neg h]
  refine ⟨N, l.length, h1, ?_, by rw [e]; exact Nat.le_refl _, by rw [e]; exact h3.cut, hb⟩
  rw [e]
  rfl
set_option maxHeartbeats 1000000 in
theorem add_at (l : List Lp) (z : Lp) (A : Option Addr) (c : Nat) (has : Bool) (x : Int) (w : World) (T : day.Tabs w) (h : Lps w A l) (hn : l.length ≤ 1000000) (hc : l.length ≤ c) :
    Calls Tryz.prog 46 #[.agg #[.slice A l.length c, .bool has, .int .i64 x], .agg #[.int .i64 z.1, .int .i64 z.2.1, .bool z.2.2]] w (Added l z has x w) := by
  have hb4 : Below w.heap.size w ((((((w.alloc (.cells #[.slice A l.length c, .bool has, .int .i64 x] 24)).alloc (.cells #[.int .i64 z.1, .int .i64 z.2.1, .bool z.2.2] 39)).alloc (.cells #[.slice none 0 0, .bool false, .int .i64 0] 24)).alloc (.cells #[.slice A l.length c, .bool has, .int .i64 x] 24)).drew).alloc (.cells #[.int .i64 z.1, .int .i64 z.2.1, .bool z.2.2] 39)) :=
    bal (bel_drewN (bal (bal (bal (bal (Below.refl _ _) _) _) _) _) 1) _
  obtain ⟨cap, cs, run, h1, h2, h3⟩ := app_run _ A l (h.below hb4) hn (w.heap.size + 1 + 1 + 1 + 1) z (by
    have := hp_new (((((w.alloc (.cells #[.slice A l.length c, .bool has, .int .i64 x] 24)).alloc (.cells #[.int .i64 z.1, .int .i64 z.2.1, .bool z.2.2] 39)).alloc (.cells #[.slice none 0 0, .bool false, .int .i64 0] 24)).alloc (.cells #[.slice A l.length c, .bool has, .int .i64 x] 24)).drew) (.cells #[.int .i64 z.1, .int .i64 z.2.1, .bool z.2.2] 39)
    simpa using this) 22
  have HB := Lib.hid hb4
  have H3 := Lib.hid h3
  clear hb4 h3
  obtain ⟨z0, z1, z2⟩ := z
  have q := fun W => cutM A l.length c l.length hc W
  go_enter Tryz.func46, Tryz.ntmps46
  go_wp2_with fail
  simp only [World.size_alloc] at run
  go_region_law (refine step_app rfl _ _ _ rfl _ _ _ _ rfl rfl run ?_)
  all_goals
    show Exit.then _ _ _ _ (addW w A l.length c has x z0 z1 z2 cap cs)
    obtain ⟨hbW, g2, g3, g5⟩ := addW_is w A l.length c has x z0 z1 z2 cap cs
    generalize addW w A l.length c has x z0 z1 z2 cap cs = W6 at *
    clear run q HB
    have own : Own W6 (w.heap.size + 1 + 1 + 1 + 1 + 1) (l ++ [(z0, z1, z2)]) := ⟨cs, g5, H3.out⟩
    have C := Lib.hid (check_at (l ++ [(z0, z1, z2)]) (some ⟨w.heap.size + 1 + 1 + 1 + 1 + 1, 0, none⟩) cap has x W6 (T.below hbW) own.lps (by simp; omega))
    unfold Checked at C
    rw [show (l ++ [(z0, z1, z2)]).length = l.length + 1 by simp] at C
    have Y : Hid (ce (l ++ [(z0, z1, z2)]) has x = 0 → ∀ W' N c', w.heap.size ≤ N → l.length + 1 ≤ c' → Own W' N (l ++ [(z0, z1, z2)]) → Below w.heap.size w W' → Added l (z0, z1, z2) has x w (.returned (.tuple #[.agg (tcs (some ⟨N, 0, none⟩) (l.length + 1) c' has x), .int .i64 0])) W') := fun h W' N c' a b d e => added_yes h w W' N c' a b d e
    have Z : Hid (ce (l ++ [(z0, z1, z2)]) has x ≠ 0 → ∀ W' N, w.heap.size ≤ N → Own W' N (l ++ [(z0, z1, z2)]) → Below w.heap.size w W' → Added l (z0, z1, z2) has x w (.returned (.tuple #[.agg (tcs (some ⟨N, 0, none⟩) l.length l.length has x), .int .i64 (ce (l ++ [(z0, z1, z2)]) has x)])) W') := fun h W' N a d e => added_no h w W' N a d e
    have O := Lib.hid own
    obtain ⟨d0, d1, d2⟩ := tcs_cells g3
    have G2 := Lib.hid g2
    have G3 := Lib.hid g3
    have q3 := fun W => cutM (some ⟨w.heap.size + 1 + 1 + 1 + 1 + 1, 0, none⟩) (l.length + 1) cap l.length (by omega) W
    clear h T own g5 g2 g3 H3
    generalize ce (l ++ [(z0, z1, z2)]) has x = E at *
    generalize cp (l ++ [(z0, z1, z2)]) = p at *
    generalize hL : l ++ [(z0, z1, z2)] = L at *
    by_cases hE : E = 0
    · subst hE
      have Y2 := Lib.hid (Y.out rfl)
      clear Y Z q3
      generalize l.length = n at *
      go_wp2_with (first
        | (go_at_call 47; (with_reducible refine (C.out).mono ?_); rintro e w1 ⟨rfl, hb1⟩; have k2 := Lib.hid (kept G2.out hb1); have k3 := Lib.hid (kept G3.out hb1); obtain ⟨c0, c1, c2⟩ := tcs_cells k3.out)
        | (refine wpList_store_row rfl 24 (.tmp 4) (.tmp 38) rfl (w.heap.size + 1 + 1) (tcs (some ⟨w.heap.size + 1 + 1 + 1 + 1 + 1, 0, none⟩) (n + 1) cap has x) rfl rfl 24 _ k2.out szT rfl (tcs_one _ _ _ _ _) ?_))
      exact end_pair rfl _ _ (w.heap.size + 1 + 1) 24 (tcs (some ⟨w.heap.size + 1 + 1 + 1 + 1 + 1, 0, none⟩) (n + 1) cap has x) _ (.int .i64 0) rfl rfl (setRow_heap _ _ _ _ _ _ k2.out) Tryz.underlying24 szT rfl
        (Y2.out _ _ _ (by omega) h1 ((O.out.kept hb1).other (by omega) _) (bel_setRow (btr hbW hb1) (by omega) _))
    · have Z2 := Lib.hid (Z.out hE)
      have t : (E != 0) = true := by simpa using hE
      clear Y Z hE
      generalize l.length = n at *
      go_wp2_with (first
        | (go_at_call 47; (with_reducible refine (C.out).mono ?_); rintro e w1 ⟨rfl, hb1⟩; have k2 := Lib.hid (kept G2.out hb1); have k3 := Lib.hid (kept G3.out hb1); obtain ⟨c0, c1, c2⟩ := tcs_cells k3.out; have fz := tcs_frozen k3.out; obtain ⟨e0, e1, e2⟩ := tcs_cells (tcs_set (B := some ⟨w.heap.size + 1 + 1 + 1 + 1 + 1, 0, none⟩) (m := n) (d := n) k3.out); have k4 := Lib.hid ((heap_setCell_other w1 ⟨w.heap.size + 1 + 1 + 1, 0, none⟩ (w.heap.size + 1 + 1) (.slice (some ⟨w.heap.size + 1 + 1 + 1 + 1 + 1, 0, none⟩) n n) (by show w.heap.size + 1 + 1 ≠ w.heap.size + 1 + 1 + 1; omega)).trans k2.out))
        | (refine wpList_store_row rfl 24 (.tmp 4) (.tmp 36) rfl (w.heap.size + 1 + 1) (tcs (some ⟨w.heap.size + 1 + 1 + 1 + 1 + 1, 0, none⟩) n n has x) rfl rfl 24 _ k4.out szT rfl (tcs_one _ _ _ _ _) ?_))
      exact end_pair rfl _ _ (w.heap.size + 1 + 1) 24 (tcs (some ⟨w.heap.size + 1 + 1 + 1 + 1 + 1, 0, none⟩) n n has x) _ (.int .i64 E) rfl rfl (setRow_heap _ _ _ _ _ _ k4.out) Tryz.underlying24 szT rfl
        (Z2.out _ _ (by omega) (((O.out.kept hb1).otherCell (by omega) _).other (by omega) _) (bel_setRow ((btr hbW hb1).setCell (by show w.heap.size ≤ w.heap.size + 1 + 1 + 1; omega) _) (by omega) _))
end Go.Proofs.YtiboijhfieaepaaGreatDoor.leap
