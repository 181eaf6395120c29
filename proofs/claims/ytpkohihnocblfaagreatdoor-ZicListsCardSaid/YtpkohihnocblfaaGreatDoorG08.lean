/-
  What leap's Add answers. Conditions: the tables of package day hold what their initialisers lay; the slice reads as the row.
-/
import Derived.Test.YtpkohihnocblfaaGreatDoorG07
import Derived.Deep.RegionLaw
import Derived.BigRegion
import Derived.Test.YtpkohihnocblfaaGreatDoorG03
import Derived.Test.YtpkohihnocblfaaGreatDoorG05
import Derived.Test.YtpkohihnocblfaaGreatDoorG06
import Derived.Test.YtpkohihnocblfaaGreatDoorG02
namespace Go.Proofs.YtpkohihnocblfaaGreatDoor.leap
open Go.ChangeShapes Go.WideShapes Go.ChangeAt Go.RowKit
open lm mem
set_option linter.unusedVariables false
set_option maxRecDepth 100000

/-- a region that draws its order, all of whose operations but the last ones only read: in the text's order. -/
theorem tail_region {P : Program} {id : Nat} {Q : Exit → Act → World → Prop} {a : Act} {w : World} {l : List Oper} (n : Nat) (hm : P.follows .mixedOrders = true) (hB : Region.lexTailB .any l.toArray n = true)
    (h : wpStill P l.toArray w.drew (fun a' => wpList P l.toArray Q (l.drop n) a' w.drew) (l.take n) a) : (Code.region id l.toArray true).wp P Q a w := wp_region_still_tail n hm hB h
set_option maxRecDepth 100000 in
theorem cutM (A : Option Addr) (n c f : Nat) (h : f ≤ c) (W : World) : (Instr.slice 22 (.slice A n c) none (some (.int .i64 (f : Nat))) (some (.int .i64 (f : Nat)))).run Tryz.prog W = .ok (.slice A f f) W := by
  rw [run_slice_hm (P := Tryz.prog) W 22 A n c Tryz.underlying22 .i64 .i64 f f (by omega) (by omega) (by omega)]
  rw [show (Go.sizeOf (Tryz.prog.elem 22)).run Tryz.prog W = .ok 3 W by kernel_rfl]
  simp only [Result.andThen, sliced, Int.toNat_natCast, Nat.sub_zero, Nat.zero_mul]
  cases A with
  | none => simp
  | some a => simp [Addr.add]
/-- an 'append' at a step of a region that draws its order. -/
theorem step_app {P : Program} {ops : Array Oper} {o : Oper} {a : Act} {W : World} {K : Act → World → Prop} {Q : Exit → Act → World → Prop} {E : Prop} (hgd : o.guard = none) (s x : Operand) (t : TypeId)
    (ho : o.op = .call { callee := .builtin .append, args := #[s, x], argTypes := #[t, t] }) (va vx v : Value) (W' : World) (hs : a.eval s = va) (hx : a.eval x = vx)
    (run : (Builtin.append_ #[t, t] o.type #[va, vx]).run P W = .ok v W') (h : K (a.put o.dst v) W') :
    if Region.wanted o (yielded ops a.tmps) = true then Oper.wp P o a W K Q else E := by
  have hw : Region.wanted o (yielded ops a.tmps) = true := by simp [Region.wanted, hgd]
  rw [if_pos hw]
  unfold Oper.wp execOp
  simp only [ho, resolve, invoke, builtin, Sem.run_bind, Sem.run_pure, Result.andThen_ok, List.map_toArray, List.map_cons, List.map_nil, hs, hx, run]
  exact h
/-- 'return t, e', t a struct in the result's row. -/
theorem end_pair {fn : Func} {R : Ending → World → Prop} {p q : Tmp} {ty : TypeId} (hr : fn.results = #[.cell p ty, .tmp q]) (a : Act) (w : World) (g : Nat) (t : TypeId) (c : Array Value) (fs : Array Field) (v : Value)
    (hp : a.tmps.getD p undef = .pointer (some ⟨g, 0, none⟩)) (hq : a.tmps.getD q undef = v) (hg : w.heap[g]? = some (.cells c t (0, 0))) (hu : Tryz.prog.underlying ty = some (.struct fs))
    (hi : (Tryz.prog.info? ty).map (·.size) = some c.size) (hdf : a.defers = []) (h : R (.returned (.tuple #[.agg c, v])) w) : bodyPost Tryz.prog fn R .ret a w := by
  refine bodyPost_ret (v := .tuple #[.agg c, v]) ?_ hdf h
  have hp' : a.tmps[p]?.getD undef = .pointer (some ⟨g, 0, none⟩) := by simpa using hp
  have hq' : a.tmps[q]?.getD undef = v := by simpa using hq
  simp [results, hr, hp', hq', asAddr, run_loadVar_row w g t ty c (0, 0) _ hg hu rfl hi]
theorem szT : (Tryz.prog.info? 24).map (·.size) = some 3 := by kernel_rfl
theorem tcs_one (A : Option Addr) (n c : Nat) (has : Bool) (x : Int) : (tcs A n c has x).all (·.oneCell') = true := by simp [tcs, Value.oneCell']
/-- the memory behind 'longer.Leaps = append(..)'. -/
def addW (w : World) (A : Option Addr) (n c : Nat) (has : Bool) (x z0 z1 : Int) (z2 : Bool) (cap : Nat) (cs : Array Value) : World :=
  ((((((w.alloc (.cells #[.slice A n c, .bool has, .int .i64 x] 24)).alloc (.cells #[.int .i64 z0, .int .i64 z1, .bool z2] 38)).alloc (.cells #[.slice none 0 0, .bool false, .int .i64 0] 24)).alloc
    (.cells #[.slice (some ⟨w.heap.size + 1 + 1 + 1 + 1 + 1, 0, none⟩) (n + 1) cap, .bool has, .int .i64 x] 24)).alloc (.cells #[.int .i64 z0, .int .i64 z1, .bool z2] 38)).alloc (.cells cs 38)).drew.drew
theorem addW_is (w : World) (A : Option Addr) (n c : Nat) (has : Bool) (x z0 z1 : Int) (z2 : Bool) (cap : Nat) (cs : Array Value) :
    Below w.heap.size w (addW w A n c has x z0 z1 z2 cap cs) ∧
    (addW w A n c has x z0 z1 z2 cap cs).heap[w.heap.size + 1 + 1]? = some (.cells (tcs none 0 0 false 0) 24) ∧
    (addW w A n c has x z0 z1 z2 cap cs).heap[w.heap.size + 1 + 1 + 1]? = some (.cells (tcs (some ⟨w.heap.size + 1 + 1 + 1 + 1 + 1, 0, none⟩) (n + 1) cap has x) 24) ∧
    (addW w A n c has x z0 z1 z2 cap cs).heap[w.heap.size + 1 + 1 + 1 + 1 + 1]? = some (.cells cs 38) := by
  refine ⟨bel_drewN (bal (bal (bal (bal (bal (bal (Below.refl _ _) _) _) _) _) _) _) 2, ?_, ?_, ?_⟩
  · have h2 := hp_new1 (w.alloc (.cells #[.slice A n c, .bool has, .int .i64 x] 24)) (.cells #[.int .i64 z0, .int .i64 z1, .bool z2] 38) (.cells #[.slice none 0 0, .bool false, .int .i64 0] 24)
    simp only [World.size_alloc] at h2
    exact hp_old (hp_old (hp_old h2 _) _) _
  · have h2 := hp_new1 ((w.alloc (.cells #[.slice A n c, .bool has, .int .i64 x] 24)).alloc (.cells #[.int .i64 z0, .int .i64 z1, .bool z2] 38)) (.cells #[.slice none 0 0, .bool false, .int .i64 0] 24)
      (.cells #[.slice (some ⟨w.heap.size + 1 + 1 + 1 + 1 + 1, 0, none⟩) (n + 1) cap, .bool has, .int .i64 x] 24)
    simp only [World.size_alloc] at h2
    exact hp_old (hp_old h2 _) _
  · have h2 := hp_new1 ((((w.alloc (.cells #[.slice A n c, .bool has, .int .i64 x] 24)).alloc (.cells #[.int .i64 z0, .int .i64 z1, .bool z2] 38)).alloc (.cells #[.slice none 0 0, .bool false, .int .i64 0] 24)).alloc
      (.cells #[.slice (some ⟨w.heap.size + 1 + 1 + 1 + 1 + 1, 0, none⟩) (n + 1) cap, .bool has, .int .i64 x] 24)) (.cells #[.int .i64 z0, .int .i64 z1, .bool z2] 38) (.cells cs 38)
    simp only [World.size_alloc] at h2
    exact h2
theorem tcs_cells {W : World} {g : Nat} {A : Option Addr} {n c : Nat} {has : Bool} {x : Int} (h : W.heap[g]? = some (.cells (tcs A n c has x) 24)) :
    W.cell? ⟨g, 0, none⟩ = some (.slice A n c) ∧ W.cell? ⟨g, 1, none⟩ = some (.bool has) ∧ W.cell? ⟨g, 2, none⟩ = some (.int .i64 x) := ⟨row_cell h 0, row_cell h 1, row_cell h 2⟩
theorem Own.other {W : World} {N g : Nat} {l : List Lp} (h : Own W N l) (hg : g < N) (c : Array Value) : Own (W.setRow g c) N l := by
  obtain ⟨cs, h, e⟩ := h
  exact ⟨cs, (setRow_other _ _ _ _ (by omega)).trans h, e⟩
theorem Own.otherCell {W : World} {N g o : Nat} {l : List Lp} (h : Own W N l) (hg : g < N) (v : Value) : Own (W.setCell ⟨g, o, none⟩ v) N l := by
  obtain ⟨cs, h, e⟩ := h
  exact ⟨cs, (heap_setCell_other _ ⟨g, o, none⟩ _ _ (by show N ≠ g; omega)).trans h, e⟩
theorem tcs_set {W : World} {g : Nat} {A B : Option Addr} {n c m d : Nat} {has : Bool} {x : Int} (h : W.heap[g]? = some (.cells (tcs A n c has x) 24)) :
    (W.setCell ⟨g, 0, none⟩ (.slice B m d)).heap[g]? = some (.cells (tcs B m d has x) 24) := heap_setCell_same W g 0 _ _ _ h
theorem tcs_frozen {W : World} {g : Nat} {A : Option Addr} {n c : Nat} {has : Bool} {x : Int} (h : W.heap[g]? = some (.cells (tcs A n c has x) 24)) : W.frozen? ⟨g, 0, none⟩ = false := by
  simp [World.frozen?, h]
/-- the leaps of what Add answers. -/
noncomputable def nx (l : List Lp) (z : Lp) (has : Bool) (x : Int) : List Lp := if ce (l ++ [z]) has x = 0 then l ++ [z] else l
def Added (l : List Lp) (z : Lp) (has : Bool) (x : Int) (w : World) (e : Ending) (w' : World) : Prop :=
  ∃ N c', w.heap.size ≤ N ∧ e = .returned (.tuple #[.agg #[.slice (some ⟨N, 0, none⟩) (nx l z has x).length c', .bool has, .int .i64 x], .int .i64 (ce (l ++ [z]) has x)]) ∧ (nx l z has x).length ≤ c' ∧ Own w' N (nx l z has x) ∧ Below w.heap.size w w'
theorem added_yes {l : List Lp} {z : Lp} {has : Bool} {x : Int} (h : ce (l ++ [z]) has x = 0) (w W : World) (N c' : Nat) (h1 : w.heap.size ≤ N) (h2 : l.length + 1 ≤ c') (h3 : Own W N (l ++ [z])) (hb : Below w.heap.size w W) :
    Added l z has x w (.returned (.tuple #[.agg (tcs (some ⟨N, 0, none⟩) (l.length + 1) c' has x), .int .i64 0])) W := by
  have e : nx l z has x = l ++ [z] := by unfold nx; rw [if_pos h]
  refine ⟨N, c', h1, ?_, by rw [e]; simpa using h2, by rw [e]; exact h3, hb⟩
  rw [e, h, List.length_append]
  rfl
theorem added_no {l : List Lp} {z : Lp} {has : Bool} {x : Int} (h : ce (l ++ [z]) has x ≠ 0) (w W : World) (N : Nat) (h1 : w.heap.size ≤ N) (h3 : Own W N (l ++ [z])) (hb : Below w.heap.size w W) :
    Added l z has x w (.returned (.tuple #[.agg (tcs (some ⟨N, 0, none⟩) l.length l.length has x), .int .i64 (ce (l ++ [z]) has x)])) W := by
  have e : nx l z has x = l := by unfold nx; rw [if_neg h]
  refine ⟨N, l.length, h1, ?_, by rw [e]; exact Nat.le_refl _, by rw [e]; exact h3.cut, hb⟩
  rw [e]
  rfl
set_option maxHeartbeats 1000000 in
theorem add_at (l : List Lp) (z : Lp) (A : Option Addr) (c : Nat) (has : Bool) (x : Int) (w : World) (T : day.Tabs w) (h : Lps w A l) (hn : l.length ≤ 1000000) (hc : l.length ≤ c) :
    Calls Tryz.prog 53 #[.agg #[.slice A l.length c, .bool has, .int .i64 x], .agg #[.int .i64 z.1, .int .i64 z.2.1, .bool z.2.2]] w (Added l z has x w) := by
  have hb4 : Below w.heap.size w ((((((w.alloc (.cells #[.slice A l.length c, .bool has, .int .i64 x] 24)).alloc (.cells #[.int .i64 z.1, .int .i64 z.2.1, .bool z.2.2] 38)).alloc (.cells #[.slice none 0 0, .bool false, .int .i64 0] 24)).alloc (.cells #[.slice A l.length c, .bool has, .int .i64 x] 24)).drew).alloc (.cells #[.int .i64 z.1, .int .i64 z.2.1, .bool z.2.2] 38)) :=
    bal (bel_drewN (bal (bal (bal (bal (Below.refl _ _) _) _) _) _) 1) _
  obtain ⟨cap, cs, run, h1, h2, h3⟩ := app_run _ A l (h.below hb4) hn (w.heap.size + 1 + 1 + 1 + 1) z (by
    have := hp_new (((((w.alloc (.cells #[.slice A l.length c, .bool has, .int .i64 x] 24)).alloc (.cells #[.int .i64 z.1, .int .i64 z.2.1, .bool z.2.2] 38)).alloc (.cells #[.slice none 0 0, .bool false, .int .i64 0] 24)).alloc (.cells #[.slice A l.length c, .bool has, .int .i64 x] 24)).drew) (.cells #[.int .i64 z.1, .int .i64 z.2.1, .bool z.2.2] 38)
    simpa using this) 22
  have HB := Lib.hid hb4
  have H3 := Lib.hid h3
  clear hb4 h3
  obtain ⟨z0, z1, z2⟩ := z
  have q := fun W => cutM A l.length c l.length hc W
  go_enter Tryz.func53, Tryz.ntmps53
  go_wp2_with fail
  simp only [World.size_alloc] at run
  go_region_law (refine step_app rfl _ _ _ rfl _ _ _ _ rfl rfl run ?_)
  all_goals
    show Exit.then _ _ _ _ (addW w A l.length c has x z0 z1 z2 cap cs)
    obtain ⟨hbW, g2, g3, g5⟩ := addW_is w A l.length c has x z0 z1 z2 cap cs
    generalize addW w A l.length c has x z0 z1 z2 cap cs = W6 at *
    clear run q HB
    have own : Own W6 (w.heap.size + 1 + 1 + 1 + 1 + 1) (l ++ [(z0, z1, z2)]) := ⟨cs, g5, H3.out⟩
    have C := Lib.hid (check_at (l ++ [(z0, z1, z2)]) (some ⟨w.heap.size + 1 + 1 + 1 + 1 + 1, 0, none⟩) cap has x W6 (T.below hbW) own.lps (by simp; omega))
    unfold Checked at C
    rw [show (l ++ [(z0, z1, z2)]).length = l.length + 1 by simp] at C
    have Y : Hid (ce (l ++ [(z0, z1, z2)]) has x = 0 → ∀ W' N c', w.heap.size ≤ N → l.length + 1 ≤ c' → Own W' N (l ++ [(z0, z1, z2)]) → Below w.heap.size w W' → Added l (z0, z1, z2) has x w (.returned (.tuple #[.agg (tcs (some ⟨N, 0, none⟩) (l.length + 1) c' has x), .int .i64 0])) W') := fun h W' N c' a b d e => added_yes h w W' N c' a b d e
    have Z : Hid (ce (l ++ [(z0, z1, z2)]) has x ≠ 0 → ∀ W' N, w.heap.size ≤ N → Own W' N (l ++ [(z0, z1, z2)]) → Below w.heap.size w W' → Added l (z0, z1, z2) has x w (.returned (.tuple #[.agg (tcs (some ⟨N, 0, none⟩) l.length l.length has x), .int .i64 (ce (l ++ [(z0, z1, z2)]) has x)])) W') := fun h W' N a d e => added_no h w W' N a d e
    have O := Lib.hid own
    obtain ⟨d0, d1, d2⟩ := tcs_cells g3
    have G2 := Lib.hid g2
    have G3 := Lib.hid g3
    have q3 := fun W => cutM (some ⟨w.heap.size + 1 + 1 + 1 + 1 + 1, 0, none⟩) (l.length + 1) cap l.length (by omega) W
    clear h T own g5 g2 g3 H3
    generalize ce (l ++ [(z0, z1, z2)]) has x = E at *
    generalize cp (l ++ [(z0, z1, z2)]) = p at *
    generalize hL : l ++ [(z0, z1, z2)] = L at *
    by_cases hE : E = 0
    · subst hE
      have Y2 := Lib.hid (Y.out rfl)
      clear Y Z q3
      generalize l.length = n at *
      go_wp2_with (first
        | (go_at_call 33; (with_reducible refine (C.out).mono ?_); rintro e w1 ⟨rfl, hb1⟩; have k2 := Lib.hid (kept G2.out hb1); have k3 := Lib.hid (kept G3.out hb1); obtain ⟨c0, c1, c2⟩ := tcs_cells k3.out)
        | (refine wpList_store_row rfl 24 (.tmp 4) (.tmp 38) rfl (w.heap.size + 1 + 1) (tcs (some ⟨w.heap.size + 1 + 1 + 1 + 1 + 1, 0, none⟩) (n + 1) cap has x) rfl rfl 24 _ k2.out szT rfl (tcs_one _ _ _ _ _) ?_))
      exact end_pair rfl _ _ (w.heap.size + 1 + 1) 24 (tcs (some ⟨w.heap.size + 1 + 1 + 1 + 1 + 1, 0, none⟩) (n + 1) cap has x) _ (.int .i64 0) rfl rfl (setRow_heap _ _ _ _ _ _ k2.out) Tryz.underlying24 szT rfl
        (Y2.out _ _ _ (by omega) h1 ((O.out.kept hb1).other (by omega) _) (bel_setRow (btr hbW hb1) (by omega) _))
    · have Z2 := Lib.hid (Z.out hE)
      have t : (E != 0) = true := by simpa using hE
      clear Y Z hE
      generalize l.length = n at *
      go_wp2_with (first
        | (go_at_call 33; (with_reducible refine (C.out).mono ?_); rintro e w1 ⟨rfl, hb1⟩; have k2 := Lib.hid (kept G2.out hb1); have k3 := Lib.hid (kept G3.out hb1); obtain ⟨c0, c1, c2⟩ := tcs_cells k3.out; have fz := tcs_frozen k3.out; obtain ⟨e0, e1, e2⟩ := tcs_cells (tcs_set (B := some ⟨w.heap.size + 1 + 1 + 1 + 1 + 1, 0, none⟩) (m := n) (d := n) k3.out); have k4 := Lib.hid ((heap_setCell_other w1 ⟨w.heap.size + 1 + 1 + 1, 0, none⟩ (w.heap.size + 1 + 1) (.slice (some ⟨w.heap.size + 1 + 1 + 1 + 1 + 1, 0, none⟩) n n) (by show w.heap.size + 1 + 1 ≠ w.heap.size + 1 + 1 + 1; omega)).trans k2.out))
        | (refine wpList_store_row rfl 24 (.tmp 4) (.tmp 36) rfl (w.heap.size + 1 + 1) (tcs (some ⟨w.heap.size + 1 + 1 + 1 + 1 + 1, 0, none⟩) n n has x) rfl rfl 24 _ k4.out szT rfl (tcs_one _ _ _ _ _) ?_))
      exact end_pair rfl _ _ (w.heap.size + 1 + 1) 24 (tcs (some ⟨w.heap.size + 1 + 1 + 1 + 1 + 1, 0, none⟩) n n has x) _ (.int .i64 E) rfl rfl (setRow_heap _ _ _ _ _ _ k4.out) Tryz.underlying24 szT rfl
        (Z2.out _ _ (by omega) (((O.out.kept hb1).otherCell (by omega) _).other (by omega) _) (bel_setRow ((btr hbW hb1).setCell (by show w.heap.size ≤ w.heap.size + 1 + 1 + 1; omega) _) (by omega) _))
end Go.Proofs.YtpkohihnocblfaaGreatDoor.leap

/-
  What zic.Month, clockPart, Clock, kindOf, readKind and readMoment answer, as plain mathematics (zs) tells. Conditions: the names of months of package zic, and the tables of package day, hold what their initialisers lay; the library's variable MaxLen holds some number; the texts have fewer than 2^32 - 15 bytes.
-/
namespace Go.Proofs.YtpkohihnocblfaaGreatDoor.zic
open Go.ChangeShapes Go.WideShapes Go.ChangeAt Go.RowKit
open lx zs mem stx cal
set_option linter.unusedVariables false
set_option maxRecDepth 100000

theorem ret_ib {a b : Int} {c d : Bool} (h1 : a = b) (h2 : c = d) : Ending.returned (.tuple #[.int .i64 a, .bool c]) = .returned (.tuple #[.int .i64 b, .bool d]) := by rw [h1, h2]
/-! the names of months, as they are laid -/
def nmA : Array Value := (names.map fun n => Value.string (B n)).toArray
def Nm (w : World) : Prop := ∃ t fr, w.heap[0]? = some (.cells nmA t fr)
theorem Nm.below {w W : World} (h : Nm w) (hb : Below w.heap.size w W) : Nm W := by
  obtain ⟨t, fr, h⟩ := h
  exact ⟨t, fr, kept h hb⟩
theorem nmA_get (j : Nat) (h : j < 12) : nmA[j]? = some (.string (B (names.getD j []))) := by
  unfold nmA
  rw [List.getElem?_toArray, List.getElem?_map, List.getD_eq_getElem?_getD, List.getElem?_eq_getElem (show j < names.length from h)]
  rfl
theorem szN : (Tryz.prog.info? 71).map (·.size) = some nmA.size := by
  have h : (Tryz.prog.info? 71).map (·.size) = some 12 := by kernel_rfl
  exact h
theorem run_nm (w : World) (j : Nat) (h : j < 12) : (Instr.index 71 (.agg nmA) (.int .i64 (j : Nat))).run Tryz.prog w = .ok (.string (B (names.getD j []))) w := by
  rcases (show j = 0 ∨ j = 1 ∨ j = 2 ∨ j = 3 ∨ j = 4 ∨ j = 5 ∨ j = 6 ∨ j = 7 ∨ j = 8 ∨ j = 9 ∨ j = 10 ∨ j = 11 by omega) with rfl | rfl | rfl | rfl | rfl | rfl | rfl | rfl | rfl | rfl | rfl | rfl <;> kernel_rfl
theorem names_drop (j : Nat) (h : j < 12) : names.drop j = names.getD j [] :: names.drop (j + 1) := by
  rw [List.drop_eq_getElem_cons (show j < names.length from h), List.getD_eq_getElem?_getD, List.getElem?_eq_getElem (show j < names.length from h)]
  rfl
theorem pre_B (x : List UInt8) (b : List UInt8) : Lib.hasPrefix (B x).data.toList (B b).data.toList = b.isPrefixOf x := by
  unfold Lib.hasPrefix
  show List.isPrefixOf (L (B b)) (L (B x)) = _
  rw [L_B, L_B]
theorem pre_at (x b : List UInt8) (W : World) : Calls Tryz.prog 30 #[.string (B x), .string (B b)] W fun e w' => e = .returned (.bool (b.isPrefixOf x)) ∧ W = w' := by
  have := Tryz.strings_HasPrefix (B x) (B b) W
  rw [pre_B] at this
  refine this.mono ?_
  rintro e w' ⟨rfl, rfl⟩
  exact ⟨rfl, rfl⟩
set_option maxHeartbeats 2000000 in
theorem month_at (s : ByteArray) (w : World) (T : Nm w) (hs : s.size < 4294967281) : Calls Tryz.prog 11 #[.string s] w fun e w' => e = .returned (.tuple #[.int .i64 (mon (L s)), .bool (decide (mon (L s) ≠ 0))]) ∧ Below w.heap.size w w' := by
  by_cases h3 : s.size < 3
  · have E : Hid (mon (L s) = 0) := by
      show _ = _
      unfold mon monN
      rw [if_pos (by rw [L_len]; exact h3)]
      rfl
    have t1 : decide ((s.size : Int) < 3) = true := by simp; omega
    have t2 : decide (s.size < 3) = true := by simp; omega
    clear T
    go_enter Tryz.func11, Tryz.ntmps11
    go_wp2
    go_ret2
    exact ⟨ret_ib E.out.symm (by rw [E.out]; rfl), Below.refl _ _⟩
  · have C := Lib.hid (lines.fold_at s w hs)
    have NL : Hid (∀ W, Below w.heap.size w W → ∃ t fr, W.heap[0]? = some (.cells nmA t fr)) := fun W hb => T.below hb
    have t1 : decide ((s.size : Int) < 3) = false := by simp; omega
    have t2 : decide (s.size < 3) = false := by simp; omega
    have E : Hid (monN (L s) = monF ((L s).map fld) names 1) := by
      show _ = _
      unfold monN
      rw [if_neg (by rw [L_len]; exact h3)]
    have PR := Lib.hid (fun x W => pre_at x ((L s).map fld) W)
    unfold foldS at C
    unfold mon
    generalize (L s).map fld = b at *
    generalize monN (L s) = m at *
    clear T hs
    go_enter Tryz.func11, Tryz.ntmps11
    go_wp2_with (first
      | (go_at_call 29; with_reducible refine C.out.mono ?_; rintro e w1 ⟨rfl, hb1⟩; obtain ⟨t, fr, g1⟩ := NL.out _ hb1)
      | (refine wpList_load_row rfl 71 (.global 0) rfl 0 rfl _ _ _ _ g1 Tryz.underlying71 rfl szN ?_))
    have HB := Lib.hid hb1
    clear C NL g1
    go_loop [13] (fun t => ∃ j : Nat, j ≤ 12 ∧ t = .int .i64 (j : Nat) ∧ monF b names 1 = monF b (names.drop j) (j + 1)) (fun t => 12 - (intOf t).toNat)
    case atStart => exact ⟨0, by omega, rfl, rfl⟩
    case round =>
      obtain ⟨j, hj, rfl, hm⟩ := hrel
      by_cases hlt : j < 12
      · have c0 := run_nm w1 j hlt
        have P := Lib.hid (PR.out (names.getD j []))
        rw [names_drop j hlt] at hm
        have d1 : decide ((j : Int) < 12) = true := decide_eq_true (by omega)
        have d2 : decide (j < 12) = true := decide_eq_true hlt
        generalize names.getD j [] = x at *
        cases hp : b.isPrefixOf x with
        | true =>
          rw [hp] at P
          have e : m = j + 1 := by rw [E.out, hm]; unfold monF; rw [if_pos hp]
          subst e
          clear hm E hp PR
          go_wp2_with (go_at_call 30; with_reducible refine (P.out _).mono ?_; rintro e w2 ⟨rfl, rfl⟩)
          go_ret2
          exact ⟨ret_ib rfl (decide_eq_true (show ((j + 1 : Nat) : Int) ≠ 0 by omega)).symm, HB.out⟩
        | false =>
          rw [hp] at P
          have hm2 : Hid (monF b names 1 = monF b (names.drop (j + 1)) (j + 1 + 1)) := by
            show _ = _
            rw [hm]
            show (if b.isPrefixOf x = true then _ else _) = _
            rw [if_neg (by rw [hp]; decide)]
          clear hm E hp PR
          go_wp2_with (go_at_call 30; with_reducible refine (P.out _).mono ?_; rintro e w2 ⟨rfl, rfl⟩)
          go_round
          case rel => exact ⟨j + 1, by omega, rfl, hm2.out⟩
          case measure => simp [intOf]; omega
      · obtain rfl : j = 12 := by omega
        have e : m = 0 := by rw [E.out, hm]; rfl
        subst e
        clear hm E PR
        go_wp2
        go_ret2
        exact ⟨rfl, HB.out⟩

/-! clocks -/
theorem occ_one (c : UInt8) (l : List UInt8) (j : Nat) : Lib.occAt l [c] j = decide (l[j]? = some c) := by
  unfold Lib.occAt
  by_cases h : j < l.length
  · rw [List.drop_eq_getElem_cons h, List.getElem?_eq_getElem h]
    generalize l[j] = d
    by_cases e : d = c
    · subst e; simp
    · rw [List.isPrefixOf_cons_cons, beq_eq_false_iff_ne.2 (fun k => e k.symm), Bool.false_and, decide_eq_false (fun k => e (Option.some.inj k))]
  · rw [List.drop_of_length_le (by omega), List.getElem?_eq_none (by omega)]
    simp
theorem one_hit {c : UInt8} {s : ByteArray} {i : Nat} (h : Hit s ⟨#[c]⟩ i) : ahd c (L s) = L (s.extract 0 i) ∧ bhd c (L s) = L (s.extract (i + 1) s.size) := by
  have e := congrArg L (hit_parts h)
  rw [L_app, L_app, show L ⟨#[c]⟩ = [c] from rfl] at e
  have no : ∀ x ∈ L (s.extract 0 i), x ≠ c := by
    intro x hx k
    subst k
    obtain ⟨j, hj, he⟩ := List.getElem_of_mem hx
    have h1 : j < i := by rw [L_ext] at hj; simp at hj; omega
    have := h.2.2.2 j h1
    rw [show L ⟨#[x]⟩ = [x] from rfl, occ_one] at this
    have k := of_decide_eq_false this
    apply k
    rw [← e, List.append_assoc, List.getElem?_append_left hj, List.getElem?_eq_getElem hj, he]
  rw [List.append_assoc, List.singleton_append] at e
  obtain ⟨a, b⟩ := ahd_some no (L (s.extract (i + (ByteArray.mk #[c]).size) s.size))
  rw [e] at a b
  exact ⟨a, b⟩
theorem one_miss {c : UInt8} {s : ByteArray} (h : Miss s ⟨#[c]⟩) : ahd c (L s) = L s ∧ bhd c (L s) = [] := by
  refine ahd_none fun x hx k => ?_
  subst k
  obtain ⟨j, hj, he⟩ := List.getElem_of_mem hx
  rcases h with h | h
  · cases h
  · have := h j (by have : (L s).length = s.size := rfl; omega)
    rw [show L ⟨#[x]⟩ = [x] from rfl, occ_one] at this
    apply of_decide_eq_false this
    rw [List.getElem?_eq_getElem hj, he]
theorem cut_at (c : UInt8) {w : World} (T : lines.ML w) (s : List UInt8) (hs : s.length < 4294967281) :
    Calls Tryz.prog 24 #[.string (B s), .string ⟨#[c]⟩] w fun e w' => ∃ f, e = .returned (.tuple #[.string (B (ahd c s)), .string (B (bhd c s)), .bool f]) ∧ Below w.heap.size w w' := by
  have hz : (B s).size < 4294967281 := by rw [B_size]; exact hs
  rcases hit_or (B s) ⟨#[c]⟩ with hm | ⟨i, hi⟩
  · refine (lines.cut_miss T w (Below.refl _ _) (B s) ⟨#[c]⟩ hz hm).mono ?_
    rintro e w' ⟨rfl, hb⟩
    obtain ⟨a, b⟩ := one_miss hm
    rw [L_B] at a b
    rw [a, b]
    exact ⟨_, rfl, hb⟩
  · refine (lines.cut_hit T w (Below.refl _ _) (B s) ⟨#[c]⟩ i hz hi).mono ?_
    rintro e w' ⟨rfl, hb⟩
    obtain ⟨a, b⟩ := one_hit hi
    rw [L_B] at a b
    rw [a, b, B_L, B_L]
    exact ⟨_, rfl, hb⟩
theorem part_at (x : List UInt8) (w : World) (hx : x.length < 4294967281) : Calls Tryz.prog 31 #[.string (B x)] w fun e w' => e = .returned (.tuple #[.int .i64 (cpI x), .bool (cpT x)]) ∧ Below w.heap.size w w' := by
  have hz := B_size x
  have C := Lib.hid (lines.number_at (B x) w (by rw [hz]; exact hx))
  unfold lines.NTold at C
  rw [L_B] at C
  by_cases h : 2 < x.length
  · have E : Hid (cpI x = 0 ∧ cpT x = false) := by
      show _ ∧ _
      unfold cpI cpT cpt
      rw [if_pos h]
      exact ⟨rfl, rfl⟩
    rw [← hz] at h
    have t1 : decide ((((B x).size : Nat) : Int) > 2) = true := by simp; omega
    have t2 : decide (2 < (((B x).size : Nat) : Int)) = true := by simp; omega
    have t3 : decide (2 < (B x).size) = true := by simp; omega
    clear C hz
    go_enter Tryz.func31, Tryz.ntmps31
    go_wp2
    go_ret2
    exact ⟨ret_ib E.out.1.symm E.out.2.symm, Below.refl _ _⟩
  · have E : Hid (cpI x = nmI x ∧ cpT x = nmT x) := by
      show _ ∧ _
      unfold cpI cpT cpt nmI nmT
      rw [if_neg h]
      exact ⟨rfl, rfl⟩
    rw [← hz] at h
    have t1 : decide ((((B x).size : Nat) : Int) > 2) = false := by simp; omega
    have t2 : decide (2 < (((B x).size : Nat) : Int)) = false := by simp; omega
    have t3 : decide (2 < (B x).size) = false := by simp; omega
    clear hz
    generalize nmI x = n at *
    generalize nmT x = b at *
    go_enter Tryz.func31, Tryz.ntmps31
    go_wp2_with (go_at_call 55; with_reducible refine C.out.mono ?_; rintro e w1 ⟨rfl, hb1⟩)
    go_ret2
    exact ⟨ret_ib E.out.1.symm E.out.2.symm, hb1⟩
theorem second_at (a b c : Int) (W : World) : Calls Tryz.prog 32 #[.int .i64 a, .int .i64 b, .int .i64 c] W fun e w' => e = .returned (.tuple #[.int .i64 (if clkB a b c = true then secN a b c else 0), .bool (clkB a b c)]) ∧ W = w' := by
  cases h : clkB a b c with
  | true =>
    rw [if_pos rfl]
    exact stamp.second_yes a b c _ W ((clkB_iff _ _ _).1 h) rfl
  | false =>
    rw [if_neg (by decide)]
    exact stamp.second_no a b c W (fun k => by rw [(clkB_iff _ _ _).2 k] at h; cases h)
set_option maxHeartbeats 2000000 in
theorem clock_at (s : List UInt8) (w : World) (T : lines.ML w) (hs : s.length < 4294967281) : Calls Tryz.prog 12 #[.string (B s)] w fun e w' => e = .returned (.tuple #[.int .i64 (clkI s), .bool (clkT s)]) ∧ Below w.heap.size w w' := by
  have l1 := ahd_len 58 s
  have l2 := ahd_len 58 (bhd 58 s)
  have C1 : Hid (∀ W, Below w.heap.size w W → Calls Tryz.prog 24 #[.string (B s), .string ⟨#[58]⟩] W fun e w' => ∃ f, e = .returned (.tuple #[.string (B (ahd 58 s)), .string (B (bhd 58 s)), .bool f]) ∧ Below W.heap.size W w') := fun W hb => cut_at 58 (T.below hb) s hs
  have C2 : Hid (∀ W, Below w.heap.size w W → Calls Tryz.prog 24 #[.string (B (bhd 58 s)), .string ⟨#[58]⟩] W fun e w' => ∃ f, e = .returned (.tuple #[.string (B (c2 s)), .string (B (c3 s)), .bool f]) ∧ Below W.heap.size W w') := fun W hb => cut_at 58 (T.below hb) _ (by omega)
  have P1 := Lib.hid (fun W => part_at (c1 s) W (by unfold c1; omega))
  have P2 := Lib.hid (fun W => part_at (c2 s) W (by unfold c2; omega))
  have P3 := Lib.hid (fun W => part_at (c3 s) W (by unfold c3; omega))
  have E : Hid (clkT s = (cpT (c1 s) && (cpT (c2 s) && (cpT (c3 s) && clkB (cpI (c1 s)) (cpI (c2 s)) (cpI (c3 s)))))) := rfl
  have E2 : Hid (clkI s = if (cpT (c1 s) && (cpT (c2 s) && cpT (c3 s))) = true then (if clkB (cpI (c1 s)) (cpI (c2 s)) (cpI (c3 s)) = true then secN (cpI (c1 s)) (cpI (c2 s)) (cpI (c3 s)) else 0) else 0) := by
    show _ = _
    unfold clkI clkT
    cases cpT (c1 s) <;> cases cpT (c2 s) <;> cases cpT (c3 s) <;> simp
  have S := Lib.hid (fun W => second_at (cpI (c1 s)) (cpI (c2 s)) (cpI (c3 s)) W)
  rw [show ahd 58 s = c1 s from rfl] at C1
  generalize clkT s = kT at *
  generalize clkI s = kI at *
  generalize c1 s = x1 at *
  generalize c2 s = x2 at *
  generalize c3 s = x3 at *
  generalize bhd 58 s = r1 at *
  generalize cpI x1 = i1 at *
  generalize cpI x2 = i2 at *
  generalize cpI x3 = i3 at *
  generalize cpT x1 = b1 at *
  generalize cpT x2 = b2 at *
  generalize cpT x3 = b3 at *
  generalize (if clkB i1 i2 i3 = true then secN i1 i2 i3 else 0) = sI at *
  generalize clkB i1 i2 i3 = sT at *
  clear T l1 l2
  cases b1 <;> cases b2 <;> cases b3
  all_goals
    go_enter Tryz.func12, Tryz.ntmps12
    go_wp2_with (first
      | (go_at_call 24; first
        | (with_reducible refine (C1.out _ (Below.refl _ _)).mono ?_; rintro e w1 ⟨f1, rfl, hb1⟩; clear C1)
        | (with_reducible refine (C2.out _ hb1).mono ?_; rintro e w2 ⟨f2, rfl, hb2⟩; have hb2 := btr hb1 hb2))
      | (go_at_call 31; first
        | (with_reducible refine (P1.out _).mono ?_; rintro e w3 ⟨rfl, hb3⟩; clear P1; have hb3 := btr hb2 hb3)
        | (with_reducible refine (P2.out _).mono ?_; rintro e w4 ⟨rfl, hb4⟩; clear P2; have hb4 := btr hb3 hb4)
        | (with_reducible refine (P3.out _).mono ?_; rintro e w5 ⟨rfl, hb5⟩; clear P3; have hb5 := btr hb4 hb5))
      | (go_at_call 32; with_reducible refine (S.out _).mono ?_; rintro e w6 ⟨rfl, rfl⟩))
    go_ret2
    exact ⟨ret_ib E2.out.symm E.out.symm, hb5⟩
end Go.Proofs.YtpkohihnocblfaaGreatDoor.zic

/-
  What lines.Split answers: the lines of a text, in new memory. Conditions: the library's variable MaxLen holds some number; the text has fewer than 2^32 - 15 bytes.
-/
namespace Go.Proofs.YtpkohihnocblfaaGreatDoor.lines
open Go.ChangeShapes Go.WideShapes Go.ChangeAt Go.RowKit
open lx
set_option linter.unusedVariables false
set_option maxRecDepth 100000

/-- what a function that answers a row of texts leaves. -/
def Told (W : World) (l : List ByteArray) (e : Ending) (w' : World) : Prop := ∃ A c, e = .returned (.slice A l.length c) ∧ Strs w' A l ∧ (l.length ≤ c ∧ ∀ b o, A = some ⟨b, o, none⟩ → W.heap.size ≤ b) ∧ Below W.heap.size W w'
def szOf : Value → Nat
  | .string s => s.size
  | _ => 0
/-- at the head of a round. -/
def SHead (s : ByteArray) (w : World) (t v : Value) (W : World) : Prop :=
  ∃ (r : ByteArray) (ls : List ByteArray) (x : Value), t = .string r ∧ x = v ∧ W.ownsRow w.heap.size 9 1 v ls.length (ls.map Value.string) ∧ ls.map L ++ spl [] (L r) = spl [] (L s) ∧ ls.length + r.size ≤ s.size ∧ Below w.heap.size w W
theorem shead_step {s : ByteArray} {w W W1 : World} {v v' : Value} {ls : List ByteArray} {r x r' : ByteArray} (e : ls.map L ++ spl [] (L r) = spl [] (L s)) (ex : spl [] (L r) = trim (L x) :: spl [] (L r')) (hz : ls.length + r.size ≤ s.size) (hr : r'.size < r.size)
    (ho : W.ownsRow w.heap.size 9 1 v ls.length (ls.map Value.string)) (hb : Below w.heap.size w W)
    (ho' : W1.ownsRow w.heap.size 9 1 v' (ls ++ [B (trim (L x))]).length ((ls ++ [B (trim (L x))]).map Value.string)) {n : Nat} (hg : (W.drewN n).grownBy W1 v.ownBlock) : SHead s w (.string r') v' W1 := by
  refine ⟨r', ls ++ [B (trim (L x))], v', rfl, rfl, ho', ?_, by simp; omega, (below_drewN hb n).grown hg hb.size fun k hk => (ho.lt k hk).1⟩
  rw [← e, ex, List.map_append, List.map_cons, L_B, List.map_nil, List.append_assoc, List.singleton_append]
theorem split_end {s : ByteArray} {w W : World} {v : Value} {ls : List ByteArray} {r : ByteArray} (e : ls.map L ++ spl [] (L r) = spl [] (L s)) (h0 : r.size = 0) (ho : W.ownsRow w.heap.size 9 1 v ls.length (ls.map Value.string)) (hb : Below w.heap.size w W) :
    Told w (splitS s) (.returned v) W := by
  obtain rfl := tl_nil h0
  have e2 : splitS s = ls := by
    unfold splitS
    rw [← e, show spl [] (L ⟨#[]⟩) = [] from rfl, List.append_nil, map_BL]
  rw [e2]
  obtain ⟨A, c, rfl, hs, hc⟩ := Strs.of_own ho
  exact ⟨A, c, rfl, hs, ⟨hc, fun b o e => (ho.lt b (by rw [e]; rfl)).1⟩, hb⟩

set_option maxHeartbeats 1000000 in
theorem split_at (s : ByteArray) (w : World) (T : ML w) (hs : s.size < 4294967281) : Calls Tryz.prog 22 #[.string s] w (Told w (splitS s)) := by
  go_enter Tryz.func22, Tryz.ntmps22
  go_wp2
  go_loopw [0, 3] (fun t v W => SHead s w t v W) (fun t _ _ => szOf t)
  case atStart => exact ⟨s, [], _, rfl, rfl, World.ownsRow_nil _ _ _ _, rfl, by simp, Below.refl _ _⟩
  case round =>
    obtain ⟨r, ls, v, rfl, rfl, ho, e, hz, hb⟩ := hrel
    have HO := fun n => Lib.hid (show (wr.drewN n).ownsRow w.heap.size 9 1 v ls.length (ls.map Value.string) from ho)
    by_cases h0 : r.size = 0
    · have E := Lib.hid (split_end e h0 ho hb)
      obtain rfl := tl_nil h0
      clear e
      go_wp2
      go_ret
      exact E.out
    · have t1 := tl_ne (show 0 < r.size by omega)
      have E := Lib.hid e
      have Tr := T.below hb
      rcases hit_or r lf with hm | ⟨i, hi2⟩
      · have C := Lib.hid (lf_miss_on Tr r (by omega) hm)
        have R := Lib.hid (fun W => ts_is r W (by omega))
        have X : Hid (spl [] (L r) = trim (L r) :: spl [] (L ⟨#[]⟩)) := lf_miss hm h0
        have SZ : Hid ((⟨#[]⟩ : ByteArray).size < r.size) := (show 0 < r.size by omega)
        clear e hm
        go_wp2_with (first
          | (go_at_call 48; (with_reducible refine C.out.mono ?_); rintro e w' ⟨rfl, n, rfl⟩)
          | (go_at_call 46; (with_reducible refine (R.out _).mono ?_); rintro e w' ⟨rfl, rfl⟩)
          | (at_builtin; refine app_one rfl _ _ rfl w.heap.size (wr.drewN _) v ls _ rfl rfl (HO _).out (by omega) hb.size ?_; intro v' w1 ho' hg))
        go_roundw
        case rel => exact shead_step E.out X.out hz SZ.out ho hb ho' hg
        case measure => exact SZ.out
      · have C := Lib.hid (lf_hit_on Tr r i (by omega) hi2)
        have X := Lib.hid (lf_hit hi2)
        have hi3 := hi2.2.1
        have z : lf.size = 1 := rfl
        have SZ : Hid ((r.extract (i + 1) r.size).size < r.size) := by
          show (r.extract (i + 1) r.size).size < r.size
          simp
          omega
        have R := Lib.hid (fun W => ts_is (r.extract 0 i) W (by simp; omega))
        clear e hi2 z
        generalize r.extract 0 i = x at *
        generalize r.extract (i + 1) r.size = r' at *
        go_wp2_with (first
          | (go_at_call 48; (with_reducible refine C.out.mono ?_); rintro e w' ⟨rfl, n, rfl⟩)
          | (go_at_call 46; (with_reducible refine (R.out _).mono ?_); rintro e w' ⟨rfl, rfl⟩)
          | (at_builtin; refine app_one rfl _ _ rfl w.heap.size (wr.drewN _) v ls _ rfl rfl (HO _).out (by omega) hb.size ?_; intro v' w1 ho' hg))
        go_roundw
        case rel => exact shead_step E.out X.out hz SZ.out ho hb ho' hg
        case measure => exact SZ.out
theorem split_on {w : World} (T : ML w) (W : World) (hb : Below w.heap.size w W) (s : ByteArray) (hs : s.size < 4294967281) : Calls Tryz.prog 22 #[.string s] W (Told W (splitS s)) := split_at s W (T.below hb) hs
end Go.Proofs.YtpkohihnocblfaaGreatDoor.lines
