/-
  What list.Parse answers: the table of a list, or what is wrong of it, as plain mathematics tells (ls.parse). Conditions: the tables of package day hold what their initialisers lay, and package sha's variable start; the library's variable MaxLen holds some number; the text has at most 300000 bytes.
-/
import Derived.Test.YtldieebiicblbaaGreatDoorG19
import Derived.Test.YtldieebiicblbaaGreatDoorG16
import Derived.Test.YtldieebiicblbaaGreatDoorG10
import Derived.Lib.QuietBelow
namespace Go.Proofs.YtldieebiicblbaaGreatDoor.list
open Go.ChangeShapes Go.WideShapes Go.ChangeAt Go.RowKit
open lx ls mem
open sx (cs dig sumV word)
open sha (nats)
open lm (Lp ce)
open leap (tcs Lps)
set_option linter.unusedVariables false
set_option maxRecDepth 100000

/-! the reading, once more -/
theorem run_ct : ∀ (ls : List (List UInt8)) (k : Nat) (s : S), (0 ≤ s.ct ∧ s.ct ≤ 9223372036854775807) → 0 ≤ (run ls k s).2.ct ∧ (run ls k s).2.ct ≤ 9223372036854775807
  | [], _, _, h => h
  | l :: r, k, s, h => by
    by_cases e : stE l s = 0
    · rw [run_go e]
      refine run_ct r (k + 1) _ ?_
      unfold stS
      simp only
      split
      · exact g2_bd l
      · exact h
    · rw [run_no e]
      exact h
theorem run_len (ls : List (List UInt8)) : (run ls 0 S0).2.lv.length ≤ 200 := (lm.good_of (run_inv ls 0 S0 inv_zero).1.good).len
theorem run_snoc {pre : List (List UInt8)} {s : S} {l : List UInt8} (h : run pre 0 S0 = ((0, 0), s)) (e : stE l s = 0) : run (pre ++ [l]) 0 S0 = ((0, 0), stS l (pre.length + 1) s) := by
  rw [run_app, h, if_pos rfl, run_go e, run_nil, Nat.zero_add]
theorem run_bad {pre r : List (List UInt8)} {s : S} {l : List UInt8} (h : run pre 0 S0 = ((0, 0), s)) (e : stE l s ≠ 0) : parse (pre ++ l :: r) = bad (pre.length + 1) (stE l s) := by
  have : run (pre ++ l :: r) 0 S0 = ((pre.length + 1, stE l s), s) := by rw [run_app, h, if_pos rfl, run_no e, Nat.zero_add]
  unfold parse
  rw [this, if_pos e]
theorem run_fin {ls : List (List UInt8)} {s : S} (h : run ls 0 S0 = ((0, 0), s)) : parse ls = fin ls.length (hq ls) s := by
  unfold parse
  rw [h, if_neg (fun k => k rfl)]

/-! what Parse leaves -/
def fcs (n : Nat) (c : Int) : Array Value := #[.int .i64 (n : Nat), .int .i64 c]
def PTold (o : Out) (w : World) (e : Ending) (w' : World) : Prop :=
  ∃ A c, e = .returned (.tuple #[.agg (tcs A o.lv.length c o.has o.x), .agg (fcs o.line o.code)]) ∧ Lps w' A o.lv ∧ o.lv.length ≤ c ∧ Below w.heap.size w w'
theorem szF : (Tryz.prog.info? 29).map (·.size) = some 2 := by kernel_rfl
theorem fcs_one (n : Nat) (c : Int) : (fcs n c).all (·.oneCell') = true := by simp [fcs, Value.oneCell']
theorem end_two {fn : Func} {R : Ending → World → Prop} {p q : Tmp} {ty tz : TypeId} (hr : fn.results = #[.cell p ty, .cell q tz]) (a : Act) (w : World) (g k : Nat) (t u : TypeId) (c d : Array Value) (fs fz : Array Field)
    (hp : a.tmps.getD p undef = .pointer (some ⟨g, 0, none⟩)) (hq : a.tmps.getD q undef = .pointer (some ⟨k, 0, none⟩)) (hg : w.heap[g]? = some (.cells c t (0, 0))) (hk : w.heap[k]? = some (.cells d u (0, 0)))
    (hu : Tryz.prog.underlying ty = some (.struct fs)) (hv : Tryz.prog.underlying tz = some (.struct fz))
    (hi : (Tryz.prog.info? ty).map (·.size) = some c.size) (hj : (Tryz.prog.info? tz).map (·.size) = some d.size) (hdf : a.defers = []) (h : R (.returned (.tuple #[.agg c, .agg d])) w) : bodyPost Tryz.prog fn R .ret a w := by
  refine bodyPost_ret (v := .tuple #[.agg c, .agg d]) ?_ hdf h
  have hp' : a.tmps[p]?.getD undef = .pointer (some ⟨g, 0, none⟩) := by simpa using hp
  have hq' : a.tmps[q]?.getD undef = .pointer (some ⟨k, 0, none⟩) := by simpa using hq
  simp [results, hr, hp', hq', asAddr, run_loadVar_row w g t ty c (0, 0) _ hg hu rfl hi, run_loadVar_row w k u tz d (0, 0) _ hk hv rfl hj]
theorem ptold_two {w W : World} {o : Out} {A : Option Addr} {c : Nat} (hl : Lps W A o.lv) (hc : o.lv.length ≤ c) (hb : Below w.heap.size w W) (hne : ∀ g p, A = some ⟨g, p, none⟩ → w.heap.size + 1 < g) (tab fl : Array Value) (e : Ending) (he : e = .returned (.tuple #[.agg (tcs A o.lv.length c o.has o.x), .agg (fcs o.line o.code)])) :
    PTold o w e ((W.setRow w.heap.size tab).setRow (w.heap.size + 1) fl) := by
  refine ⟨A, c, he, ?_, hc, bel_setRow (bel_setRow hb (Nat.le_refl _) _) (by omega) _⟩
  intro hn
  obtain ⟨g, o', e', hlt, hcell⟩ := hl hn
  have := hne g o' e'
  refine ⟨g, o', e', by simpa using hlt, fun k hk => ?_⟩
  have hbk : ((W.setRow w.heap.size tab).setRow (w.heap.size + 1) fl).heap[g]? = W.heap[g]? := by rw [setRow_other _ _ _ _ (by omega), setRow_other _ _ _ _ (by omega)]
  obtain ⟨c0, c1, c2⟩ := hcell k hk
  exact ⟨(World.cell?_of_block (a := ⟨g, _, none⟩) hbk).trans c0, (World.cell?_of_block (a := ⟨g, _, none⟩) hbk).trans c1, (World.cell?_of_block (a := ⟨g, _, none⟩) hbk).trans c2⟩
/-- at the head of a round. -/
def PHead (X : List ByteArray) (A : Option Addr) (w : World) (t : Value) (W : World) : Prop :=
  ∃ (j : Nat) (s : S), t = .int .i64 (j : Nat) ∧ j ≤ X.length ∧ RS (w.heap.size + 3) (w.heap.size + 2) s W ∧ MP (w.heap.size + 2) j s W ∧ run ((X.take j).map L) 0 S0 = ((0, 0), s) ∧ Below w.heap.size w W ∧ lines.Strs W A X ∧
    W.heap[w.heap.size]? = some (.cells (tcs none 0 0 false 0) 24 (0, 0)) ∧ W.heap[w.heap.size + 1]? = some (.cells (fcs 0 0) 29 (0, 0))
/-- the start: two results, a map, a box. -/
theorem pstart (w : World) {X : List ByteArray} {A : Option Addr} {W0 W1 : World} (hW : W0 = (((w.alloc (.cells #[.slice none 0 0, .bool false, .int .i64 0] 24)).alloc (.cells #[.int .i64 0, .int .i64 0] 29)).alloc (.map #[] 0)).alloc (.cells (rc (w.heap.size + 2) none 0 0 S0) 45))
    (hb1 : Below W0.heap.size W0 W1) (hS : lines.Strs W1 A X) : PHead X A w (.int .i64 0) W1 := by
  subst hW
  have hsz : ((((w.alloc (.cells #[.slice none 0 0, .bool false, .int .i64 0] 24)).alloc (.cells #[.int .i64 0, .int .i64 0] 29)).alloc (.map #[] 0)).alloc (.cells (rc (w.heap.size + 2) none 0 0 S0) 45)).heap.size = w.heap.size + 4 := by simp
  have hG : Pm (w.heap.size + 2) 0 (.map []) ((((w.alloc (.cells #[.slice none 0 0, .bool false, .int .i64 0] 24)).alloc (.cells #[.int .i64 0, .int .i64 0] 29)).alloc (.map #[] 0)).alloc (.cells (rc (w.heap.size + 2) none 0 0 S0) 45)) := by
    have := World.ownsMap_made (H := Unit) ((w.alloc (.cells #[.slice none 0 0, .bool false, .int .i64 0] 24)).alloc (.cells #[.int .i64 0, .int .i64 0] 29)) Tryz.prog 9 (plainElem Tryz.prog 3)
    rw [show ((w.alloc (.cells #[.slice none 0 0, .bool false, .int .i64 0] 24)).alloc (.cells #[.int .i64 0, .int .i64 0] 29)).heap.size = w.heap.size + 2 by simp] at this
    exact this.alloc _
  have hR : RS (w.heap.size + 3) (w.heap.size + 2) S0 ((((w.alloc (.cells #[.slice none 0 0, .bool false, .int .i64 0] 24)).alloc (.cells #[.int .i64 0, .int .i64 0] 29)).alloc (.map #[] 0)).alloc (.cells (rc (w.heap.size + 2) none 0 0 S0) 45)) := by
    have := hp_new (((w.alloc (.cells #[.slice none 0 0, .bool false, .int .i64 0] 24)).alloc (.cells #[.int .i64 0, .int .i64 0] 29)).alloc (.map #[] 0)) (.cells (rc (w.heap.size + 2) none 0 0 S0) 45)
    rw [show (((w.alloc (.cells #[.slice none 0 0, .bool false, .int .i64 0] 24)).alloc (.cells #[.int .i64 0, .int .i64 0] 29)).alloc (.map #[] 0)).heap.size = w.heap.size + 3 by simp] at this
    exact ⟨none, 0, this, fun h => absurd rfl h, Nat.le_refl _, fun g o e => by cases e⟩
  refine ⟨0, S0, rfl, Nat.zero_le _, rs_below hR hb1, ⟨_, fun _ => 0, pm_below hG hb1, fun i hi => rfl, fun i hi => rfl⟩, rfl, btr (bal (bal (bal (bal (Below.refl _ _) _) _) _) _) hb1, hS, ?_, ?_⟩
  · rw [hb1.block w.heap.size (by omega)]
    exact hp_old (hp_old (hp_old (hp_new w _) _) _) _
  · rw [hb1.block (w.heap.size + 1) (by omega)]
    exact hp_old (hp_old (hp_new1 w _ _) _) _
theorem pstep {X : List ByteArray} {A : Option Addr} {w W W' : World} {j : Nat} {s : S} {x : ByteArray} (hj : j < X.length) (hx : X[j] = x) (hr : run ((X.take j).map L) 0 S0 = ((0, 0), s)) (hb : Below w.heap.size w W) (hS : lines.Strs W A X) (hA : ∀ g o, A = some ⟨g, o, none⟩ → w.heap.size + 3 < g)
    (h1 : W.heap[w.heap.size]? = some (.cells (tcs none 0 0 false 0) 24 (0, 0))) (h2 : W.heap[w.heap.size + 1]? = some (.cells (fcs 0 0) 29 (0, 0))) (hsz : w.heap.size + 3 < W.heap.size)
    (hk : But (w.heap.size + 3) (w.heap.size + 2) W W') (he : stE (L x) s = 0) (hR : RS (w.heap.size + 3) (w.heap.size + 2) (stS (L x) (j + 1) s) W') (hM : MP (w.heap.size + 2) (j + 1) (stS (L x) (j + 1) s) W') : PHead X A w (.int .i64 ((j : Int) + 1)) W' := by
  refine ⟨j + 1, _, rfl, hj, hR, hM, ?_, hk.to_below hb (by omega) (by omega) (by omega), strs_but hS hk (fun g o e => by have := hA g o e; omega), ?_, ?_⟩
  · have := run_snoc hr he
    rw [List.length_map, List.length_take, Nat.min_eq_left (by omega)] at this
    rw [List.take_succ_eq_append_getElem hj, hx, List.map_append, List.map_cons, List.map_nil]
    exact this
  · rw [hk.block w.heap.size (by omega) (by omega) (by omega)]; exact h1
  · rw [hk.block (w.heap.size + 1) (by omega) (by omega) (by omega)]; exact h2
theorem pbad {X : List ByteArray} {j : Nat} {s : S} {x : ByteArray} (hj : j < X.length) (hx : X[j] = x) (hr : run ((X.take j).map L) 0 S0 = ((0, 0), s)) (he : stE (L x) s ≠ 0) : parse (X.map L) = bad (j + 1) (stE (L x) s) := by
  have e : X.map L = (X.take j).map L ++ L x :: (X.drop (j + 1)).map L := by
    rw [← List.map_cons, ← List.map_append, ← hx, ← List.drop_eq_getElem_cons hj, List.take_append_drop]
  rw [e, run_bad hr he, List.length_map, List.length_take, Nat.min_eq_left (by omega)]
/-- all that stands behind the loop. -/
def rc2 (m : Nat) (A : Option Addr) (n c : Nat) (s : S) (has : Bool) (x : Int) : Array Value :=
  #[.map (some m), .slice A n c, .bool has, .int .i64 x, .int .i64 s.ct, .int .i64 s.ex, .int .u32 (s.h 0 : Nat), .int .u32 (s.h 1 : Nat), .int .u32 (s.h 2 : Nat), .int .u32 (s.h 3 : Nat), .int .u32 (s.h 4 : Nat)]
structure Rdy (X : List ByteArray) (s : S) (D : DataW Unit) (A : Option Addr) (c : Nat) (has : Bool) (x : Int) (w W : World) : Prop where
  box : W.heap[w.heap.size + 3]? = some (.cells (rc2 (w.heap.size + 2) A s.lv.length c s has x) 45 (0, 0))
  pm : Pm (w.heap.size + 2) X.length D W
  z1 : W.heap[w.heap.size]? = some (.cells (tcs none 0 0 false 0) 24 (0, 0))
  z2 : W.heap[w.heap.size + 1]? = some (.cells (fcs 0 0) 29 (0, 0))
  lps : Lps W A s.lv
  bel : Below w.heap.size w W
  size : w.heap.size + 3 < W.heap.size
theorem rdy_below {X : List ByteArray} {s : S} {D : DataW Unit} {A : Option Addr} {c : Nat} {has : Bool} {x : Int} {w W W' : World} (h : Rdy X s D A c has x w W) (hb : Below W.heap.size W W') : Rdy X s D A c has x w W' :=
  ⟨kept h.box hb, pm_below h.pm hb, kept h.z1 hb, kept h.z2 hb, h.lps.below hb, btr h.bel hb, Nat.lt_of_lt_of_le h.size hb.size⟩
theorem rdy_fl {X : List ByteArray} {s : S} {D : DataW Unit} {A : Option Addr} {c : Nat} {has : Bool} {x : Int} {w W : World} (h : Rdy X s D A c has x w W) (tab : Array Value) : (W.setRow w.heap.size tab).heap[w.heap.size + 1]? = some (.cells (fcs 0 0) 29 (0, 0)) := by
  rw [setRow_other _ _ _ _ (by omega)]; exact h.z2
theorem rdy_cells {X : List ByteArray} {s : S} {D : DataW Unit} {A : Option Addr} {c : Nat} {has : Bool} {x : Int} {w W : World} (h : Rdy X s D A c has x w W) : W.cell? ⟨w.heap.size + 1 + 1 + 1, 0, none⟩ = some (.map (some (w.heap.size + 1 + 1))) ∧ W.cell? ⟨w.heap.size + 1 + 1 + 1, 1, none⟩ = some (.slice A s.lv.length c) ∧ W.cell? ⟨w.heap.size + 1 + 1 + 1, 2, none⟩ = some (.bool has) ∧ W.cell? ⟨w.heap.size + 1 + 1 + 1, 3, none⟩ = some (.int .i64 x) ∧
    ∀ j, W.frozen? ⟨w.heap.size + 1 + 1 + 1, j, none⟩ = false := ⟨row_cell h.box 0, row_cell h.box 1, row_cell h.box 2, row_cell h.box 3, fun j => frozen_of_row _ _ _ _ _ h.box⟩
theorem rdy_hash {X : List ByteArray} {s : S} {D : DataW Unit} {A : Option Addr} {c : Nat} {has : Bool} {x : Int} {w W : World} (h : Rdy X s D A c has x w W) : W.cell? ⟨w.heap.size + 1 + 1 + 1, 6, none⟩ = some (.int .u32 (s.h 0 : Nat)) ∧ W.cell? ⟨w.heap.size + 1 + 1 + 1, 7, none⟩ = some (.int .u32 (s.h 1 : Nat)) ∧ W.cell? ⟨w.heap.size + 1 + 1 + 1, 8, none⟩ = some (.int .u32 (s.h 2 : Nat)) ∧ W.cell? ⟨w.heap.size + 1 + 1 + 1, 9, none⟩ = some (.int .u32 (s.h 3 : Nat)) ∧ W.cell? ⟨w.heap.size + 1 + 1 + 1, 10, none⟩ = some (.int .u32 (s.h 4 : Nat)) :=
  ⟨row_cell h.box 6, row_cell h.box 7, row_cell h.box 8, row_cell h.box 9, row_cell h.box 10⟩
theorem rdy_fz1 {X : List ByteArray} {s : S} {D : DataW Unit} {A : Option Addr} {c : Nat} {has : Bool} {x : Int} {w W : World} (h : Rdy X s D A c has x w W) (j : Nat) : (W.setCell ⟨w.heap.size + 1 + 1 + 1, 2, none⟩ (.bool true)).frozen? ⟨w.heap.size + 1 + 1 + 1, j, none⟩ = false := frozen_of_row _ _ _ _ _ (setCell_heap h.box)
theorem rdy_c1 {X : List ByteArray} {s : S} {D : DataW Unit} {A : Option Addr} {c : Nat} {has : Bool} {x : Int} {w W : World} (h : Rdy X s D A c has x w W) : (W.setCell ⟨w.heap.size + 1 + 1 + 1, 2, none⟩ (.bool true)).cell? ⟨w.heap.size + 1 + 1 + 1, 3, none⟩ = some (.int .i64 x) := row_cell (setCell_heap (j := 2) (v := .bool true) h.box) 3
theorem rdy_set {X : List ByteArray} {s : S} {D : DataW Unit} {A : Option Addr} {c : Nat} {w W : World} (h : Rdy X s D A c false 0 w W) (hA : ∀ g p, A = some ⟨g, p, none⟩ → g ≠ w.heap.size + 3) : Rdy X s D A c true s.ex w ((W.setCell ⟨w.heap.size + 1 + 1 + 1, 2, none⟩ (.bool true)).setCell ⟨w.heap.size + 1 + 1 + 1, 3, none⟩ (.int .i64 s.ex)) := by
  have K : sha.Keep (w.heap.size + 3) W ((W.setCell ⟨w.heap.size + 1 + 1 + 1, 2, none⟩ (.bool true)).setCell ⟨w.heap.size + 1 + 1 + 1, 3, none⟩ (.int .i64 s.ex)) := ((sha.Keep.refl _ W).setCell 2 _).setCell 3 _
  refine ⟨setCell_heap (setCell_heap h.box), pm_keep h.pm K (by omega), ?_, ?_, lps_but h.lps (But.of_keep (m := w.heap.size + 3) K) (fun g p e => ⟨hA g p e, hA g p e⟩), K.to_below h.bel (by omega) h.bel.size, Nat.lt_of_lt_of_le h.size K.size⟩
  · rw [K.block w.heap.size (by have := h.size; omega) (by omega)]; exact h.z1
  · rw [K.block (w.heap.size + 1) (by have := h.size; omega) (by omega)]; exact h.z2
theorem eq_h5 (f g : Nat → Nat) (W : World) : (Op.equalIn 10000 43 (.agg (cs .u32 f 5)) (.agg (cs .u32 g 5))).run Tryz.prog W = .ok (ls.h5 f g) W := by
  rw [sha.eq5]
  have : sha.same f g 5 = ls.h5 f g := by
    rw [Bool.eq_iff_iff, sha.same_iff, h5_iff]
  rw [this]
set_option maxHeartbeats 4000000 in
theorem parse_at (s0 : ByteArray) (w : World) (T : day.Tabs w) (TM : lines.ML w) (TS : sha.St w) (hs : s0.size ≤ 300000) : Calls Tryz.prog 6 #[.string s0] w (PTold (parse ((splitS s0).map L)) w) := by
  have hl := lines_len s0
  have LS := Lib.hid (fun (x : ByteArray) (hx : x ∈ splitS s0) => line_size hx)
  have SP : Hid (∀ W, Below w.heap.size w W → Calls Tryz.prog 14 #[.string s0] W (lines.Told W (splitS s0))) := fun W hb => lines.split_at s0 W (TM.below hb) (by omega)
  have HH : Hid (∀ W, Below w.heap.size w W → Calls Tryz.prog 11 #[.string s0] W fun e w' => e = .returned (.agg (cs .u8 (dig (sumV (nats (hsh ((splitS s0).map L))))) 20)) ∧ Below W.heap.size W w') := fun W hb => hash_at s0 W (TM.below hb) (TS.below hb) hs
  unfold lines.Told at SP
  have HP : Hid (∀ X, splitS s0 = X → parse ((splitS s0).map L) = parse (X.map L)) := fun X e => by rw [e]
  generalize splitS s0 = X at *
  have hmm := @run_makeMap Tryz.prog
  go_enter Tryz.func6, Tryz.ntmps6
  go_wp2_with (go_at_call 14; with_reducible refine (SP.out _ (bal (bal (bal (bal (Below.refl _ _) _) _) _) _)).mono ?_; rintro e W1 ⟨A, c, rfl, hS, ⟨hc, hf⟩, hb1⟩)
  have HST := Lib.hid (pstart w rfl hb1 hS)
  have HA : Hid (∀ g o, A = some ⟨g, o, none⟩ → w.heap.size + 3 < g) := fun g o e => by
    have := hf g o e
    simp at this
    omega
  clear hb1 hS hf hc SP
  go_loopw [17] (fun t W => PHead X A w t W) (fun t _ => X.length - (intOf t).toNat)
  case atStart => exact HST.out
  case round =>
    obtain ⟨j, s, rfl, hjn, hR, hM, hrun, hb, hS, hz1, hz2⟩ := hrel
    have hbl := rs_lt hR
    by_cases hlt : j < X.length
    · obtain ⟨g, o, rfl, hgl, hcell⟩ := hS (by intro e; rw [e] at hlt; simp at hlt)
      have c0 := hcell j hlt
      obtain ⟨x, hx⟩ : ∃ x, X[j]'hlt = x := ⟨_, rfl⟩
      rw [hx] at c0
      have hxs := LS.out x (by rw [← hx]; exact List.getElem_mem hlt)
      have hinv := run_inv ((X.take j).map L) 0 S0 inv_zero
      have hln := run_len ((X.take j).map L)
      have hct := run_ct ((X.take j).map L) 0 S0 ⟨by decide, by decide⟩
      rw [hrun] at hln hct
      have TK : Hid (Calls Tryz.prog 15 #[.pointer (some ⟨w.heap.size + 1 + 1 + 1, 0, none⟩), .string x, .int .i64 ((j : Int) + 1)] wr (TL (w.heap.size + 3) (w.heap.size + 2) j (j + 1) (L x) s wr)) :=
        take_at (w.heap.size + 3) (w.heap.size + 2) j (j + 1) s x w wr T TM hb (by omega) (by omega) (by omega) hR hM (by omega) (by omega) (by have : s.lv.length ≤ 200 := hln; omega) hct (by omega)
      unfold TL at TK
      have d1 : decide ((j : Int) < (X.length : Int)) = true := by simp; omega
      have d2 : decide (j < X.length) = true := by simp; omega
      by_cases he : stE (L x) s = 0
      · rw [he] at TK
        have ST := Lib.hid (fun W' hk hR' hM' => pstep (W' := W') hlt hx hrun hb hS HA.out hz1 hz2 hbl hk he hR' hM')
        clear he hcell hR hM hrun hb hS hz1 hz2 hinv hln hct hx HP LS HH HST
        go_wp2_with (go_at_call 15; with_reducible refine TK.out.mono ?_; rintro e w5 ⟨rfl, hk5, h5⟩)
        go_roundw
        case rel => exact ST.out _ hk5 (h5 (by simp)).1 (h5 (by simp)).2
        case measure => simp [intOf]; omega
      · have hbad := pbad hlt hx hrun he
        have t1 : (stE (L x) s != 0) = true := by simpa using he
        have PE : Hid (∀ W', But (w.heap.size + 3) (w.heap.size + 2) wr W' → ∀ tab fl, PTold (parse (X.map L)) w (.returned (.tuple #[.agg (tcs none 0 0 false 0), .agg (fcs (j + 1) (stE (L x) s))])) ((W'.setRow w.heap.size tab).setRow (w.heap.size + 1) fl)) := fun W' hk tab fl => by
          rw [hbad]
          exact ptold_two (A := none) (c := 0) (o := bad (j + 1) (stE (L x) s)) (fun h => absurd rfl h) (Nat.le_refl _) (hk.to_below hb (by omega) (by omega) (by omega)) (fun g p e => by cases e) tab fl _ rfl
        have Z1 : Hid (∀ W', But (w.heap.size + 3) (w.heap.size + 2) wr W' → W'.heap[w.heap.size]? = some (.cells (tcs none 0 0 false 0) 24 (0, 0))) := fun W' hk => by rw [hk.block w.heap.size (by omega) (by omega) (by omega)]; exact hz1
        have Z2 : Hid (∀ W', But (w.heap.size + 3) (w.heap.size + 2) wr W' → ∀ tab, (W'.setRow w.heap.size tab).heap[w.heap.size + 1]? = some (.cells (fcs 0 0) 29 (0, 0))) := fun W' hk tab => by rw [setRow_other _ _ _ _ (by omega), hk.block (w.heap.size + 1) (by omega) (by omega) (by omega)]; exact hz2
        have HPx := HP
        clear he hcell hR hM hrun hb hS hz1 hz2 hinv hln hct hx LS HH HST hbad
        generalize stE (L x) s = E at *
        go_wp2_with (first
          | (go_at_call 15; with_reducible refine TK.out.mono ?_; rintro e w5 ⟨rfl, hk5, _⟩; have Y1 := Lib.hid (Z1.out _ hk5); have Y2 := Lib.hid (Z2.out _ hk5); have Y3 := Lib.hid (PE.out _ hk5))
          | (refine wpList_store_row rfl 24 (.tmp 2) (.tmp 28) rfl w.heap.size (tcs none 0 0 false 0) rfl rfl _ _ Y1.out szTab rfl (leap.tcs_one _ _ _ _ _) ?_)
          | (refine wpList_store_row rfl 29 (.tmp 3) (.tmp 32) rfl (w.heap.size + 1) (fcs (j + 1) E) rfl rfl _ _ (Y2.out _) szF rfl (fcs_one _ _) ?_))
        refine end_two rfl _ _ w.heap.size (w.heap.size + 1) 24 29 (tcs none 0 0 false 0) (fcs (j + 1) E) _ _ rfl rfl ?_ (setRow_heap _ _ _ _ _ _ (Y2.out _)) Tryz.underlying24 Tryz.underlying29 szTab szF rfl (Y3.out _ _)
        rw [setRow_other _ _ _ _ (by omega)]
        exact setRow_heap _ _ _ _ _ _ Y1.out
    · obtain rfl : j = X.length := by omega
      rw [List.take_of_length_le (Nat.le_refl _)] at hrun
      have hfin := run_fin hrun
      rw [List.length_map] at hfin
      have hinv := (run_inv (X.map L) 0 S0 inv_zero).1
      have hln := run_len (X.map L)
      rw [hrun] at hinv hln
      have hln : s.lv.length ≤ 200 := hln
      obtain ⟨D, q, ho, hq', hss⟩ := hM
      have q5 : q 5 = s.p 5 := hss 5 (by unfold Mark; decide)
      have q2 : q 2 = s.p 2 := hss 2 (by unfold Mark; decide)
      have q3 : q 3 = s.p 3 := hss 3 (by unfold Mark; decide)
      have K5 : Hid (keyOf Tryz.prog 9 (.string ⟨#[100, 97, 116, 97]⟩) = some (kl 5)) := key_is 5
      have K2 : Hid (keyOf Tryz.prog 9 (.string ⟨#[35, 64]⟩) = some (kl 2)) := key_is 2
      have K3 : Hid (keyOf Tryz.prog 9 (.string ⟨#[35, 104]⟩) = some (kl 3)) := key_is 3
      have Q5 := Lib.hid (q_is hq' (show 5 ≤ 5 by decide))
      have Q2 := Lib.hid (q_is hq' (show 2 ≤ 5 by decide))
      have Q3 := Lib.hid (q_is hq' (show 3 ≤ 5 by decide))
      obtain ⟨A3, c3, hg3, hl3, hc3, hne3⟩ := hR
      have tok5 : True := trivial
      have tok2 : True := trivial
      have tok3 : True := trivial
      have RW : Rdy X s D A3 c3 false 0 w wr := ⟨hg3, ho, hz1, hz2, hl3, hb, hbl⟩
      have hne4 : ∀ g p, A3 = some ⟨g, p, none⟩ → w.heap.size + 1 < g := fun g p e => by have := (hne3 g p e).2; omega
      have PB : Hid (∀ n cd, parse (X.map L) = bad n cd → ∀ has x W', Rdy X s D A3 c3 has x w W' → ∀ tab fl, PTold (parse (X.map L)) w (.returned (.tuple #[.agg (tcs none 0 0 false 0), .agg (fcs n cd)])) ((W'.setRow w.heap.size tab).setRow (w.heap.size + 1) fl)) := fun n cd e has x W' h tab fl => by
        rw [e]
        exact ptold_two (A := none) (c := 0) (o := bad n cd) (fun h => absurd rfl h) (Nat.le_refl _) h.bel (fun g p e => by cases e) tab fl _ rfl
      have PG : Hid (∀ has x, parse (X.map L) = ⟨0, 0, s.lv, has, x⟩ → ∀ W', Rdy X s D A3 c3 has x w W' → ∀ tab fl, PTold (parse (X.map L)) w (.returned (.tuple #[.agg (tcs A3 s.lv.length c3 has x), .agg (fcs 0 0)])) ((W'.setRow w.heap.size tab).setRow (w.heap.size + 1) fl)) := fun has x e W' h tab fl => by
        rw [e]
        exact ptold_two (A := A3) (c := c3) (o := ⟨0, 0, s.lv, has, x⟩) h.lps hc3 h.bel hne4 tab fl _ rfl
      obtain ⟨c0, c1, c2, c3', c4, c5, fz⟩ := rc_cells hg3
      have CW := Lib.hid RW
      by_cases h5 : s.p 5 = 0
      · have hpr : parse (X.map L) = bad (X.length + 1) 2 := by rw [hfin]; unfold fin; rw [if_pos h5]
        have t5 : (((q 5 : Nat) : Int) == 0) = true := by rw [q5, h5]; rfl
        have Y3 := Lib.hid (PB.out _ _ hpr false 0 wr RW)
        have YA := Lib.hid hz1
        have YB := Lib.hid (fun tab => rdy_fl RW tab)
        have HO := Lib.hid ho
        clear PB PG hpr h5 hfin hrun hinv ho hq' hss q5 q2 q3 hl3 hz1 hz2 RW CW HP LS HH HST hS hg3
        go_wp2_with (first
          | (at_lookup; have _t := tok5; refine wpList_lookup_own_int wr rfl _ _ 41 rfl 9 3 .i64 lawS Tryz.underlying41 Tryz.underlying3 (zeroI _) (w.heap.size + 1 + 1) X.length D rfl HO.out _ (kl 5) rfl K5.out ?_; intro c hat hwc; obtain rfl := Q5.out c hat; clear tok5 hat hwc)
          | (refine wpList_store_row rfl 24 (.tmp 2) (.tmp 38) rfl w.heap.size (tcs none 0 0 false 0) rfl rfl _ _ YA.out szTab rfl (leap.tcs_one _ _ _ _ _) ?_)
          | (refine wpList_store_row rfl 29 (.tmp 3) (.tmp 42) rfl (w.heap.size + 1) (fcs (X.length + 1) 2) rfl rfl _ _ (YB.out _) szF rfl (fcs_one _ _) ?_))
        refine end_two rfl _ _ w.heap.size (w.heap.size + 1) 24 29 (tcs none 0 0 false 0) (fcs (X.length + 1) 2) _ _ rfl rfl ?_ (setRow_heap _ _ _ _ _ _ (YB.out _)) Tryz.underlying24 Tryz.underlying29 szTab szF rfl (Y3.out _ _)
        rw [setRow_other _ _ _ _ (by omega)]
        exact setRow_heap _ _ _ _ _ _ YA.out
      · have t5 : (((q 5 : Nat) : Int) == 0) = false := by rw [q5]; simp; omega
        by_cases h2 : s.p 2 = 0
        · have t2 : (((q 2 : Nat) : Int) != 0) = false := by rw [q2, h2]; rfl
          have HO := Lib.hid ho
          have RZ := Lib.hid RW
          by_cases h3 : s.p 3 = 0
          · have hpr : parse (X.map L) = ⟨0, 0, s.lv, false, 0⟩ := by rw [hfin]; unfold fin; rw [if_neg h5, if_neg (fun g => g.1 h2), if_neg (fun g => g.1 h3)]; simp [h2]
            have t3 : (((q 3 : Nat) : Int) != 0) = false := by rw [q3, h3]; rfl
            have Y3 := Lib.hid (fun W' h => PG.out _ _ hpr W' h)
            clear PB PG hpr h5 h2 h3 hfin hrun hinv hq' hss q5 q2 q3 hl3 hz1 hz2 RW HP LS HH HST hS hg3 ho
            go_wp2_with (first
              | (at_lookup; have _t := tok5; refine wpList_lookup_own_int wr rfl _ _ 41 rfl 9 3 .i64 lawS Tryz.underlying41 Tryz.underlying3 (zeroI _) (w.heap.size + 1 + 1) X.length D rfl HO.out _ (kl 5) rfl K5.out ?_; intro c hat hwc; obtain rfl := Q5.out c hat; clear tok5 hat hwc)
              | (at_lookup; have _t := tok2; refine wpList_lookup_own_int wr rfl _ _ 41 rfl 9 3 .i64 lawS Tryz.underlying41 Tryz.underlying3 (zeroI _) (w.heap.size + 1 + 1) X.length D rfl HO.out _ (kl 2) rfl K2.out ?_; intro c hat hwc; obtain rfl := Q2.out c hat; clear tok2 hat hwc)
              | (at_lookup; have _t := tok3; refine wpList_lookup_own_int wr rfl _ _ 41 rfl 9 3 .i64 lawS Tryz.underlying41 Tryz.underlying3 (zeroI _) (w.heap.size + 1 + 1) X.length D rfl HO.out _ (kl 3) rfl K3.out ?_; intro c hat hwc; obtain rfl := Q3.out c hat; clear tok3 hat hwc))
            go_quiet (fail)
            have YA := Lib.hid RZ.out.z1
            have YB := Lib.hid (fun tab => rdy_fl RZ.out tab)
            go_wp2_with (first
              | (refine wpList_store_row rfl 24 (.tmp 2) (.tmp 78) rfl w.heap.size (tcs A3 s.lv.length c3 false 0) rfl rfl _ _ YA.out szTab rfl (leap.tcs_one _ _ _ _ _) ?_)
              | (refine wpList_store_row rfl 29 (.tmp 3) (.tmp 79) rfl (w.heap.size + 1) (fcs 0 0) rfl rfl _ _ (YB.out _) szF rfl (fcs_one _ _) ?_))
            refine end_two rfl _ _ w.heap.size (w.heap.size + 1) 24 29 (tcs A3 s.lv.length c3 false 0) (fcs 0 0) _ _ rfl rfl ?_ (setRow_heap _ _ _ _ _ _ (YB.out _)) Tryz.underlying24 Tryz.underlying29 szTab szF rfl (Y3.out _ (rdy_below RZ.out (bel_drewN (Below.refl _ _) _)) _ _)
            rw [setRow_other _ _ _ _ (by omega)]
            exact setRow_heap _ _ _ _ _ _ YA.out
          · have t3 : (((q 3 : Nat) : Int) != 0) = true := by rw [q3]; simp; omega
            by_cases h6 : ls.h5 s.h (hq (X.map L)) = true
            · have hpr : parse (X.map L) = ⟨0, 0, s.lv, false, 0⟩ := by rw [hfin]; unfold fin; rw [if_neg h5, if_neg (fun g => g.1 h2), if_neg (fun g => by rw [h6] at g; exact absurd g.2 (by decide))]; simp [h2]
              have Y3 := Lib.hid (fun W' h => PG.out _ _ hpr W' h)
              have EQ : ∀ W, (Op.equalIn 10000 43 (.agg #[.int .u32 (s.h 0 : Nat), .int .u32 (s.h 1 : Nat), .int .u32 (s.h 2 : Nat), .int .u32 (s.h 3 : Nat), .int .u32 (s.h 4 : Nat)]) (.agg #[.int .u32 (hq (X.map L) 0 : Nat), .int .u32 (hq (X.map L) 1 : Nat), .int .u32 (hq (X.map L) 2 : Nat), .int .u32 (hq (X.map L) 3 : Nat), .int .u32 (hq (X.map L) 4 : Nat)])).run Tryz.prog W = .ok true W := fun W => by rw [← h6]; exact eq_h5 s.h (hq (X.map L)) W
              have WD : Hid (∀ W, Below w.heap.size w W → Calls Tryz.prog 17 #[.agg (cs .u8 (dig (sumV (nats (hsh (X.map L))))) 20)] W fun e w' => e = .returned (.agg #[.int .u32 (hq (X.map L) 0 : Nat), .int .u32 (hq (X.map L) 1 : Nat), .int .u32 (hq (X.map L) 2 : Nat), .int .u32 (hq (X.map L) 3 : Nat), .int .u32 (hq (X.map L) 4 : Nat)]) ∧ Below W.heap.size W w') := fun W _ => sha.words_any _ W (fun j _ => sx.dig_lt _ j)
              have HHx : Hid (∀ W, Below w.heap.size w W → Calls Tryz.prog 11 #[.string s0] W fun e w' => e = .returned (.agg (cs .u8 (dig (sumV (nats (hsh (X.map L))))) 20)) ∧ Below W.heap.size W w') := HH.out
              generalize cs .u8 (dig (sumV (nats (hsh (X.map L))))) 20 = DG at *
              clear PB PG hpr h5 h2 h3 h6 hfin hrun hinv hq' hss q5 q2 q3 hl3 hz1 hz2 RW HP LS HH HST hS hg3 ho
              generalize hq (X.map L) = qd at *
              go_wp2_with (first
                | (at_lookup; have _t := tok5; refine wpList_lookup_own_int wr rfl _ _ 41 rfl 9 3 .i64 lawS Tryz.underlying41 Tryz.underlying3 (zeroI _) (w.heap.size + 1 + 1) X.length D rfl HO.out _ (kl 5) rfl K5.out ?_; intro c hat hwc; obtain rfl := Q5.out c hat; clear tok5 hat hwc)
                | (at_lookup; have _t := tok2; refine wpList_lookup_own_int wr rfl _ _ 41 rfl 9 3 .i64 lawS Tryz.underlying41 Tryz.underlying3 (zeroI _) (w.heap.size + 1 + 1) X.length D rfl HO.out _ (kl 2) rfl K2.out ?_; intro c hat hwc; obtain rfl := Q2.out c hat; clear tok2 hat hwc)
                | (at_lookup; have _t := tok3; refine wpList_lookup_own_int wr rfl _ _ 41 rfl 9 3 .i64 lawS Tryz.underlying41 Tryz.underlying3 (zeroI _) (w.heap.size + 1 + 1) X.length D rfl HO.out _ (kl 3) rfl K3.out ?_; intro c hat hwc; obtain rfl := Q3.out c hat; clear tok3 hat hwc))
              obtain ⟨e6, e7, e8, e9, e10⟩ := rdy_hash RZ.out
              have g6 := fun d' os => cell_regrown e6 d' os
              have g7 := fun d' os => cell_regrown e7 d' os
              have g8 := fun d' os => cell_regrown e8 d' os
              have g9 := fun d' os => cell_regrown e9 d' os
              have g10 := fun d' os => cell_regrown e10 d' os
              have XH := Lib.hid (fun d' os => below_at (T := fun W => Below w.heap.size w W) HHx.out (fun W hb => btr RZ.out.bel hb) d' os)
              have XW := Lib.hid (fun d' os => below_at (T := fun W => Below w.heap.size w W) WD.out (fun W hb => btr RZ.out.bel hb) d' os)
              refine wp_region_quiet_below (by kernel_rfl) (by kernel_rfl) ?_
              repeat (quiet_step ((first | (go_at_call 11; with_reducible exact XH.out _ _) | (go_at_call 17; with_reducible exact XW.out _ _))))
              refine wpQuiet_nil ?_
              intro _ hw'
              obtain ⟨⟨dq, osq⟩, hw''⟩ := hw'
              subst hw''
              have RV := Lib.hid (rdy_below RZ.out (below_regrown _ dq osq))
              generalize Sort.grow (redrawn wr dq) osq = W7 at *
              clear g6 g7 g8 g9 g10 e6 e7 e8 e9 e10 XH XW EQ c0 c1 c2 c3' c4 c5 fz
              obtain ⟨c0, c1, c2, c3', fz⟩ := rdy_cells RV.out
              have YA := Lib.hid RV.out.z1
              have YB := Lib.hid (fun tab => rdy_fl RV.out tab)
              go_wp2_with (first
                | (refine wpList_store_row rfl 24 (.tmp 2) (.tmp 78) rfl w.heap.size (tcs A3 s.lv.length c3 false 0) rfl rfl _ _ YA.out szTab rfl (leap.tcs_one _ _ _ _ _) ?_)
                | (refine wpList_store_row rfl 29 (.tmp 3) (.tmp 79) rfl (w.heap.size + 1) (fcs 0 0) rfl rfl _ _ (YB.out _) szF rfl (fcs_one _ _) ?_))
              refine end_two rfl _ _ w.heap.size (w.heap.size + 1) 24 29 (tcs A3 s.lv.length c3 false 0) (fcs 0 0) _ _ rfl rfl ?_ (setRow_heap _ _ _ _ _ _ (YB.out _)) Tryz.underlying24 Tryz.underlying29 szTab szF rfl (Y3.out _ RV.out _ _)
              rw [setRow_other _ _ _ _ (by omega)]
              exact setRow_heap _ _ _ _ _ _ YA.out
            · have h6 : ls.h5 s.h (hq (X.map L)) = false := by simpa using h6
              have hpr : parse (X.map L) = bad (s.p 3) 3 := by rw [hfin]; unfold fin; rw [if_neg h5, if_neg (fun g => g.1 h2), if_pos ⟨h3, h6⟩]
              have Y3 := Lib.hid (fun W' h => PB.out _ _ hpr false 0 W' h)
              have EQ : ∀ W, (Op.equalIn 10000 43 (.agg #[.int .u32 (s.h 0 : Nat), .int .u32 (s.h 1 : Nat), .int .u32 (s.h 2 : Nat), .int .u32 (s.h 3 : Nat), .int .u32 (s.h 4 : Nat)]) (.agg #[.int .u32 (hq (X.map L) 0 : Nat), .int .u32 (hq (X.map L) 1 : Nat), .int .u32 (hq (X.map L) 2 : Nat), .int .u32 (hq (X.map L) 3 : Nat), .int .u32 (hq (X.map L) 4 : Nat)])).run Tryz.prog W = .ok false W := fun W => by rw [← h6]; exact eq_h5 s.h (hq (X.map L)) W
              rw [← q3] at Y3
              have WD : Hid (∀ W, Below w.heap.size w W → Calls Tryz.prog 17 #[.agg (cs .u8 (dig (sumV (nats (hsh (X.map L))))) 20)] W fun e w' => e = .returned (.agg #[.int .u32 (hq (X.map L) 0 : Nat), .int .u32 (hq (X.map L) 1 : Nat), .int .u32 (hq (X.map L) 2 : Nat), .int .u32 (hq (X.map L) 3 : Nat), .int .u32 (hq (X.map L) 4 : Nat)]) ∧ Below W.heap.size W w') := fun W _ => sha.words_any _ W (fun j _ => sx.dig_lt _ j)
              have HHx : Hid (∀ W, Below w.heap.size w W → Calls Tryz.prog 11 #[.string s0] W fun e w' => e = .returned (.agg (cs .u8 (dig (sumV (nats (hsh (X.map L))))) 20)) ∧ Below W.heap.size W w') := HH.out
              generalize cs .u8 (dig (sumV (nats (hsh (X.map L))))) 20 = DG at *
              clear PB PG hpr h5 h2 h3 h6 hfin hrun hinv hq' hss q5 q2 q3 hl3 hz1 hz2 RW HP LS HH HST hS hg3 ho
              generalize hq (X.map L) = qd at *
              go_wp2_with (first
                | (at_lookup; have _t := tok5; refine wpList_lookup_own_int wr rfl _ _ 41 rfl 9 3 .i64 lawS Tryz.underlying41 Tryz.underlying3 (zeroI _) (w.heap.size + 1 + 1) X.length D rfl HO.out _ (kl 5) rfl K5.out ?_; intro c hat hwc; obtain rfl := Q5.out c hat; clear tok5 hat hwc)
                | (at_lookup; have _t := tok2; refine wpList_lookup_own_int wr rfl _ _ 41 rfl 9 3 .i64 lawS Tryz.underlying41 Tryz.underlying3 (zeroI _) (w.heap.size + 1 + 1) X.length D rfl HO.out _ (kl 2) rfl K2.out ?_; intro c hat hwc; obtain rfl := Q2.out c hat; clear tok2 hat hwc)
                | (at_lookup; have _t := tok3; refine wpList_lookup_own_int wr rfl _ _ 41 rfl 9 3 .i64 lawS Tryz.underlying41 Tryz.underlying3 (zeroI _) (w.heap.size + 1 + 1) X.length D rfl HO.out _ (kl 3) rfl K3.out ?_; intro c hat hwc; obtain rfl := Q3.out c hat; clear tok3 hat hwc))
              obtain ⟨e6, e7, e8, e9, e10⟩ := rdy_hash RZ.out
              have g6 := fun d' os => cell_regrown e6 d' os
              have g7 := fun d' os => cell_regrown e7 d' os
              have g8 := fun d' os => cell_regrown e8 d' os
              have g9 := fun d' os => cell_regrown e9 d' os
              have g10 := fun d' os => cell_regrown e10 d' os
              have XH := Lib.hid (fun d' os => below_at (T := fun W => Below w.heap.size w W) HHx.out (fun W hb => btr RZ.out.bel hb) d' os)
              have XW := Lib.hid (fun d' os => below_at (T := fun W => Below w.heap.size w W) WD.out (fun W hb => btr RZ.out.bel hb) d' os)
              refine wp_region_quiet_below (by kernel_rfl) (by kernel_rfl) ?_
              repeat (quiet_step ((first | (go_at_call 11; with_reducible exact XH.out _ _) | (go_at_call 17; with_reducible exact XW.out _ _))))
              refine wpQuiet_nil ?_
              intro _ hw'
              obtain ⟨⟨dq, osq⟩, hw''⟩ := hw'
              subst hw''
              have RV := Lib.hid (rdy_below RZ.out (below_regrown _ dq osq))
              generalize Sort.grow (redrawn wr dq) osq = W7 at *
              clear g6 g7 g8 g9 g10 e6 e7 e8 e9 e10 XH XW EQ c0 c1 c2 c3' c4 c5 fz
              obtain ⟨c0, c1, c2, c3', fz⟩ := rdy_cells RV.out
              have YA := Lib.hid RV.out.z1
              have YB := Lib.hid (fun tab => rdy_fl RV.out tab)
              go_wp2_with (first
                | (refine wpList_store_row rfl 24 (.tmp 2) (.tmp 74) rfl w.heap.size (tcs none 0 0 false 0) rfl rfl _ _ YA.out szTab rfl (leap.tcs_one _ _ _ _ _) ?_)
                | (refine wpList_store_row rfl 29 (.tmp 3) (.tmp 76) rfl (w.heap.size + 1) (fcs (q 3) 3) rfl rfl _ _ (YB.out _) szF rfl (fcs_one _ _) ?_))
              refine end_two rfl _ _ w.heap.size (w.heap.size + 1) 24 29 (tcs none 0 0 false 0) (fcs (q 3) 3) _ _ rfl rfl ?_ (setRow_heap _ _ _ _ _ _ (YB.out _)) Tryz.underlying24 Tryz.underlying29 szTab szF rfl (Y3.out _ RV.out _ _)
              rw [setRow_other _ _ _ _ (by omega)]
              exact setRow_heap _ _ _ _ _ _ YA.out
        · have t2 : (((q 2 : Nat) : Int) != 0) = true := by rw [q2]; simp; omega
          have R2 : Rdy X s D A3 c3 true s.ex w ((wr.setCell ⟨w.heap.size + 1 + 1 + 1, 2, none⟩ (.bool true)).setCell ⟨w.heap.size + 1 + 1 + 1, 3, none⟩ (.int .i64 s.ex)) := rdy_set RW (fun g p e => (hne3 g p e).1.1)
          obtain ⟨f0, f1, f2, f3, fz2⟩ := rdy_cells R2
          have fz1 : ∀ j, (wr.setCell ⟨w.heap.size + 1 + 1 + 1, 2, none⟩ (.bool true)).frozen? ⟨w.heap.size + 1 + 1 + 1, j, none⟩ = false := fun j => rdy_fz1 RW j
          have f4 := rdy_c1 RW
          have RI : Hid (Calls Tryz.prog 16 #[.agg #[.slice A3 s.lv.length c3, .bool true, .int .i64 s.ex]] ((wr.setCell ⟨w.heap.size + 1 + 1 + 1, 2, none⟩ (.bool true)).setCell ⟨w.heap.size + 1 + 1 + 1, 3, none⟩ (.int .i64 s.ex)) fun e w' => e = .returned (.bool (ce s.lv true s.ex == 0)) ∧ Below ((wr.setCell ⟨w.heap.size + 1 + 1 + 1, 2, none⟩ (.bool true)).setCell ⟨w.heap.size + 1 + 1 + 1, 3, none⟩ (.int .i64 s.ex)).heap.size ((wr.setCell ⟨w.heap.size + 1 + 1 + 1, 2, none⟩ (.bool true)).setCell ⟨w.heap.size + 1 + 1 + 1, 3, none⟩ (.int .i64 s.ex)) w') := leap.right_at s.lv A3 c3 true s.ex _ (T.below R2.bel) R2.lps (by omega)
          have HO := Lib.hid ho
          have RR := Lib.hid R2
          by_cases h7 : ce s.lv true s.ex = 0
          · have u7 : (ce s.lv true s.ex == 0) = true := by simpa using h7
            rw [u7] at RI
            by_cases h3 : s.p 3 = 0
            · have hpr : parse (X.map L) = ⟨0, 0, s.lv, true, s.ex⟩ := by rw [hfin]; unfold fin; rw [if_neg h5, if_neg (fun g => g.2 h7), if_neg (fun g => g.1 h3)]; simp [h2]
              have t3 : (((q 3 : Nat) : Int) != 0) = false := by rw [q3, h3]; rfl
              have Y3 := Lib.hid (fun W' h => PG.out _ _ hpr W' h)
              clear PB PG hpr h5 h2 h3 hfin hrun hinv hq' hss q5 q2 q3 hl3 hz1 hz2 RW HP LS HH HST hS hg3 ho h7 u7 R2
              go_wp2_with (first
                | (at_lookup; have _t := tok5; refine wpList_lookup_own_int wr rfl _ _ 41 rfl 9 3 .i64 lawS Tryz.underlying41 Tryz.underlying3 (zeroI _) (w.heap.size + 1 + 1) X.length D rfl HO.out _ (kl 5) rfl K5.out ?_; intro c hat hwc; obtain rfl := Q5.out c hat; clear tok5 hat hwc)
                | (at_lookup; have _t := tok2; refine wpList_lookup_own_int wr rfl _ _ 41 rfl 9 3 .i64 lawS Tryz.underlying41 Tryz.underlying3 (zeroI _) (w.heap.size + 1 + 1) X.length D rfl HO.out _ (kl 2) rfl K2.out ?_; intro c hat hwc; obtain rfl := Q2.out c hat; clear tok2 hat hwc)
                | (go_at_call 16; with_reducible refine RI.out.mono ?_; rintro e w6 ⟨rfl, hb6⟩; have RZ := Lib.hid (rdy_below RR.out hb6); clear f0 f1 f2 f3 fz2 fz1 f4 c0 c1 c2 c3' c4 c5 fz; obtain ⟨c0, c1, c2, c3', fz⟩ := rdy_cells RZ.out; have c4 := trivial; have c5 := trivial; have HO6 := Lib.hid RZ.out.pm)
                | (at_lookup; have _t := tok3; refine wpList_lookup_own_int w6 rfl _ _ 41 rfl 9 3 .i64 lawS Tryz.underlying41 Tryz.underlying3 (zeroI _) (w.heap.size + 1 + 1) X.length D rfl HO6.out _ (kl 3) rfl K3.out ?_; intro c hat hwc; obtain rfl := Q3.out c hat; clear tok3 hat hwc))
              go_quiet (fail)
              have YA := Lib.hid RZ.out.z1
              have YB := Lib.hid (fun tab => rdy_fl RZ.out tab)
              go_wp2_with (first
                | (refine wpList_store_row rfl 24 (.tmp 2) (.tmp 78) rfl w.heap.size (tcs A3 s.lv.length c3 true s.ex) rfl rfl _ _ YA.out szTab rfl (leap.tcs_one _ _ _ _ _) ?_)
                | (refine wpList_store_row rfl 29 (.tmp 3) (.tmp 79) rfl (w.heap.size + 1) (fcs 0 0) rfl rfl _ _ (YB.out _) szF rfl (fcs_one _ _) ?_))
              refine end_two rfl _ _ w.heap.size (w.heap.size + 1) 24 29 (tcs A3 s.lv.length c3 true s.ex) (fcs 0 0) _ _ rfl rfl ?_ (setRow_heap _ _ _ _ _ _ (YB.out _)) Tryz.underlying24 Tryz.underlying29 szTab szF rfl (Y3.out _ (rdy_below RZ.out (bel_drewN (Below.refl _ _) _)) _ _)
              rw [setRow_other _ _ _ _ (by omega)]
              exact setRow_heap _ _ _ _ _ _ YA.out
            · have t3 : (((q 3 : Nat) : Int) != 0) = true := by rw [q3]; simp; omega
              by_cases h6 : ls.h5 s.h (hq (X.map L)) = true
              · have hpr : parse (X.map L) = ⟨0, 0, s.lv, true, s.ex⟩ := by rw [hfin]; unfold fin; rw [if_neg h5, if_neg (fun g => g.2 h7), if_neg (fun g => by rw [h6] at g; exact absurd g.2 (by decide))]; simp [h2]
                have Y3 := Lib.hid (fun W' h => PG.out _ _ hpr W' h)
                have EQ : ∀ W, (Op.equalIn 10000 43 (.agg #[.int .u32 (s.h 0 : Nat), .int .u32 (s.h 1 : Nat), .int .u32 (s.h 2 : Nat), .int .u32 (s.h 3 : Nat), .int .u32 (s.h 4 : Nat)]) (.agg #[.int .u32 (hq (X.map L) 0 : Nat), .int .u32 (hq (X.map L) 1 : Nat), .int .u32 (hq (X.map L) 2 : Nat), .int .u32 (hq (X.map L) 3 : Nat), .int .u32 (hq (X.map L) 4 : Nat)])).run Tryz.prog W = .ok true W := fun W => by rw [← h6]; exact eq_h5 s.h (hq (X.map L)) W
                have WD : Hid (∀ W, Below w.heap.size w W → Calls Tryz.prog 17 #[.agg (cs .u8 (dig (sumV (nats (hsh (X.map L))))) 20)] W fun e w' => e = .returned (.agg #[.int .u32 (hq (X.map L) 0 : Nat), .int .u32 (hq (X.map L) 1 : Nat), .int .u32 (hq (X.map L) 2 : Nat), .int .u32 (hq (X.map L) 3 : Nat), .int .u32 (hq (X.map L) 4 : Nat)]) ∧ Below W.heap.size W w') := fun W _ => sha.words_any _ W (fun j _ => sx.dig_lt _ j)
                have HHx : Hid (∀ W, Below w.heap.size w W → Calls Tryz.prog 11 #[.string s0] W fun e w' => e = .returned (.agg (cs .u8 (dig (sumV (nats (hsh (X.map L))))) 20)) ∧ Below W.heap.size W w') := HH.out
                generalize cs .u8 (dig (sumV (nats (hsh (X.map L))))) 20 = DG at *
                clear PB PG hpr h5 h2 h3 h6 hfin hrun hinv hq' hss q5 q2 q3 hl3 hz1 hz2 RW HP LS HH HST hS hg3 ho h7 u7 R2
                generalize hq (X.map L) = qd at *
                go_wp2_with (first
                  | (at_lookup; have _t := tok5; refine wpList_lookup_own_int wr rfl _ _ 41 rfl 9 3 .i64 lawS Tryz.underlying41 Tryz.underlying3 (zeroI _) (w.heap.size + 1 + 1) X.length D rfl HO.out _ (kl 5) rfl K5.out ?_; intro c hat hwc; obtain rfl := Q5.out c hat; clear tok5 hat hwc)
                  | (at_lookup; have _t := tok2; refine wpList_lookup_own_int wr rfl _ _ 41 rfl 9 3 .i64 lawS Tryz.underlying41 Tryz.underlying3 (zeroI _) (w.heap.size + 1 + 1) X.length D rfl HO.out _ (kl 2) rfl K2.out ?_; intro c hat hwc; obtain rfl := Q2.out c hat; clear tok2 hat hwc)
                  | (go_at_call 16; with_reducible refine RI.out.mono ?_; rintro e w6 ⟨rfl, hb6⟩; have RZ := Lib.hid (rdy_below RR.out hb6); clear f0 f1 f2 f3 fz2 fz1 f4 c0 c1 c2 c3' c4 c5 fz; obtain ⟨c0, c1, c2, c3', fz⟩ := rdy_cells RZ.out; have c4 := trivial; have c5 := trivial; have HO6 := Lib.hid RZ.out.pm)
                  | (at_lookup; have _t := tok3; refine wpList_lookup_own_int w6 rfl _ _ 41 rfl 9 3 .i64 lawS Tryz.underlying41 Tryz.underlying3 (zeroI _) (w.heap.size + 1 + 1) X.length D rfl HO6.out _ (kl 3) rfl K3.out ?_; intro c hat hwc; obtain rfl := Q3.out c hat; clear tok3 hat hwc))
                obtain ⟨e6, e7, e8, e9, e10⟩ := rdy_hash RZ.out
                have g6 := fun d' os => cell_regrown e6 d' os
                have g7 := fun d' os => cell_regrown e7 d' os
                have g8 := fun d' os => cell_regrown e8 d' os
                have g9 := fun d' os => cell_regrown e9 d' os
                have g10 := fun d' os => cell_regrown e10 d' os
                have XH := Lib.hid (fun d' os => below_at (T := fun W => Below w.heap.size w W) HHx.out (fun W hb => btr RZ.out.bel hb) d' os)
                have XW := Lib.hid (fun d' os => below_at (T := fun W => Below w.heap.size w W) WD.out (fun W hb => btr RZ.out.bel hb) d' os)
                refine wp_region_quiet_below (by kernel_rfl) (by kernel_rfl) ?_
                repeat (quiet_step ((first | (go_at_call 11; with_reducible exact XH.out _ _) | (go_at_call 17; with_reducible exact XW.out _ _))))
                refine wpQuiet_nil ?_
                intro _ hw'
                obtain ⟨⟨dq, osq⟩, hw''⟩ := hw'
                subst hw''
                have RV := Lib.hid (rdy_below RZ.out (below_regrown _ dq osq))
                generalize Sort.grow (redrawn w6 dq) osq = W7 at *
                clear g6 g7 g8 g9 g10 e6 e7 e8 e9 e10 XH XW EQ c0 c1 c2 c3' c4 c5 fz
                obtain ⟨c0, c1, c2, c3', fz⟩ := rdy_cells RV.out
                have YA := Lib.hid RV.out.z1
                have YB := Lib.hid (fun tab => rdy_fl RV.out tab)
                go_wp2_with (first
                  | (refine wpList_store_row rfl 24 (.tmp 2) (.tmp 78) rfl w.heap.size (tcs A3 s.lv.length c3 true s.ex) rfl rfl _ _ YA.out szTab rfl (leap.tcs_one _ _ _ _ _) ?_)
                  | (refine wpList_store_row rfl 29 (.tmp 3) (.tmp 79) rfl (w.heap.size + 1) (fcs 0 0) rfl rfl _ _ (YB.out _) szF rfl (fcs_one _ _) ?_))
                refine end_two rfl _ _ w.heap.size (w.heap.size + 1) 24 29 (tcs A3 s.lv.length c3 true s.ex) (fcs 0 0) _ _ rfl rfl ?_ (setRow_heap _ _ _ _ _ _ (YB.out _)) Tryz.underlying24 Tryz.underlying29 szTab szF rfl (Y3.out _ RV.out _ _)
                rw [setRow_other _ _ _ _ (by omega)]
                exact setRow_heap _ _ _ _ _ _ YA.out
              · have h6 : ls.h5 s.h (hq (X.map L)) = false := by simpa using h6
                have hpr : parse (X.map L) = bad (s.p 3) 3 := by rw [hfin]; unfold fin; rw [if_neg h5, if_neg (fun g => g.2 h7), if_pos ⟨h3, h6⟩]
                have Y3 := Lib.hid (fun W' h => PB.out _ _ hpr true s.ex W' h)
                have EQ : ∀ W, (Op.equalIn 10000 43 (.agg #[.int .u32 (s.h 0 : Nat), .int .u32 (s.h 1 : Nat), .int .u32 (s.h 2 : Nat), .int .u32 (s.h 3 : Nat), .int .u32 (s.h 4 : Nat)]) (.agg #[.int .u32 (hq (X.map L) 0 : Nat), .int .u32 (hq (X.map L) 1 : Nat), .int .u32 (hq (X.map L) 2 : Nat), .int .u32 (hq (X.map L) 3 : Nat), .int .u32 (hq (X.map L) 4 : Nat)])).run Tryz.prog W = .ok false W := fun W => by rw [← h6]; exact eq_h5 s.h (hq (X.map L)) W
                rw [← q3] at Y3
                have WD : Hid (∀ W, Below w.heap.size w W → Calls Tryz.prog 17 #[.agg (cs .u8 (dig (sumV (nats (hsh (X.map L))))) 20)] W fun e w' => e = .returned (.agg #[.int .u32 (hq (X.map L) 0 : Nat), .int .u32 (hq (X.map L) 1 : Nat), .int .u32 (hq (X.map L) 2 : Nat), .int .u32 (hq (X.map L) 3 : Nat), .int .u32 (hq (X.map L) 4 : Nat)]) ∧ Below W.heap.size W w') := fun W _ => sha.words_any _ W (fun j _ => sx.dig_lt _ j)
                have HHx : Hid (∀ W, Below w.heap.size w W → Calls Tryz.prog 11 #[.string s0] W fun e w' => e = .returned (.agg (cs .u8 (dig (sumV (nats (hsh (X.map L))))) 20)) ∧ Below W.heap.size W w') := HH.out
                generalize cs .u8 (dig (sumV (nats (hsh (X.map L))))) 20 = DG at *
                clear PB PG hpr h5 h2 h3 h6 hfin hrun hinv hq' hss q5 q2 q3 hl3 hz1 hz2 RW HP LS HH HST hS hg3 ho h7 u7 R2
                generalize hq (X.map L) = qd at *
                go_wp2_with (first
                  | (at_lookup; have _t := tok5; refine wpList_lookup_own_int wr rfl _ _ 41 rfl 9 3 .i64 lawS Tryz.underlying41 Tryz.underlying3 (zeroI _) (w.heap.size + 1 + 1) X.length D rfl HO.out _ (kl 5) rfl K5.out ?_; intro c hat hwc; obtain rfl := Q5.out c hat; clear tok5 hat hwc)
                  | (at_lookup; have _t := tok2; refine wpList_lookup_own_int wr rfl _ _ 41 rfl 9 3 .i64 lawS Tryz.underlying41 Tryz.underlying3 (zeroI _) (w.heap.size + 1 + 1) X.length D rfl HO.out _ (kl 2) rfl K2.out ?_; intro c hat hwc; obtain rfl := Q2.out c hat; clear tok2 hat hwc)
                  | (go_at_call 16; with_reducible refine RI.out.mono ?_; rintro e w6 ⟨rfl, hb6⟩; have RZ := Lib.hid (rdy_below RR.out hb6); clear f0 f1 f2 f3 fz2 fz1 f4 c0 c1 c2 c3' c4 c5 fz; obtain ⟨c0, c1, c2, c3', fz⟩ := rdy_cells RZ.out; have c4 := trivial; have c5 := trivial; have HO6 := Lib.hid RZ.out.pm)
                  | (at_lookup; have _t := tok3; refine wpList_lookup_own_int w6 rfl _ _ 41 rfl 9 3 .i64 lawS Tryz.underlying41 Tryz.underlying3 (zeroI _) (w.heap.size + 1 + 1) X.length D rfl HO6.out _ (kl 3) rfl K3.out ?_; intro c hat hwc; obtain rfl := Q3.out c hat; clear tok3 hat hwc))
                obtain ⟨e6, e7, e8, e9, e10⟩ := rdy_hash RZ.out
                have g6 := fun d' os => cell_regrown e6 d' os
                have g7 := fun d' os => cell_regrown e7 d' os
                have g8 := fun d' os => cell_regrown e8 d' os
                have g9 := fun d' os => cell_regrown e9 d' os
                have g10 := fun d' os => cell_regrown e10 d' os
                have XH := Lib.hid (fun d' os => below_at (T := fun W => Below w.heap.size w W) HHx.out (fun W hb => btr RZ.out.bel hb) d' os)
                have XW := Lib.hid (fun d' os => below_at (T := fun W => Below w.heap.size w W) WD.out (fun W hb => btr RZ.out.bel hb) d' os)
                refine wp_region_quiet_below (by kernel_rfl) (by kernel_rfl) ?_
                repeat (quiet_step ((first | (go_at_call 11; with_reducible exact XH.out _ _) | (go_at_call 17; with_reducible exact XW.out _ _))))
                refine wpQuiet_nil ?_
                intro _ hw'
                obtain ⟨⟨dq, osq⟩, hw''⟩ := hw'
                subst hw''
                have RV := Lib.hid (rdy_below RZ.out (below_regrown _ dq osq))
                generalize Sort.grow (redrawn w6 dq) osq = W7 at *
                clear g6 g7 g8 g9 g10 e6 e7 e8 e9 e10 XH XW EQ c0 c1 c2 c3' c4 c5 fz
                obtain ⟨c0, c1, c2, c3', fz⟩ := rdy_cells RV.out
                have YA := Lib.hid RV.out.z1
                have YB := Lib.hid (fun tab => rdy_fl RV.out tab)
                go_wp2_with (first
                  | (refine wpList_store_row rfl 24 (.tmp 2) (.tmp 74) rfl w.heap.size (tcs none 0 0 false 0) rfl rfl _ _ YA.out szTab rfl (leap.tcs_one _ _ _ _ _) ?_)
                  | (refine wpList_store_row rfl 29 (.tmp 3) (.tmp 76) rfl (w.heap.size + 1) (fcs (q 3) 3) rfl rfl _ _ (YB.out _) szF rfl (fcs_one _ _) ?_))
                refine end_two rfl _ _ w.heap.size (w.heap.size + 1) 24 29 (tcs none 0 0 false 0) (fcs (q 3) 3) _ _ rfl rfl ?_ (setRow_heap _ _ _ _ _ _ (YB.out _)) Tryz.underlying24 Tryz.underlying29 szTab szF rfl (Y3.out _ RV.out _ _)
                rw [setRow_other _ _ _ _ (by omega)]
                exact setRow_heap _ _ _ _ _ _ YA.out
          · have u7 : (ce s.lv true s.ex == 0) = false := by simpa using h7
            rw [u7] at RI
            have hpr : parse (X.map L) = bad (s.p 2) 9 := by rw [hfin]; unfold fin; rw [if_neg h5, if_pos ⟨h2, h7⟩]
            have Y3 := Lib.hid (fun W' h => PB.out _ _ hpr true s.ex W' h)
            rw [← q2] at Y3
            clear PB PG hpr h5 h2 h7 u7 hfin hrun hinv hq' hss q5 q2 q3 hl3 hz1 hz2 RW R2 HP LS HH HST hS hg3 ho
            go_wp2_with (first
              | (at_lookup; have _t := tok5; refine wpList_lookup_own_int wr rfl _ _ 41 rfl 9 3 .i64 lawS Tryz.underlying41 Tryz.underlying3 (zeroI _) (w.heap.size + 1 + 1) X.length D rfl HO.out _ (kl 5) rfl K5.out ?_; intro c hat hwc; obtain rfl := Q5.out c hat; clear tok5 hat hwc)
              | (at_lookup; have _t := tok2; refine wpList_lookup_own_int wr rfl _ _ 41 rfl 9 3 .i64 lawS Tryz.underlying41 Tryz.underlying3 (zeroI _) (w.heap.size + 1 + 1) X.length D rfl HO.out _ (kl 2) rfl K2.out ?_; intro c hat hwc; obtain rfl := Q2.out c hat; clear tok2 hat hwc)
              | (go_at_call 16; with_reducible refine RI.out.mono ?_; rintro e w6 ⟨rfl, hb6⟩; have RZ := Lib.hid (rdy_below RR.out hb6); have YA := Lib.hid RZ.out.z1; have YB := Lib.hid (fun tab => rdy_fl RZ.out tab))
              | (refine wpList_store_row rfl 24 (.tmp 2) (.tmp 58) rfl w.heap.size (tcs none 0 0 false 0) rfl rfl _ _ YA.out szTab rfl (leap.tcs_one _ _ _ _ _) ?_)
              | (refine wpList_store_row rfl 29 (.tmp 3) (.tmp 60) rfl (w.heap.size + 1) (fcs (q 2) 9) rfl rfl _ _ (YB.out _) szF rfl (fcs_one _ _) ?_))
            refine end_two rfl _ _ w.heap.size (w.heap.size + 1) 24 29 (tcs none 0 0 false 0) (fcs (q 2) 9) _ _ rfl rfl ?_ (setRow_heap _ _ _ _ _ _ (YB.out _)) Tryz.underlying24 Tryz.underlying29 szTab szF rfl (Y3.out _ RZ.out _ _)
            rw [setRow_other _ _ _ _ (by omega)]
            exact setRow_heap _ _ _ _ _ _ YA.out
end Go.Proofs.YtldieebiicblbaaGreatDoor.list
