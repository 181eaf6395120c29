/-
  What zic.Parse answers: the table of a source, or what is wrong of it, as plain mathematics tells (zs.parse). Conditions: the names of months of package zic, and the tables of package day, hold what their initialisers lay; the library's variable MaxLen holds some number; the text has at most 300000 bytes.
-/
import Derived.Test.YtiboijhfieaepaaGreatDoorZicExp
import Derived.Test.YtiboijhfieaepaaGreatDoorLinesSplit
import Derived.Test.YtiboijhfieaepaaGreatDoorLeapCheck
import Derived.WalkMore
namespace Go.Proofs.YtiboijhfieaepaaGreatDoor.zic
open Go.ChangeShapes Go.WideShapes Go.ChangeAt Go.RowKit
open lx zs mem
open lm (Lp ce)
open leap (tcs Lps)
set_option linter.unusedVariables false
set_option maxRecDepth 100000

/-! how long lines and words are -/
theorem trim_le (l : List UInt8) : (trim l).length ≤ l.length := by
  unfold trim Lib.trimSuffix
  split
  · simp
  · exact Nat.le_refl _
theorem spl_each : ∀ (l cur : List UInt8) (y : List UInt8), y ∈ spl cur l → y.length ≤ cur.length + l.length
  | [], cur, y, h => by
    by_cases e : cur = []
    · subst e
      rw [spl_end0] at h
      cases h
    · rw [spl_end e, List.mem_singleton] at h
      subst h
      have := trim_le cur
      omega
  | c :: l, cur, y, h => by
    by_cases e : c = 10
    · subst e
      rw [spl_lf] at h
      rcases List.mem_cons.1 h with rfl | h
      · have := trim_le cur
        omega
      · have := spl_each l [] y h
        simp only [List.length_cons, List.length_nil] at *
        omega
    · rw [spl_no e] at h
      have := spl_each l (cur ++ [c]) y h
      simp only [List.length_cons, List.length_append, List.length_nil] at *
      omega
theorem line_size {s x : ByteArray} (h : x ∈ splitS s) : x.size ≤ s.size := by
  obtain ⟨y, hy, rfl⟩ := List.mem_map.1 h
  rw [B_size]
  have := spl_each (L s) [] y hy
  simp only [List.length_nil, L_len] at this
  omega
theorem lines_len (s : ByteArray) : (splitS s).length ≤ s.size := by
  unfold splitS
  rw [List.length_map]
  have := spl_len (L s) []
  simp only [List.length_nil, L_len] at this
  omega
theorem mem_tot : ∀ {ls : List (List UInt8)} {x : List UInt8}, x ∈ ls → x.length ≤ tot ls
  | y :: r, x, h => by
    rcases List.mem_cons.1 h with rfl | h
    · rw [tot]; omega
    · rw [tot]; have := mem_tot h; omega
theorem lw_small (l : List UInt8) (h : l.length ≤ 300000) : Small (lw l) := by
  have h1 := (ahd_len 35 l).1
  have h2 := wds_tot (ahd 35 l) []
  have h3 := wds_len (ahd 35 l) []
  simp only [List.length_nil] at h2 h3
  refine ⟨by unfold lw; omega, fun k => ?_⟩
  unfold g lw
  rw [List.getD_eq_getElem?_getD]
  by_cases hk : k < (wds [] (ahd 35 l)).length
  · rw [List.getElem?_eq_getElem hk]
    have := mem_tot (List.getElem_mem hk)
    simp only [Option.getD_some]
    omega
  · rw [List.getElem?_eq_none (by omega)]
    decide
theorem said_words (l : List UInt8) : wordsS (B (ahd 35 l)) = (lw l).map B := by
  unfold wordsS lw
  rw [L_B]
/-- the words of a line. -/
def wl (x : ByteArray) : List (List UInt8) := lw (L x)

/-! what Parse leaves -/
def fcs (n : Nat) (c : Int) : Array Value := #[.int .i64 (n : Nat), .int .i64 c]
def PTold (o : Out) (w : World) (e : Ending) (w' : World) : Prop :=
  ∃ A c, e = .returned (.tuple #[.agg (tcs A o.lv.length c o.has o.x), .agg (fcs o.line o.code)]) ∧ Lps w' A o.lv ∧ o.lv.length ≤ c ∧ Below w.heap.size w w'
theorem szF : (Tryz.prog.info? 29).map (·.size) = some 2 := by kernel_rfl
theorem fcs_one (n : Nat) (c : Int) : (fcs n c).all (·.oneCell') = true := by simp [fcs, Value.oneCell']
theorem end_two {fn : Func} {R : Ending → World → Prop} {p q : Tmp} {ty tz : TypeId} (hr : fn.results = #[.cell p ty, .cell q tz]) (a : Act) (w : World) (g k : Nat) (t u : TypeId) (c d : Array Value) (fs fz : Array Field)
    (hp : a.tmps.getD p undef = .pointer (some ⟨g, 0, none⟩)) (hq : a.tmps.getD q undef = .pointer (some ⟨k, 0, none⟩)) (hg : w.heap[g]? = some (.cells c t (0, 0))) (hk : w.heap[k]? = some (.cells d u (0, 0)))
    (hu : Tryz.prog.underlying ty = some (.struct fs)) (hv : Tryz.prog.underlying tz = some (.struct fz))
    (hi : (Tryz.prog.info? ty).map (·.size) = some c.size) (hj : (Tryz.prog.info? tz).map (·.size) = some d.size) (hdf : a.defers = []) (h : R (.returned (.tuple #[.agg c, .agg d])) w) : bodyPost Tryz.prog fn R .ret a w := by
  refine bodyPost_ret (v := .tuple #[.agg c, .agg d]) ?_ hdf h
  have hp' : a.tmps[p]?.getD undef = .pointer (some ⟨g, 0, none⟩) := by simpa using hp
  have hq' : a.tmps[q]?.getD undef = .pointer (some ⟨k, 0, none⟩) := by simpa using hq
  simp [results, hr, hp', hq', asAddr, run_loadVar_row w g t ty c (0, 0) _ hg hu rfl hi, run_loadVar_row w k u tz d (0, 0) _ hk hv rfl hj]
theorem ptold_two {w W : World} {o : Out} {A : Option Addr} {c : Nat} (hl : Lps W A o.lv) (hc : o.lv.length ≤ c) (hb : Below w.heap.size w W) (hne : ∀ g p, A = some ⟨g, p, none⟩ → w.heap.size + 1 < g) (tab fl : Array Value) (e : Ending) (he : e = .returned (.tuple #[.agg (tcs A o.lv.length c o.has o.x), .agg (fcs o.line o.code)])) :
    PTold o w e ((W.setRow w.heap.size tab).setRow (w.heap.size + 1) fl) := by
  refine ⟨A, c, he, ?_, hc, bel_setRow (bel_setRow hb (Nat.le_refl _) _) (by omega) _⟩
  intro hn
  obtain ⟨g, o', e', hlt, hcell⟩ := hl hn
  have := hne g o' e'
  refine ⟨g, o', e', by simpa using hlt, fun k hk => ?_⟩
  have hbk : ((W.setRow w.heap.size tab).setRow (w.heap.size + 1) fl).heap[g]? = W.heap[g]? := by rw [setRow_other _ _ _ _ (by omega), setRow_other _ _ _ _ (by omega)]
  obtain ⟨c0, c1, c2⟩ := hcell k hk
  exact ⟨(World.cell?_of_block (a := ⟨g, _, none⟩) hbk).trans c0, (World.cell?_of_block (a := ⟨g, _, none⟩) hbk).trans c1, (World.cell?_of_block (a := ⟨g, _, none⟩) hbk).trans c2⟩
theorem strs_keep {b : Nat} {W W' : World} {A : Option Addr} {l : List ByteArray} (h : lines.Strs W A l) (hb : Keep b W W') (hne : ∀ g o, A = some ⟨g, o, none⟩ → g ≠ b) : lines.Strs W' A l := by
  intro hl
  obtain ⟨g, o, e, hlt, hc⟩ := h hl
  exact ⟨g, o, e, Nat.lt_of_lt_of_le hlt hb.size, fun k hk => (hb.cell (p := ⟨g, o + k, none⟩) hlt (hne g o e)).trans (hc k hk)⟩
/-- at the head of a round. -/
def PHead (X : List ByteArray) (A : Option Addr) (w : World) (t : Value) (W : World) : Prop :=
  ∃ (j : Nat) (s : S), t = .int .i64 (j : Nat) ∧ j ≤ X.length ∧ RS (w.heap.size + 2) s W ∧ run ((X.take j).map wl) 0 S0 = ((0, 0), s) ∧ Below w.heap.size w W ∧ lines.Strs W A X ∧
    W.heap[w.heap.size]? = some (.cells (tcs none 0 0 false 0) 24 (0, 0)) ∧ W.heap[w.heap.size + 1]? = some (.cells (fcs 0 0) 29 (0, 0))
/-- the start: two results, a box. -/
theorem pstart (w : World) {X : List ByteArray} {A : Option Addr} {W0 W1 : World} (hW : W0 = ((w.alloc (.cells #[.slice none 0 0, .bool false, .int .i64 0] 24)).alloc (.cells #[.int .i64 0, .int .i64 0] 29)).alloc (.cells (rz none 0 0 0 0) 41))
    (hb1 : Below W0.heap.size W0 W1) (hS : lines.Strs W1 A X) : PHead X A w (.int .i64 0) W1 := by
  subst hW
  have hsz : (((w.alloc (.cells #[.slice none 0 0, .bool false, .int .i64 0] 24)).alloc (.cells #[.int .i64 0, .int .i64 0] 29)).alloc (.cells (rz none 0 0 0 0) 41)).heap.size = w.heap.size + 3 := by simp
  have hR : RS (w.heap.size + 2) S0 (((w.alloc (.cells #[.slice none 0 0, .bool false, .int .i64 0] 24)).alloc (.cells #[.int .i64 0, .int .i64 0] 29)).alloc (.cells (rz none 0 0 0 0) 41)) := by
    have := hp_new ((w.alloc (.cells #[.slice none 0 0, .bool false, .int .i64 0] 24)).alloc (.cells #[.int .i64 0, .int .i64 0] 29)) (.cells (rz none 0 0 0 0) 41)
    rw [show ((w.alloc (.cells #[.slice none 0 0, .bool false, .int .i64 0] 24)).alloc (.cells #[.int .i64 0, .int .i64 0] 29)).heap.size = w.heap.size + 2 by simp] at this
    exact ⟨none, 0, this, fun h => absurd rfl h, Nat.le_refl _, fun g o e => by cases e⟩
  refine ⟨0, S0, rfl, Nat.zero_le _, rs_below hR hb1, rfl, btr (bal (bal (bal (Below.refl _ _) _) _) _) hb1, hS, ?_, ?_⟩
  · rw [hb1.block w.heap.size (by omega)]
    exact hp_old (hp_old (hp_new w _) _) _
  · rw [hb1.block (w.heap.size + 1) (by omega)]
    exact hp_old (hp_new1 w _ _) _
theorem pstep {X : List ByteArray} {A : Option Addr} {w W W' : World} {j : Nat} {s : S} {x : ByteArray} (hj : j < X.length) (hx : X[j] = x) (hr : run ((X.take j).map wl) 0 S0 = ((0, 0), s)) (hb : Below w.heap.size w W) (hS : lines.Strs W A X) (hA : ∀ g o, A = some ⟨g, o, none⟩ → w.heap.size + 2 < g)
    (h1 : W.heap[w.heap.size]? = some (.cells (tcs none 0 0 false 0) 24 (0, 0))) (h2 : W.heap[w.heap.size + 1]? = some (.cells (fcs 0 0) 29 (0, 0))) (hsz : w.heap.size + 2 < W.heap.size)
    (hk : Keep (w.heap.size + 2) W W') (he : stE (wl x) s = 0) (hR : RS (w.heap.size + 2) (stS (wl x) (j + 1) s) W') : PHead X A w (.int .i64 ((j : Int) + 1)) W' := by
  refine ⟨j + 1, _, rfl, hj, hR, ?_, hk.to_below hb (by omega) (by omega), strs_keep hS hk (fun g o e => by have := hA g o e; omega), ?_, ?_⟩
  · have := run_snoc hr he
    rw [List.length_map, List.length_take, Nat.min_eq_left (by omega)] at this
    rw [List.take_succ_eq_append_getElem hj, hx, List.map_append, List.map_cons, List.map_nil]
    exact this
  · rw [hk.block w.heap.size (by omega) (by omega)]; exact h1
  · rw [hk.block (w.heap.size + 1) (by omega) (by omega)]; exact h2
theorem pbad {X : List ByteArray} {j : Nat} {s : S} {x : ByteArray} (hj : j < X.length) (hx : X[j] = x) (hr : run ((X.take j).map wl) 0 S0 = ((0, 0), s)) (he : stE (wl x) s ≠ 0) : parse (X.map wl) = bad (j + 1) (stE (wl x) s) := by
  have e : X.map wl = (X.take j).map wl ++ wl x :: (X.drop (j + 1)).map wl := by
    rw [← List.map_cons, ← List.map_append, ← hx, ← List.drop_eq_getElem_cons hj, List.take_append_drop]
  rw [e, run_bad hr he, List.length_map, List.length_take, Nat.min_eq_left (by omega)]
theorem rs_same {b : Nat} {s s' : S} {W : World} (h : RS b s W) (h1 : s'.lv = s.lv) (h2 : s'.xl = s.xl) (h3 : s'.ex = s.ex) : RS b s' W := by
  obtain ⟨A, c, g1, g2, g3, g4⟩ := h
  exact ⟨A, c, by rw [g1, h1, h2, h3], by rw [h1]; exact g2, by rw [h1]; exact g3, g4⟩

/-! behind the loop -/
def rx (A : Option Addr) (n c : Nat) (has : Bool) (x : Int) (xl : Nat) (ex : Int) : Array Value := #[.slice A n c, .bool has, .int .i64 x, .int .i64 (xl : Nat), .int .i64 ex]
structure Rdy (s : S) (A : Option Addr) (c : Nat) (has : Bool) (x : Int) (w W : World) : Prop where
  box : W.heap[w.heap.size + 2]? = some (.cells (rx A s.lv.length c has x s.xl s.ex) 41 (0, 0))
  z1 : W.heap[w.heap.size]? = some (.cells (tcs none 0 0 false 0) 24 (0, 0))
  z2 : W.heap[w.heap.size + 1]? = some (.cells (fcs 0 0) 29 (0, 0))
  lps : Lps W A s.lv
  bel : Below w.heap.size w W
  size : w.heap.size + 2 < W.heap.size
theorem rdy_below {s : S} {A : Option Addr} {c : Nat} {has : Bool} {x : Int} {w W W' : World} (h : Rdy s A c has x w W) (hb : Below W.heap.size W W') : Rdy s A c has x w W' :=
  ⟨kept h.box hb, kept h.z1 hb, kept h.z2 hb, h.lps.below hb, btr h.bel hb, Nat.lt_of_lt_of_le h.size hb.size⟩
theorem rdy_fl {s : S} {A : Option Addr} {c : Nat} {has : Bool} {x : Int} {w W : World} (h : Rdy s A c has x w W) (tab : Array Value) : (W.setRow w.heap.size tab).heap[w.heap.size + 1]? = some (.cells (fcs 0 0) 29 (0, 0)) := by
  rw [setRow_other _ _ _ _ (by omega)]; exact h.z2
theorem rdy_cells {s : S} {A : Option Addr} {c : Nat} {has : Bool} {x : Int} {w W : World} (h : Rdy s A c has x w W) : W.cell? ⟨w.heap.size + 1 + 1, 0, none⟩ = some (.slice A s.lv.length c) ∧ W.cell? ⟨w.heap.size + 1 + 1, 1, none⟩ = some (.bool has) ∧ W.cell? ⟨w.heap.size + 1 + 1, 2, none⟩ = some (.int .i64 x) ∧ W.cell? ⟨w.heap.size + 1 + 1, 3, none⟩ = some (.int .i64 (s.xl : Nat)) ∧ W.cell? ⟨w.heap.size + 1 + 1, 4, none⟩ = some (.int .i64 s.ex) ∧
    ∀ j, W.frozen? ⟨w.heap.size + 1 + 1, j, none⟩ = false := ⟨row_cell h.box 0, row_cell h.box 1, row_cell h.box 2, row_cell h.box 3, row_cell h.box 4, fun j => frozen_of_row _ _ _ _ _ h.box⟩
theorem rdy_set {s : S} {A : Option Addr} {c : Nat} {w W : World} (h : Rdy s A c false 0 w W) (hA : ∀ g p, A = some ⟨g, p, none⟩ → g ≠ w.heap.size + 2) : Rdy s A c true s.ex w ((W.setCell ⟨w.heap.size + 1 + 1, 1, none⟩ (.bool true)).setCell ⟨w.heap.size + 1 + 1, 2, none⟩ (.int .i64 s.ex)) := by
  have K : Keep (w.heap.size + 2) W ((W.setCell ⟨w.heap.size + 1 + 1, 1, none⟩ (.bool true)).setCell ⟨w.heap.size + 1 + 1, 2, none⟩ (.int .i64 s.ex)) := ((Keep.refl _ W).setCell 1 _).setCell 2 _
  refine ⟨heap_setCell_same _ _ 2 _ _ _ (heap_setCell_same W _ 1 _ _ _ h.box), ?_, ?_, lps_keep h.lps K hA, K.to_below h.bel (by omega) h.bel.size, Nat.lt_of_lt_of_le h.size K.size⟩
  · rw [K.block w.heap.size (by have := h.size; omega) (by omega)]; exact h.z1
  · rw [K.block (w.heap.size + 1) (by have := h.size; omega) (by omega)]; exact h.z2
theorem out5 {w2 : World} {n : Nat} {u0 v0 x0 p0 q0 u v x p q : Value} {t t' : TypeId} (h1 : w2.heap[n]? = some (.cells #[u0, v0, x0] t (0, 0))) (h2 : w2.heap[n + 1]? = some (.cells #[p0, q0] t' (0, 0))) :
    (((((w2.setCell ⟨n, 0, none⟩ u).setCell ⟨n, 1, none⟩ v).setCell ⟨n, 2, none⟩ x).setCell ⟨n + 1, 0, none⟩ p).setCell ⟨n + 1, 1, none⟩ q).heap[n]? = some (.cells #[u, v, x] t (0, 0)) ∧
    (((((w2.setCell ⟨n, 0, none⟩ u).setCell ⟨n, 1, none⟩ v).setCell ⟨n, 2, none⟩ x).setCell ⟨n + 1, 0, none⟩ p).setCell ⟨n + 1, 1, none⟩ q).heap[n + 1]? = some (.cells #[p, q] t' (0, 0)) := by
  constructor
  · rw [heap_setCell_other _ ⟨n + 1, 1, none⟩ _ _ (by show n ≠ n + 1; omega), heap_setCell_other _ ⟨n + 1, 0, none⟩ _ _ (by show n ≠ n + 1; omega)]
    exact set3 h1
  · refine heap_setCell_same _ (n + 1) 1 #[p, q0] t' q (heap_setCell_same _ (n + 1) 0 #[p0, q0] t' p ?_)
    rw [heap_setCell_other _ ⟨n, 2, none⟩ _ _ (by show n + 1 ≠ n; omega), heap_setCell_other _ ⟨n, 1, none⟩ _ _ (by show n + 1 ≠ n; omega), heap_setCell_other _ ⟨n, 0, none⟩ _ _ (by show n + 1 ≠ n; omega)]
    exact h2
set_option maxHeartbeats 8000000 in
theorem parse_at (s0 : ByteArray) (w : World) (T : day.Tabs w) (TM : lines.ML w) (TN : Nm w) (hs : s0.size ≤ 300000) : Calls Tryz.prog 6 #[.string s0] w (PTold (parse ((splitS s0).map wl)) w) := by
  have hl := lines_len s0
  have LS := Lib.hid (fun (x : ByteArray) (hx : x ∈ splitS s0) => line_size hx)
  have SP : Hid (∀ W, Below w.heap.size w W → Calls Tryz.prog 15 #[.string s0] W (lines.Told W (splitS s0))) := fun W hb => lines.split_at s0 W (TM.below hb) (by omega)
  unfold lines.Told at SP
  generalize splitS s0 = X at *
  go_enter Tryz.func6, Tryz.ntmps6
  go_wp2
  go_step3
  go_wp2
  go_step3
  go_wp2_with (go_at_call 15; with_reducible refine (SP.out _ (bal (bal (bal (Below.refl _ _) _) _) _)).mono ?_; rintro e W1 ⟨A, c, rfl, hS, ⟨hc, hf⟩, hb1⟩)
  have HST := Lib.hid (pstart w rfl hb1 hS)
  have HA : Hid (∀ g o, A = some ⟨g, o, none⟩ → w.heap.size + 2 < g) := fun g o e => by
    have := hf g o e
    simp at this
    omega
  clear hb1 hS hf hc SP
  go_loopw [15] (fun t W => PHead X A w t W) (fun t _ => X.length - (intOf t).toNat)
  case atStart => exact HST.out
  case round =>
    obtain ⟨j, s, rfl, hjn, hR, hrun, hb, hS, hz1, hz2⟩ := hrel
    have hbl := rs_lt hR
    by_cases hlt : j < X.length
    · obtain ⟨g0, o0, rfl, hgl, hcell⟩ := hS (by intro e; rw [e] at hlt; simp at hlt)
      have c0 := hcell j hlt
      obtain ⟨x, hx⟩ : ∃ x, X[j]'hlt = x := ⟨_, rfl⟩
      rw [hx] at c0
      have hxs := LS.out x (by rw [← hx]; exact List.getElem_mem hlt)
      have hxl : (L x).length ≤ 300000 := by rw [L_len]; omega
      have hsm := lw_small (L x) hxl
      have hln := run_len ((X.take j).map wl)
      rw [hrun] at hln
      have hln : s.lv.length ≤ 200 := hln
      have hal := (ahd_len 35 (L x)).1
      have CU : Hid (∀ W, Below wr.heap.size wr W → Calls Tryz.prog 16 #[.string x, .string ⟨#[35]⟩] W fun e w' => ∃ f, e = .returned (.tuple #[.string (B (ahd 35 (L x))), .string (B (bhd 35 (L x))), .bool f]) ∧ Below W.heap.size W w') := fun W hW => by
        have := cut_at 35 (TM.below (btr hb hW)) (L x) (by omega)
        rw [B_L] at this
        exact this
      have WD : Hid (∀ W, Calls Tryz.prog 17 #[.string (B (ahd 35 (L x)))] W fun e w' => ∃ A c, e = .returned (.slice A (wl x).length c) ∧ Wds w' A (wl x) ∧ (wl x).length ≤ c ∧ Below W.heap.size W w') := fun W => by
        refine (lines.words_at (B (ahd 35 (L x))) W (by rw [B_size]; omega)).mono ?_
        rintro e w' ⟨A, c, rfl, h1, h2, h3⟩
        rw [said_words, List.length_map] at h2
        rw [said_words] at h1
        rw [said_words, List.length_map]
        exact ⟨A, c, rfl, h1, h2.1, h3⟩
      have KI : Hid (∀ A c W, Wds W A (wl x) → Calls Tryz.prog 18 #[.slice A (wl x).length c] W fun e w' => e = .returned (.int .i64 (kd (wl x) : Nat)) ∧ Below W.heap.size W w') := fun A c W h => kind_at (wl x) A c W h hsm
      have d1 : decide ((j : Int) < (X.length : Int)) = true := by simp; omega
      have d2 : decide (j < X.length) = true := by simp; omega
      have ST := Lib.hid (fun W' hk he hR' => pstep (W' := W') hlt hx hrun hb hS HA.out hz1 hz2 hbl hk he hR')
      have BD := Lib.hid (fun he => pbad hlt hx hrun he)
      have PE : Hid (∀ E, stE (wl x) s = E → E ≠ 0 → ∀ W', Keep (w.heap.size + 2) wr W' → ∀ tab fl, PTold (parse (X.map wl)) w (.returned (.tuple #[.agg (tcs none 0 0 false 0), .agg (fcs (j + 1) E)])) ((W'.setRow w.heap.size tab).setRow (w.heap.size + 1) fl)) := fun E hE h0 W' hk tab fl => by
        rw [BD.out (by rw [hE]; exact h0), hE]
        exact ptold_two (A := none) (c := 0) (o := bad (j + 1) E) (fun h => absurd rfl h) (Nat.le_refl _) (hk.to_below hb (by omega) (by omega)) (fun g p e => by cases e) tab fl _ rfl
      have Z1 : Hid (∀ W', Keep (w.heap.size + 2) wr W' → W'.heap[w.heap.size]? = some (.cells (tcs none 0 0 false 0) 24 (0, 0))) := fun W' hk => by rw [hk.block w.heap.size (by omega) (by omega)]; exact hz1
      have Z2 : Hid (∀ W', Keep (w.heap.size + 2) wr W' → ∀ tab, (W'.setRow w.heap.size tab).heap[w.heap.size + 1]? = some (.cells (fcs 0 0) 29 (0, 0))) := fun W' hk tab => by rw [setRow_other _ _ _ _ (by omega), hk.block (w.heap.size + 1) (by omega) (by omega)]; exact hz2
      have TL : Hid (kd (wl x) = 1 → ∀ A c W, Below wr.heap.size wr W → Wds W A (wl x) → (wl x).length ≤ c → Calls Tryz.prog 19 #[.pointer (some ⟨w.heap.size + 1 + 1, 0, none⟩), .slice A (wl x).length c] W (Took (w.heap.size + 2) W (lE (wl x) s) { s with lv := s.lv ++ [lpO (wl x)] })) := fun hk A c W hW hw hc => by
        have h7 := kd_len.1 hk
        rw [h7] at hc ⊢
        exact takeLeap_at (w.heap.size + 2) s (wl x) h7 A c W (T.below (btr hb hW)) (TM.below (btr hb hW)) (TN.below (btr hb hW)) (rs_below hR hW) hw hsm hc (by omega)
      have TX : Hid (kd (wl x) = 2 → ∀ A c W, Below wr.heap.size wr W → Wds W A (wl x) → (wl x).length ≤ c → Calls Tryz.prog 20 #[.pointer (some ⟨w.heap.size + 1 + 1, 0, none⟩), .slice A (wl x).length c, .int .i64 ((j : Int) + 1)] W (Took (w.heap.size + 2) W (xE (wl x) s) { s with xl := j + 1, ex := moN (mo (wl x)) * 86400 + moS (mo (wl x)) })) := fun hk A c W hW hw hc => by
        have h5 := kd_len.2.1 hk
        rw [h5] at hc ⊢
        exact takeExpiry_at (w.heap.size + 2) s (wl x) h5 A c (j + 1) (by omega) W (T.below (btr hb hW)) (TM.below (btr hb hW)) (TN.below (btr hb hW)) (rs_below hR hW) hw hsm hc
      have RW := Lib.hid (fun W' (hb' : Below wr.heap.size wr W') => rs_below hR hb')
      unfold Took at TL TX
      have hkd := kd_le (wl x)
      have EE : Hid (stE (wl x) s = if kd (wl x) = 0 then 0 else if kd (wl x) = 1 then lE (wl x) s else if kd (wl x) = 2 then xE (wl x) s else 2) := rfl
      have E1 : Hid (kd (wl x) = 1 → stS (wl x) (j + 1) s = { s with lv := s.lv ++ [lpO (wl x)] }) := fun h => by unfold stS; simp [h]
      have E2 : Hid (kd (wl x) = 2 → stS (wl x) (j + 1) s = { s with xl := j + 1, ex := moN (mo (wl x)) * 86400 + moS (mo (wl x)) }) := fun h => by unfold stS; simp [h]
      have E0 : Hid (kd (wl x) = 0 → stS (wl x) (j + 1) s = s) := fun h => by unfold stS; simp [h]
      clear hcell hR hrun hb hS hz1 hz2 hln hxl hxs hal hsm hx LS HST BD T TM TN
      generalize hK : kd (wl x) = K at *
      generalize stE (wl x) s = E at *
      have r0 : Below wr.heap.size wr wr := Below.refl _ _
      rcases (show K = 0 ∨ K = 1 ∨ K = 2 ∨ K = 3 by omega) with rfl | rfl | rfl | rfl
      · have hE : E = 0 := by rw [EE.out]; rfl
        have S1 : Hid (∀ W', Below wr.heap.size wr W' → PHead X (some ⟨g0, o0, none⟩) w (.int .i64 ((j : Int) + 1)) W') := fun W' hb' => ST.out W' (Keep.of_below hb') hE (by rw [E0.out rfl]; exact RW.out _ hb')
        clear ST PE Z1 Z2 TL TX RW EE E0 E1 E2 hE hkd
        go_wp2_with (first
          | (go_at_call 16; with_reducible refine (CU.out _ r0).mono ?_; rintro e w1 ⟨f, rfl, hb1⟩)
          | (go_at_call 17; with_reducible refine (WD.out _).mono ?_; rintro e w2 ⟨A2, c2, rfl, hw2, hc2, hb2⟩; have hb2 := btr hb1 hb2)
          | (go_at_call 18; with_reducible refine (KI.out _ _ _ hw2).mono ?_; rintro e w3 ⟨rfl, hb3⟩; have hb3 := btr hb2 hb3))
        go_roundw
        case rel => exact S1.out _ hb3
        case measure => simp [intOf]; omega
      · rw [if_neg (by decide), if_pos rfl] at EE
        have TL1 := Lib.hid (TL.out rfl)
        clear TX TL E0 E2
        by_cases he : lE (wl x) s = 0
        · have hE : E = 0 := by rw [EE.out]; exact he
          have S1 : Hid (∀ W3 W', Below wr.heap.size wr W3 → Keep (w.heap.size + 2) W3 W' → RS (w.heap.size + 2) { s with lv := s.lv ++ [lpO (wl x)] } W' → PHead X (some ⟨g0, o0, none⟩) w (.int .i64 ((j : Int) + 1)) W') := fun W3 W' h3 hk hR' => ST.out W' ((Keep.of_below h3).trans hk) hE (by rw [E1.out rfl]; exact hR')
          rw [he] at TL1
          clear ST PE Z1 Z2 RW EE E1 hE hkd he
          go_wp2_with (first
            | (go_at_call 16; with_reducible refine (CU.out _ r0).mono ?_; rintro e w1 ⟨f, rfl, hb1⟩)
            | (go_at_call 17; with_reducible refine (WD.out _).mono ?_; rintro e w2 ⟨A2, c2, rfl, hw2, hc2, hb2⟩; have hb2 := btr hb1 hb2)
            | (go_at_call 18; with_reducible refine (KI.out _ _ _ hw2).mono ?_; rintro e w3 ⟨rfl, hb3⟩; have hw3 := Wds.below hw2 hb3; have hb3 := btr hb2 hb3)
            | (go_at_call 19; with_reducible refine (TL1.out _ _ _ hb3 hw3 hc2).mono ?_; rintro e w4 ⟨rfl, hk4, h4⟩))
          go_roundw
          case rel => exact S1.out _ _ hb3 hk4 (h4 (by simp))
          case measure => simp [intOf]; omega
        · have hne : lE (wl x) s ≠ 0 := he
          have t1 : (lE (wl x) s != 0) = true := by simpa using he
          have PE1 := Lib.hid (fun W3 W' (h3 : Below wr.heap.size wr W3) (hk : Keep (w.heap.size + 2) W3 W') => PE.out (lE (wl x) s) EE.out hne W' ((Keep.of_below h3).trans hk))
          have Y1a := Lib.hid (fun W3 W' (h3 : Below wr.heap.size wr W3) (hk : Keep (w.heap.size + 2) W3 W') => Z1.out W' ((Keep.of_below h3).trans hk))
          have Y2a := Lib.hid (fun W3 W' (h3 : Below wr.heap.size wr W3) (hk : Keep (w.heap.size + 2) W3 W') => Z2.out W' ((Keep.of_below h3).trans hk))
          clear ST PE Z1 Z2 RW EE E1 hkd he hne
          generalize lE (wl x) s = E' at *
          go_wp2_with (first
            | (go_at_call 16; with_reducible refine (CU.out _ r0).mono ?_; rintro e w1 ⟨f, rfl, hb1⟩)
            | (go_at_call 17; with_reducible refine (WD.out _).mono ?_; rintro e w2 ⟨A2, c2, rfl, hw2, hc2, hb2⟩; have hb2 := btr hb1 hb2)
            | (go_at_call 18; with_reducible refine (KI.out _ _ _ hw2).mono ?_; rintro e w3 ⟨rfl, hb3⟩; have hw3 := Wds.below hw2 hb3; have hb3 := btr hb2 hb3)
            | (go_at_call 19; with_reducible refine (TL1.out _ _ _ hb3 hw3 hc2).mono ?_; rintro e w4 ⟨rfl, hk4, _⟩; have Y1 := Lib.hid (Y1a.out _ _ hb3 hk4); have Y2 := Lib.hid (Y2a.out _ _ hb3 hk4); have Y3 := Lib.hid (PE1.out _ _ hb3 hk4))
            | (refine wpList_store_row rfl 24 (.tmp 2) (.tmp 44) rfl w.heap.size (tcs none 0 0 false 0) rfl rfl _ _ Y1.out szTab rfl (leap.tcs_one _ _ _ _ _) ?_)
            | (refine wpList_store_row rfl 29 (.tmp 3) (.tmp 48) rfl (w.heap.size + 1) (fcs (j + 1) E') rfl rfl _ _ (Y2.out _) szF rfl (fcs_one _ _) ?_))
          refine end_two rfl _ _ w.heap.size (w.heap.size + 1) 24 29 (tcs none 0 0 false 0) (fcs (j + 1) E') _ _ rfl rfl ?_ (setRow_heap _ _ _ _ _ _ (Y2.out _)) Tryz.underlying24 Tryz.underlying29 szTab szF rfl (Y3.out _ _)
          rw [setRow_other _ _ _ _ (by omega)]
          exact setRow_heap _ _ _ _ _ _ Y1.out
      · rw [if_neg (by decide), if_neg (by decide), if_pos rfl] at EE
        have TX1 := Lib.hid (TX.out rfl)
        clear TX TL E0 E1
        have wj : IntKind.i64.wrap ((j : Int) + 1) = (j : Int) + 1 := IntWalk.i64_in _ (by omega)
        by_cases he : xE (wl x) s = 0
        · have hE : E = 0 := by rw [EE.out]; exact he
          have S1 : Hid (∀ W3 W', Below wr.heap.size wr W3 → Keep (w.heap.size + 2) W3 W' → RS (w.heap.size + 2) { s with xl := j + 1, ex := moN (mo (wl x)) * 86400 + moS (mo (wl x)) } W' → PHead X (some ⟨g0, o0, none⟩) w (.int .i64 ((j : Int) + 1)) W') := fun W3 W' h3 hk hR' => ST.out W' ((Keep.of_below h3).trans hk) hE (by rw [E2.out rfl]; exact hR')
          rw [he] at TX1
          clear ST PE Z1 Z2 RW EE E2 hE hkd he
          go_wp2_with (first
            | (go_at_call 16; with_reducible refine (CU.out _ r0).mono ?_; rintro e w1 ⟨f, rfl, hb1⟩)
            | (go_at_call 17; with_reducible refine (WD.out _).mono ?_; rintro e w2 ⟨A2, c2, rfl, hw2, hc2, hb2⟩; have hb2 := btr hb1 hb2)
            | (go_at_call 18; with_reducible refine (KI.out _ _ _ hw2).mono ?_; rintro e w3 ⟨rfl, hb3⟩; have hw3 := Wds.below hw2 hb3; have hb3 := btr hb2 hb3)
            | (go_at_call 20; with_reducible refine (TX1.out _ _ _ hb3 hw3 hc2).mono ?_; rintro e w4 ⟨rfl, hk4, h4⟩))
          go_roundw
          case rel => exact S1.out _ _ hb3 hk4 (h4 (by simp))
          case measure => simp [intOf]; omega
        · have hne : xE (wl x) s ≠ 0 := he
          have t1 : (xE (wl x) s != 0) = true := by simpa using he
          have PE1 := Lib.hid (fun W3 W' (h3 : Below wr.heap.size wr W3) (hk : Keep (w.heap.size + 2) W3 W') => PE.out (xE (wl x) s) EE.out hne W' ((Keep.of_below h3).trans hk))
          have Y1a := Lib.hid (fun W3 W' (h3 : Below wr.heap.size wr W3) (hk : Keep (w.heap.size + 2) W3 W') => Z1.out W' ((Keep.of_below h3).trans hk))
          have Y2a := Lib.hid (fun W3 W' (h3 : Below wr.heap.size wr W3) (hk : Keep (w.heap.size + 2) W3 W') => Z2.out W' ((Keep.of_below h3).trans hk))
          clear ST PE Z1 Z2 RW EE E2 hkd he hne
          generalize xE (wl x) s = E' at *
          go_wp2_with (first
            | (go_at_call 16; with_reducible refine (CU.out _ r0).mono ?_; rintro e w1 ⟨f, rfl, hb1⟩)
            | (go_at_call 17; with_reducible refine (WD.out _).mono ?_; rintro e w2 ⟨A2, c2, rfl, hw2, hc2, hb2⟩; have hb2 := btr hb1 hb2)
            | (go_at_call 18; with_reducible refine (KI.out _ _ _ hw2).mono ?_; rintro e w3 ⟨rfl, hb3⟩; have hw3 := Wds.below hw2 hb3; have hb3 := btr hb2 hb3)
            | (go_at_call 20; with_reducible refine (TX1.out _ _ _ hb3 hw3 hc2).mono ?_; rintro e w4 ⟨rfl, hk4, _⟩; have Y1 := Lib.hid (Y1a.out _ _ hb3 hk4); have Y2 := Lib.hid (Y2a.out _ _ hb3 hk4); have Y3 := Lib.hid (PE1.out _ _ hb3 hk4))
            | (refine wpList_store_row rfl 24 (.tmp 2) (.tmp 44) rfl w.heap.size (tcs none 0 0 false 0) rfl rfl _ _ Y1.out szTab rfl (leap.tcs_one _ _ _ _ _) ?_)
            | (refine wpList_store_row rfl 29 (.tmp 3) (.tmp 48) rfl (w.heap.size + 1) (fcs (j + 1) E') rfl rfl _ _ (Y2.out _) szF rfl (fcs_one _ _) ?_))
          refine end_two rfl _ _ w.heap.size (w.heap.size + 1) 24 29 (tcs none 0 0 false 0) (fcs (j + 1) E') _ _ rfl rfl ?_ (setRow_heap _ _ _ _ _ _ (Y2.out _)) Tryz.underlying24 Tryz.underlying29 szTab szF rfl (Y3.out _ _)
          rw [setRow_other _ _ _ _ (by omega)]
          exact setRow_heap _ _ _ _ _ _ Y1.out
      · rw [if_neg (by decide), if_neg (by decide), if_neg (by decide)] at EE
        have PE1 := Lib.hid (fun W3 (h3 : Below wr.heap.size wr W3) => PE.out 2 EE.out (by decide) W3 (Keep.of_below h3))
        have Y1a := Lib.hid (fun W3 (h3 : Below wr.heap.size wr W3) => Z1.out W3 (Keep.of_below h3))
        have Y2a := Lib.hid (fun W3 (h3 : Below wr.heap.size wr W3) => Z2.out W3 (Keep.of_below h3))
        clear ST PE Z1 Z2 RW EE E0 E1 E2 hkd TL TX
        go_wp2_with (first
          | (go_at_call 16; with_reducible refine (CU.out _ r0).mono ?_; rintro e w1 ⟨f, rfl, hb1⟩)
          | (go_at_call 17; with_reducible refine (WD.out _).mono ?_; rintro e w2 ⟨A2, c2, rfl, hw2, hc2, hb2⟩; have hb2 := btr hb1 hb2)
          | (go_at_call 18; with_reducible refine (KI.out _ _ _ hw2).mono ?_; rintro e w3 ⟨rfl, hb3⟩; have hb3 := btr hb2 hb3; have Y1 := Lib.hid (Y1a.out _ hb3); have Y2 := Lib.hid (Y2a.out _ hb3); have Y3 := Lib.hid (PE1.out _ hb3))
          | (refine wpList_store_row rfl 24 (.tmp 2) (.tmp 44) rfl w.heap.size (tcs none 0 0 false 0) rfl rfl _ _ Y1.out szTab rfl (leap.tcs_one _ _ _ _ _) ?_)
          | (refine wpList_store_row rfl 29 (.tmp 3) (.tmp 48) rfl (w.heap.size + 1) (fcs (j + 1) 2) rfl rfl _ _ (Y2.out _) szF rfl (fcs_one _ _) ?_))
        refine end_two rfl _ _ w.heap.size (w.heap.size + 1) 24 29 (tcs none 0 0 false 0) (fcs (j + 1) 2) _ _ rfl rfl ?_ (setRow_heap _ _ _ _ _ _ (Y2.out _)) Tryz.underlying24 Tryz.underlying29 szTab szF rfl (Y3.out _ _)
        rw [setRow_other _ _ _ _ (by omega)]
        exact setRow_heap _ _ _ _ _ _ Y1.out
    · obtain rfl : j = X.length := by omega
      rw [List.take_of_length_le (Nat.le_refl _)] at hrun
      have hfin := run_fin hrun
      have hln := run_len (X.map wl)
      rw [hrun] at hln
      have hln : s.lv.length ≤ 200 := hln
      obtain ⟨A3, c3, hg3, hl3, hc3, hne3⟩ := hR
      have RZ : Hid (Rdy s A3 c3 false 0 w wr) := ⟨hg3, hz1, hz2, hl3, hb, hbl⟩
      have hne4 : ∀ g p, A3 = some ⟨g, p, none⟩ → w.heap.size + 1 < g := fun g p e => by have := (hne3 g p e).2; omega
      have PB : Hid (∀ n cd, parse (X.map wl) = bad n cd → ∀ has x W', Rdy s A3 c3 has x w W' → ∀ tab fl, PTold (parse (X.map wl)) w (.returned (.tuple #[.agg (tcs none 0 0 false 0), .agg (fcs n cd)])) ((W'.setRow w.heap.size tab).setRow (w.heap.size + 1) fl)) := fun n cd e has x W' h tab fl => by
        rw [e]
        exact ptold_two (A := none) (c := 0) (o := bad n cd) (fun h => absurd rfl h) (Nat.le_refl _) h.bel (fun g p e => by cases e) tab fl _ rfl
      have PG : Hid (∀ has x, parse (X.map wl) = ⟨0, 0, s.lv, has, x⟩ → ∀ W', Rdy s A3 c3 has x w W' → ∀ tab fl, PTold (parse (X.map wl)) w (.returned (.tuple #[.agg (tcs A3 s.lv.length c3 has x), .agg (fcs 0 0)])) ((W'.setRow w.heap.size tab).setRow (w.heap.size + 1) fl)) := fun has x e W' h tab fl => by
        rw [e]
        exact ptold_two (A := A3) (c := c3) (o := ⟨0, 0, s.lv, has, x⟩) h.lps hc3 h.bel hne4 tab fl _ rfl
      have HNE : Hid (∀ g p, A3 = some ⟨g, p, none⟩ → g ≠ w.heap.size + 2) := fun g p e => (hne3 g p e).1
      obtain ⟨c0, c1, c2, c3', c4, fz⟩ := rdy_cells RZ.out
      clear LS HST hS HA hrun hg3 hl3 hne3 hne4 hz1 hz2 hb
      by_cases hxl : s.xl = 0
      · have hpr : parse (X.map wl) = ⟨0, 0, s.lv, false, 0⟩ := by rw [hfin]; unfold fin; rw [if_pos hxl]
        have ux : ((s.xl : Int) != 0) = false := by rw [hxl]; rfl
        have Y3 := Lib.hid (fun W' h => PG.out _ _ hpr W' h)
        have YA := Lib.hid RZ.out.z1
        have YB := Lib.hid (fun tab => rdy_fl RZ.out tab)
        clear PB PG hpr hfin hxl
        go_wp2_with (first
          | (refine wpList_store_row rfl 24 (.tmp 2) (.tmp 68) rfl w.heap.size (tcs A3 s.lv.length c3 false 0) rfl rfl _ _ YA.out szTab rfl (leap.tcs_one _ _ _ _ _) ?_)
          | (refine wpList_store_row rfl 29 (.tmp 3) (.tmp 69) rfl (w.heap.size + 1) (fcs 0 0) rfl rfl _ _ (YB.out _) szF rfl (fcs_one _ _) ?_))
        refine end_two rfl _ _ w.heap.size (w.heap.size + 1) 24 29 (tcs A3 s.lv.length c3 false 0) (fcs 0 0) _ _ rfl rfl ?_ (setRow_heap _ _ _ _ _ _ (YB.out _)) Tryz.underlying24 Tryz.underlying29 szTab szF rfl (Y3.out _ RZ.out _ _)
        rw [setRow_other _ _ _ _ (by omega)]
        exact setRow_heap _ _ _ _ _ _ YA.out
      · have ux : ((s.xl : Int) != 0) = true := by simp; omega
        have RS2 := Lib.hid (rdy_set RZ.out HNE.out)
        have RI : Hid (∀ W, Rdy s A3 c3 true s.ex w W → Calls Tryz.prog 21 #[.agg #[.slice A3 s.lv.length c3, .bool true, .int .i64 s.ex]] W fun e w' => e = .returned (.bool (ce s.lv true s.ex == 0)) ∧ Below W.heap.size W w') := fun W h => leap.right_at s.lv A3 c3 true s.ex W (T.below h.bel) h.lps (by omega)
        by_cases hce : ce s.lv true s.ex = 0
        · have hpr : parse (X.map wl) = ⟨0, 0, s.lv, true, s.ex⟩ := by rw [hfin]; unfold fin; rw [if_neg hxl, if_pos hce]
          have Y3 := Lib.hid (fun W' h => PG.out _ _ hpr W' h)
          rw [show (ce s.lv true s.ex == 0) = true by rw [hce]; rfl] at RI
          clear PB PG hpr hfin hxl hce
          go_wp2_with (first
            | (go_at_call 21; with_reducible refine (RI.out _ RS2.out).mono ?_; rintro e w2 ⟨rfl, hb2⟩; have RV := Lib.hid (rdy_below RS2.out hb2); clear c0 c1 c2 c3' c4 fz; obtain ⟨c0, c1, c2, c3', c4, fz⟩ := rdy_cells RV.out; have YA := Lib.hid RV.out.z1; have YB := Lib.hid (fun tab => rdy_fl RV.out tab))
            | (refine wpList_store_row rfl 24 (.tmp 2) (.tmp 68) rfl w.heap.size (tcs A3 s.lv.length c3 true s.ex) rfl rfl _ _ YA.out szTab rfl (leap.tcs_one _ _ _ _ _) ?_)
            | (refine wpList_store_row rfl 29 (.tmp 3) (.tmp 69) rfl (w.heap.size + 1) (fcs 0 0) rfl rfl _ _ (YB.out _) szF rfl (fcs_one _ _) ?_))
          refine end_two rfl _ _ w.heap.size (w.heap.size + 1) 24 29 (tcs A3 s.lv.length c3 true s.ex) (fcs 0 0) _ _ rfl rfl ?_ (setRow_heap _ _ _ _ _ _ (YB.out _)) Tryz.underlying24 Tryz.underlying29 szTab szF rfl (Y3.out _ RV.out _ _)
          rw [setRow_other _ _ _ _ (by omega)]
          exact setRow_heap _ _ _ _ _ _ YA.out
        · have hpr : parse (X.map wl) = bad s.xl 9 := by rw [hfin]; unfold fin; rw [if_neg hxl, if_neg hce]
          rw [show (ce s.lv true s.ex == 0) = false by simpa using hce] at RI
          clear PB PG hfin hxl hce
          go_wp2_with (go_at_call 21; with_reducible refine (RI.out _ RS2.out).mono ?_; rintro e w2 ⟨rfl, hb2⟩; have RV := Lib.hid (rdy_below RS2.out hb2))
          have RD : Hid (Rdy s A3 c3 true s.ex w w2.drew) := rdy_below RV.out (bel_drewN (Below.refl _ _) 1)
          clear c0 c1 c2 c3' c4 fz
          obtain ⟨c0, c1, c2, c3', c4, fz⟩ := rdy_cells RD.out
          have YA := Lib.hid RD.out.z1
          have YB := Lib.hid RD.out.z2
          obtain ⟨y0, y1, y2⟩ := leap.tcs_cells YA.out
          have y3 : w2.drew.cell? ⟨w.heap.size + 1, 0, none⟩ = some (.int .i64 0) := row_cell YB.out 0
          have y4 : w2.drew.cell? ⟨w.heap.size + 1, 1, none⟩ = some (.int .i64 0) := row_cell YB.out 1
          obtain ⟨x0, x1, x2⟩ := leap.tcs_cells RV.out.z1
          have x3 : w2.cell? ⟨w.heap.size + 1, 0, none⟩ = some (.int .i64 0) := row_cell RV.out.z2 0
          have x4 : w2.cell? ⟨w.heap.size + 1, 1, none⟩ = some (.int .i64 0) := row_cell RV.out.z2 1
          obtain ⟨e0, e1, e2, e3', e4, ez⟩ := rdy_cells RV.out
          have g1 := fun j => frozen_of_row _ _ j _ _ RV.out.z1
          have g2 := fun j => frozen_of_row _ _ j _ _ RV.out.z2
          have f1 := fun j => frozen_of_row _ _ j _ _ YA.out
          have f2 := fun j => frozen_of_row _ _ j _ _ YB.out
          have PBx : Hid (∀ W', Below w.heap.size w W' → PTold (parse (X.map wl)) w (.returned (.tuple #[.agg (tcs none 0 0 false 0), .agg (fcs s.xl 9)])) W') := fun W' hb' => by
            rw [hpr]
            exact ⟨none, 0, rfl, fun h => absurd rfl h, Nat.le_refl _, hb'⟩
          go_region
          go_wp2
          obtain ⟨o1, o2⟩ := out5 (u := .slice none 0 0) (v := .bool false) (x := .int .i64 0) (p := .int .i64 (s.xl : Nat)) (q := .int .i64 9) RV.out.z1 RV.out.z2
          refine end_two rfl _ _ w.heap.size (w.heap.size + 1) 24 29 (tcs none 0 0 false 0) (fcs s.xl 9) _ _ rfl rfl o1 o2 Tryz.underlying24 Tryz.underlying29 szTab szF rfl (PBx.out _ ?_)
          exact bel_drewN (((((RV.out.bel.setCell (p := ⟨w.heap.size, 0, none⟩) (Nat.le_refl _) _).setCell (p := ⟨w.heap.size, 1, none⟩) (Nat.le_refl _) _).setCell (p := ⟨w.heap.size, 2, none⟩) (Nat.le_refl _) _).setCell (p := ⟨w.heap.size + 1, 0, none⟩) (Nat.le_succ _) _).setCell (p := ⟨w.heap.size + 1, 1, none⟩) (Nat.le_succ _) _) 1
end Go.Proofs.YtiboijhfieaepaaGreatDoor.zic
