/-
  What ntp's Hash answers: the five numbers of a text of five words, or noughts and false. Condition: the text has fewer than 2^32 - 15 bytes.
-/
import Derived.Test.YtfnkloecfjppeaaDoorNtpWord
import Derived.Test.YtfnkloecfjppeaaDoorLinesWords
import Derived.Test.YtfnkloecfjppeaaDoorShaSmall
namespace Go.Proofs.YtfnkloecfjppeaaDoor.ntp
open Go.ChangeShapes Go.WideShapes Go.ChangeAt Go.RowKit
open lx nx sx
open sha (upto upto_set upto_all upto_zero hp_new hp_old row_cell row_set szc sz5 kept bal btr bel_setRow)
set_option linter.unusedVariables false

/-- 'return x, ok', x an array. -/
theorem end_pair {fn : Func} {R : Ending → World → Prop} {p q : Tmp} {ty : TypeId} (hr : fn.results = #[.cell p ty, .tmp q]) (a : Act) (w : World) (g : Nat) (t : TypeId) (c : Array Value) (n : Nat) (e : TypeId) (v : Value)
    (hp : a.tmps.getD p undef = .pointer (some ⟨g, 0, none⟩)) (hq : a.tmps.getD q undef = v) (hg : w.heap[g]? = some (.cells c t (0, 0))) (hu : Tryd.prog.underlying ty = some (.array n e))
    (hi : (Tryd.prog.info? ty).map (·.size) = some c.size) (hdf : a.defers = []) (h : R (.returned (.tuple #[.agg c, v])) w) : bodyPost Tryd.prog fn R .ret a w := by
  refine bodyPost_ret (v := .tuple #[.agg c, v]) ?_ hdf h
  have hp' : a.tmps[p]?.getD undef = .pointer (some ⟨g, 0, none⟩) := by simpa using hp
  have hq' : a.tmps[q]?.getD undef = v := by simpa using hq
  simp [results, hr, hp', hq', asAddr, run_loadVar_row w g t ty c (0, 0) _ hg hu rfl hi]
def z5 : Array Value := #[.int .u32 0, .int .u32 0, .int .u32 0, .int .u32 0, .int .u32 0]
theorem z5_cs : z5 = cs .u32 (fun _ => 0) 5 := rfl
def HTold (s : ByteArray) (w : World) (e : Ending) (w' : World) : Prop := e = .returned (.tuple #[.agg (cs .u32 (hN s) 5), .bool (hT s)]) ∧ Below w.heap.size w w'
theorem htold_no {s : ByteArray} {w W : World} (h : hT s = false) (hb : Below w.heap.size w W) : HTold s w (.returned (.tuple #[.agg z5, .bool false])) W := by
  refine ⟨?_, hb⟩
  rw [h, cs_congr .u32 (hN s) (fun _ => 0) 5 (fun j _ => hN_no h j)]
  rfl
theorem htold_yes {s : ByteArray} {w W : World} (h : hT s = true) (hb : Below w.heap.size w W) : HTold s w (.returned (.tuple #[.agg (cs .u32 (fun k => wN (wat s k)) 5), .bool true])) W := by
  refine ⟨?_, hb⟩
  rw [h, cs_congr .u32 (hN s) (fun k => wN (wat s k)) 5 (fun j _ => hN_yes h j)]
/-- at the head of a round. -/
def HHead (s : ByteArray) (A : Option Addr) (w : World) (t : Value) (W : World) : Prop :=
  ∃ k : Nat, t = .int .i64 k ∧ k ≤ 5 ∧ W.heap[w.heap.size]? = some (.cells z5 23) ∧ W.heap[w.heap.size + 1]? = some (.cells (cs .u32 (upto (fun k => wN (wat s k)) k) 5) 23) ∧ lines.Strs W A (wordsS s) ∧ (∀ j, j < k → wT (wat s j) = true) ∧ Below w.heap.size w W
theorem hhead_start {s : ByteArray} {A : Option Addr} {w w1 : World} (hb : Below ((w.alloc (.cells z5 23)).alloc (.cells z5 23)).heap.size ((w.alloc (.cells z5 23)).alloc (.cells z5 23)) w1) (hs : lines.Strs w1 A (wordsS s)) : HHead s A w (.int .i64 0) w1 := by
  refine ⟨0, rfl, by omega, kept (hp_old (hp_new w _) _) hb, ?_, hs, (fun j hj => by omega), ?_⟩
  · rw [upto_zero, ← z5_cs]
    refine kept ?_ hb
    have := hp_new (w.alloc (.cells z5 23)) (.cells z5 23)
    rw [show (w.alloc (.cells z5 23)).heap.size = w.heap.size + 1 by simp] at this
    exact this
  · exact btr (bal (bal (Below.refl _ _) _) _) hb
theorem wat_of {W : World} {A : Option Addr} {s : ByteArray} (h : lines.Strs W A (wordsS s)) (k : Nat) (hk : k < (wordsS s).length) : ∃ b o x, A = some ⟨b, o, none⟩ ∧ b < W.heap.size ∧ W.cell? ⟨b, o + k, none⟩ = some (.string x) ∧ L x = wat s k ∧ (wordsS s)[k]? = some x := by
  obtain ⟨b, o, e, hb, hc⟩ := h (fun e => by rw [e] at hk; simp at hk)
  refine ⟨b, o, _, e, hb, hc k hk, ?_, List.getElem?_eq_getElem hk⟩
  unfold wat
  rw [List.getD_eq_getElem?_getD, List.getElem?_eq_getElem hk]
  rfl
theorem wat_size {s x : ByteArray} {k : Nat} (h : (wordsS s)[k]? = some x) : x.size ≤ s.size := by
  obtain ⟨y, hy, rfl⟩ := List.mem_map.1 (List.mem_of_getElem? h)
  have t := wds_tot (L s) []
  have m : ∀ l : List (List UInt8), y ∈ l → y.length ≤ tot l := by
    intro l
    induction l with
    | nil => intro h; cases h
    | cons a r ih =>
      intro h
      rcases List.mem_cons.1 h with rfl | h
      · rw [tot]; omega
      · rw [tot]; have := ih h; omega
  have := m _ hy
  rw [B_size]
  have z : (L s).length = s.size := rfl
  simp at t
  omega
theorem strs_set {W : World} {A : Option Addr} {l : List ByteArray} {g i : Nat} {v : Value} {f : Nat → Nat} {t : TypeId} (h : lines.Strs W A l) (hg : W.heap[g]? = some (.cells (cs .u32 f 5) t (0, 0))) : lines.Strs (W.setCell ⟨g, i, none⟩ v) A l := by
  intro hl
  obtain ⟨b, o, e, hb, hc⟩ := h hl
  have hne : b ≠ g := by
    rintro rfl
    have h0 := hc 0 (List.length_pos_iff.2 hl)
    rw [cell_of_row W b (o + 0) _ _ _ hg] at h0
    by_cases ho : o + 0 < 5
    · rw [cs_get _ _ _ _ ho] at h0; cases h0
    · rw [Array.getElem?_eq_none (by rw [cs_size]; omega)] at h0; cases h0
  have K := (sha.Keep.refl g W).setCell i v
  exact ⟨b, o, e, Nat.lt_of_lt_of_le hb K.size, fun k hk => K.cell (p := ⟨b, o + k, none⟩) hne (hc k hk)⟩
theorem word_here {s x : ByteArray} {k : Nat} {b : Bool} (ex : L x = wat s k) (ht : wT (wat s k) = b) (hs : x.size ≤ 9223372036854775807) (W : World) :
    Calls Tryd.prog 13 #[.string x] W fun e w' => e = .returned (.tuple #[.int .u32 (wN (wat s k) : Nat), .bool b]) ∧ Below W.heap.size W w' :=
  (word_at x W hs).mono fun e w' ⟨he, hw⟩ => ⟨by rw [he, ex, ht], hw⟩
theorem row_facts {W W' : World} {g : Nat} {f : Nat → Nat} {t : TypeId} {k : Nat} (hg : W.heap[g]? = some (.cells (cs .u32 f 5) t (0, 0))) (hb : Below W.heap.size W W') (hk : k < 5) : W'.cell? ⟨g, k, none⟩ = some (.int .u32 (f k : Nat)) ∧ W'.frozen? ⟨g, k, none⟩ = false :=
  ⟨row_cell (kept hg hb) k _ (cs_get _ _ _ _ hk), frozen_of_row _ _ _ _ _ (kept hg hb)⟩
/-- noughts laid over noughts. -/
theorem zeros_set {W : World} {g : Nat} (h : W.heap[g]? = some (.cells z5 23)) :
    (((((W.setCell ⟨g, 0, none⟩ (.int .u32 0)).setCell ⟨g, 1, none⟩ (.int .u32 0)).setCell ⟨g, 2, none⟩ (.int .u32 0)).setCell ⟨g, 3, none⟩ (.int .u32 0)).setCell ⟨g, 4, none⟩ (.int .u32 0)).heap[g]? = some (.cells z5 23) :=
  row_set (i := 4) (v := .int .u32 0) (row_set (i := 3) (v := .int .u32 0) (row_set (i := 2) (v := .int .u32 0) (row_set (i := 1) (v := .int .u32 0) (row_set (i := 0) (v := .int .u32 0) h))))
theorem zeros_below {w W : World} {g : Nat} (hg : w.heap.size ≤ g) (hb : Below w.heap.size w W) :
    Below w.heap.size w (((((W.setCell ⟨g, 0, none⟩ (.int .u32 0)).setCell ⟨g, 1, none⟩ (.int .u32 0)).setCell ⟨g, 2, none⟩ (.int .u32 0)).setCell ⟨g, 3, none⟩ (.int .u32 0)).setCell ⟨g, 4, none⟩ (.int .u32 0)) :=
  ((((hb.setCell (p := ⟨g, 0, none⟩) hg _).setCell (p := ⟨g, 1, none⟩) hg _).setCell (p := ⟨g, 2, none⟩) hg _).setCell (p := ⟨g, 3, none⟩) hg _).setCell (p := ⟨g, 4, none⟩) hg _
theorem zeros_at {W : World} {g : Nat} (h : W.heap[g]? = some (.cells z5 23)) :
    W.cell? ⟨g, 0, none⟩ = some (.int .u32 0) ∧ W.cell? ⟨g, 1, none⟩ = some (.int .u32 0) ∧ W.cell? ⟨g, 2, none⟩ = some (.int .u32 0) ∧ W.cell? ⟨g, 3, none⟩ = some (.int .u32 0) ∧ W.cell? ⟨g, 4, none⟩ = some (.int .u32 0) ∧ ∀ j, W.frozen? ⟨g, j, none⟩ = false :=
  ⟨row_cell h 0 _ rfl, row_cell h 1 _ rfl, row_cell h 2 _ rfl, row_cell h 3 _ rfl, row_cell h 4 _ rfl, fun j => frozen_of_row _ _ _ _ _ h⟩
set_option maxHeartbeats 2000000 in
theorem hash_at (s : ByteArray) (w : World) (hs : s.size < 4294967281) : Calls Tryd.prog 15 #[.string s] w (HTold s w) := by
  have C := Lib.hid (fun W => lines.words_at s W hs)
  have hwl : (wordsS s).length ≤ s.size := by
    unfold wordsS
    rw [List.length_map]
    have := wds_len (L s) []
    have z : (L s).length = s.size := rfl
    simp at this
    omega
  by_cases h5 : (wordsS s).length = 5
  · go_enter Tryd.func15, Tryd.ntmps15
    go_wp2_with (go_at_call 19; (with_reducible refine (C.out _).mono ?_); rintro e w1 ⟨A, c, rfl, hstr, hcap, hb1⟩; rw [h5]; have H0 := Lib.hid (hhead_start (w := w) hb1 hstr))
    rw [h5] at hcap
    go_loopw [18] (fun t W => HHead s A w t W) (fun t _ => 5 - (intOf t).toNat)
    case atStart => exact H0.out
    case round =>
      obtain ⟨k, rfl, hk, g0, g1, hst, hok, hb⟩ := hrel
      have hbs := hb.size
      by_cases hlt : k < 5
      · obtain ⟨b, o, x, rfl, hblt, cx, ex, ex2⟩ := wat_of hst k (by omega)
        have xs := wat_size ex2
        cases ht : wT (wat s k) with
        | true =>
          have R : Hid (∀ w2, Below wr.heap.size wr w2 → HHead s (some ⟨b, o, none⟩) w (.int .i64 ((k : Int) + 1)) (w2.setCell ⟨w.heap.size + 1, k, none⟩ (.int .u32 (wN (wat s k) : Nat)))) := by
            intro w2 hb2
            have hb3 := btr hb hb2
            refine ⟨k + 1, rfl, by omega, ?_, ?_, strs_set (hst.below hb2) (kept g1 hb2), ?_, hb3.setCell (p := ⟨w.heap.size + 1, k, none⟩) (by show w.heap.size ≤ w.heap.size + 1; omega) _⟩
            · rw [Below.heap_setCell _ _ _ _ (by simp)]; exact kept g0 hb2
            · rw [row_set (kept g1 hb2)]
              congr 2
              exact upto_set .u32 (fun k => wN (wat s k)) k 5 _ rfl
            · intro j hj
              rcases Nat.lt_or_ge j k with h | h
              · exact hok j h
              · obtain rfl : j = k := by omega
                exact ht
          have WD := Lib.hid (word_here ex ht (by omega) wr)
          have G1 := Lib.hid g1
          have hNlt := wN_lt (wat s k)
          clear ex ex2 ht hok g0 g1 hst
          generalize wN (wat s k) = N at *
          go_wp2_with (go_at_call 13; (with_reducible refine WD.out.mono ?_); rintro e w2 ⟨rfl, hb2⟩; obtain ⟨c2, f2⟩ := row_facts G1.out hb2 hlt)
          go_roundw
          case rel => exact R.out _ hb2
          case measure => simp [intOf]; omega
        | false =>
          have R := Lib.hid (fun W' hb' => htold_no (w := w) (W := W') (hT_bad hlt ht) hb')
          have WD := Lib.hid (word_here ex ht (by omega) wr)
          have G0 := Lib.hid g0
          clear ex ex2 ht hok g0 g1 hst
          generalize wN (wat s k) = N at *
          go_wp2_with (go_at_call 13; (with_reducible refine WD.out.mono ?_); rintro e w2 ⟨rfl, hb2⟩; have G2 := Lib.hid (kept G0.out hb2); obtain ⟨c0, c1, c2, c3, c4, fz⟩ := zeros_at G2.out)
          (try simp only [Exit.inBlock, Exit.then])
          refine end_pair rfl _ _ w.heap.size 23 z5 5 22 (.bool false) (by rfl) (by rfl) (zeros_set G2.out) Tryd.underlying23 sz5 (by rfl) (R.out _ (zeros_below (Nat.le_refl _) (btr hb hb2)))
      · obtain rfl : k = 5 := by omega
        have R := Lib.hid (fun W' hb' => htold_yes (w := w) (W := W') ((hT_iff s).2 ⟨h5, hok⟩) hb')
        have G0 := Lib.hid g0
        rw [upto_all] at g1
        have G1 := Lib.hid g1
        clear hok g0 g1 hst
        go_wp2_with (first
          | (refine wpList_load_row rfl 23 (.tmp 4) rfl (w.heap.size + 1) rfl _ _ _ _ G1.out Tryd.underlying23 rfl (szc sz5 _ _) ?_)
          | (refine wpList_store_row rfl 23 (.tmp 2) (.tmp 35) rfl w.heap.size (cs .u32 (fun k => wN (wat s k)) 5) rfl rfl 23 z5 G0.out (szc sz5 _ _) (by rw [cs_size]; rfl) (cs_one _ _ _) ?_))
        (try simp only [Exit.inBlock, Exit.then])
        refine end_pair rfl _ _ w.heap.size 23 _ 5 22 (.bool true) rfl rfl (setRow_heap _ _ _ _ _ _ G0.out) Tryd.underlying23 (szc sz5 _ _) rfl (R.out _ (bel_setRow hb (Nat.le_refl _) _))
  · have R := Lib.hid (fun W' hb' => htold_no (w := w) (W := W') (hT_len h5) hb')
    have t1 : (((wordsS s).length : Int) != 5) = true := by simp; omega
    clear h5
    go_enter Tryd.func15, Tryd.ntmps15
    go_wp2_with (go_at_call 19; (with_reducible refine (C.out _).mono ?_); rintro e w1 ⟨A, c, rfl, hstr, hcap, hb1⟩; have G0 : Hid (w1.heap[w.heap.size]? = some (.cells z5 23)) := kept (hp_old (hp_new w _) _) hb1; obtain ⟨c0, c1, c2, c3, c4, fz⟩ := zeros_at G0.out)
    (try simp only [Exit.inBlock, Exit.then])
    refine end_pair rfl _ _ w.heap.size 23 z5 5 22 (.bool false) (by rfl) (by rfl) (zeros_set G0.out) Tryd.underlying23 sz5 (by rfl) (R.out _ (zeros_below (Nat.le_refl _) (btr (bal (bal (Below.refl _ _) _) _) hb1)))
theorem hash_on {w : World} (W : World) (hb : Below w.heap.size w W) (s : ByteArray) (hs : s.size < 4294967281) : Calls Tryd.prog 15 #[.string s] W fun e w' => e = .returned (.tuple #[.agg (cs .u32 (hN s) 5), .bool (hT s)]) ∧ Below w.heap.size w w' :=
  (hash_at s W hs).mono fun e w' ⟨he, hw⟩ => ⟨he, hb.trans (hw.mono hb.size)⟩
end Go.Proofs.YtfnkloecfjppeaaDoor.ntp
