/-
  What lines.Words answers: the words of a text, in new memory. Condition: the text is no longer than a slice of texts can count.
-/
import Derived.Test.YtiboijhfieaepaaGreatDoorLinesSplit
import Derived.Test.YtiboijhfieaepaaGreatDoorLinesCur
import Derived.Lib.OthersKept
namespace Go.Proofs.YtiboijhfieaepaaGreatDoor.lines
open Go.ChangeShapes Go.WideShapes Go.ChangeAt Go.RowKit
open lx
set_option linter.unusedVariables false
set_option maxRecDepth 100000

/-- at the head of a round. -/
def WHead (s : ByteArray) (w : World) (t k : Value) (W : World) : Prop :=
  ∃ (f p : Nat) (ls : List ByteArray) (v : Value), v = t ∧ k = .int .i64 f ∧ W.heap[w.heap.size]? = some (.stringIter s p) ∧ f ≤ p ∧ p ≤ s.size ∧ ls.map L ++ wds (cur s f p) ((L s).drop p) = wds [] (L s) ∧
    W.ownsRow (w.heap.size + 1) 9 1 v ls.length (ls.map Value.string) ∧ Below w.heap.size w W
theorem wlen {s : ByteArray} {ls : List ByteArray} {r : List (List UInt8)} (e : ls.map L ++ r = wds [] (L s)) : ls.length ≤ s.size := by
  have h := wds_len (L s) []
  rw [← e] at h
  have : (L s).length = s.size := rfl
  simp at h
  omega
theorem own_iter {w : World} {N : Nat} {e : TypeId} {v : Value} {n : Nat} {xs : List Value} (h : w.ownsRow (N + 1) e 1 v n xs) (s : ByteArray) (p : Nat) : (w.iterAt N s p).ownsRow (N + 1) e 1 v n xs := by
  refine ⟨h.1, ?_⟩
  rcases h.2 with h | ⟨g, cap, c, hv, hb, hh, r⟩
  · exact .inl h
  · exact .inr ⟨g, cap, c, hv, hb, (Lib.iterAt_other w N g s p (by omega)).trans hh, r⟩
theorem wmeas {s : ByteArray} {W W' : World} {N p p' : Nat} (h : W.heap[N]? = some (.stringIter s p)) (h' : W'.heap[N]? = some (.stringIter s p')) (h1 : p < p') (h2 : p' ≤ s.size) : s.size - W'.iterPos N < s.size - W.iterPos N := by
  have a : W.iterPos N = p := by unfold World.iterPos; rw [h]
  have b : W'.iterPos N = p' := by unfold World.iterPos; rw [h']
  omega
theorem whead_next {s : ByteArray} {w W : World} {v : Value} {ls : List ByteArray} {f p d : Nat} (hi : W.heap[w.heap.size]? = some (.stringIter s p)) (hf : f ≤ p) (e : ls.map L ++ wds (cur s f p) ((L s).drop p) = wds [] (L s))
    (ho : W.ownsRow (w.heap.size + 1) 9 1 v ls.length (ls.map Value.string)) (hb : Below w.heap.size w W) (hd : p + d ≤ s.size) (h1 : 1 ≤ d) (hn : ∀ j, p ≤ j → j < p + d → bt s j ≠ 32 ∧ bt s j ≠ 9) :
    WHead s w v (.int .i64 f) (W.iterAt w.heap.size s (p + d)) ∧ s.size - (W.iterAt w.heap.size s (p + d)).iterPos w.heap.size < s.size - W.iterPos w.heap.size :=
  ⟨⟨f, p + d, ls, v, rfl, rfl, Lib.iterAt_heap _ _ _ _ _ hi, by omega, hd, by rw [← wds_go s f p d hf hn]; exact e, own_iter ho s _, Lib.below_iterAt hb (Nat.le_refl _) _ _⟩, wmeas hi (Lib.iterAt_heap _ _ _ _ _ hi) (by omega) hd⟩
theorem whead_gap {s : ByteArray} {w W : World} {v : Value} {ls : List ByteArray} {p : Nat} (hi : W.heap[w.heap.size]? = some (.stringIter s p)) (e : ls.map L ++ wds (cur s p p) ((L s).drop p) = wds [] (L s))
    (ho : W.ownsRow (w.heap.size + 1) 9 1 v ls.length (ls.map Value.string)) (hb : Below w.heap.size w W) (hp : p < s.size) (hn : bt s p = 32 ∨ bt s p = 9) :
    WHead s w v (.int .i64 ((p : Int) + 1)) (W.iterAt w.heap.size s (p + 1)) ∧ s.size - (W.iterAt w.heap.size s (p + 1)).iterPos w.heap.size < s.size - W.iterPos w.heap.size :=
  ⟨⟨p + 1, p + 1, ls, v, rfl, rfl, Lib.iterAt_heap _ _ _ _ _ hi, by omega, by omega, by rw [← wds_gap s p hp hn]; exact e, own_iter ho s _, Lib.below_iterAt hb (Nat.le_refl _) _ _⟩, wmeas hi (Lib.iterAt_heap _ _ _ _ _ hi) (by omega) (by omega)⟩
theorem whead_cut {s : ByteArray} {w W W1 : World} {v v' : Value} {ls : List ByteArray} {f p : Nat} (hi : W.heap[w.heap.size]? = some (.stringIter s p)) (e : ls.map L ++ wds (cur s f p) ((L s).drop p) = wds [] (L s))
    (ho : W.ownsRow (w.heap.size + 1) 9 1 v ls.length (ls.map Value.string)) (hb : Below w.heap.size w W) (hf : f < p) (hp : p < s.size) (hn : bt s p = 32 ∨ bt s p = 9)
    (ho' : W1.ownsRow (w.heap.size + 1) 9 1 v' (ls ++ [s.extract f p]).length ((ls ++ [s.extract f p]).map Value.string)) (hg : (W.iterAt w.heap.size s (p + 1)).grownBy W1 v.ownBlock) :
    WHead s w v' (.int .i64 ((p : Int) + 1)) W1 ∧ s.size - W1.iterPos w.heap.size < s.size - W.iterPos w.heap.size := by
  have hlt : w.heap.size < W.heap.size := by
    rcases Nat.lt_or_ge w.heap.size W.heap.size with k | k
    · exact k
    · rw [Array.getElem?_eq_none k] at hi
      cases hi
  have hrow : ∀ k, v.ownBlock = some k → w.heap.size + 1 ≤ k := fun k hk => (ho.lt k hk).1
  have hi2 : W1.heap[w.heap.size]? = some (.stringIter s (p + 1)) := by
    rw [hg.block _ (by rw [Lib.iterAt_size]; exact hlt) (fun k => by have := hrow _ k.symm; omega)]
    exact Lib.iterAt_heap _ _ _ _ _ hi
  refine ⟨⟨p + 1, p + 1, ls ++ [s.extract f p], v', rfl, rfl, hi2, by omega, by omega, ?_, ho', (Lib.below_iterAt hb (Nat.le_refl _) _ _).grown hg (by rw [Lib.iterAt_size]; omega) (fun k hk => by have := hrow k hk; omega)⟩, wmeas hi hi2 (by omega) (by omega)⟩
  · rw [List.map_append, List.map_cons, List.map_nil, cur_ext, List.append_assoc, List.singleton_append, ← wds_cut s f p hf hp hn]
    exact e
theorem words_end {s : ByteArray} {w W : World} {v : Value} {ls : List ByteArray} (e : ls.map L = wds [] (L s)) (ho : W.ownsRow (w.heap.size + 1) 9 1 v ls.length (ls.map Value.string)) (hb : Below w.heap.size w W) :
    Told w (wordsS s) (.returned v) W := by
  have e2 : wordsS s = ls := by
    unfold wordsS
    rw [← e, map_BL]
  rw [e2]
  obtain ⟨A, c, rfl, hs, hc⟩ := Strs.of_own ho
  exact ⟨A, c, rfl, hs, ⟨hc, fun b o e => Nat.le_of_succ_le (ho.lt b (by rw [e]; rfl)).1⟩, hb⟩
theorem words_last {s : ByteArray} {w W W1 : World} {v v' : Value} {ls : List ByteArray} {f : Nat} (e : ls.map L ++ wds (cur s f s.size) ((L s).drop s.size) = wds [] (L s)) (ho : W.ownsRow (w.heap.size + 1) 9 1 v ls.length (ls.map Value.string)) (hb : Below w.heap.size w W)
    (hf : f < s.size) (ho' : W1.ownsRow (w.heap.size + 1) 9 1 v' (ls ++ [s.extract f s.size]).length ((ls ++ [s.extract f s.size]).map Value.string)) (hg : W.grownBy W1 v.ownBlock) :
    Told w (wordsS s) (.returned v') W1 := by
  refine words_end ?_ ho' (hb.grown hg hb.size (fun k hk => by have := (ho.lt k hk).1; omega))
  rw [← e, wds_last s f s.size hf (Nat.le_refl _) (Nat.le_refl _), List.map_append, List.map_cons, List.map_nil, cur_ext]

set_option maxHeartbeats 2000000 in
theorem words_at (s : ByteArray) (w : World) (hs : s.size < 4294967281) : Calls Tryz.prog 17 #[.string s] w (Told w (wordsS s)) := by
  go_enter Tryz.func17, Tryz.ntmps17
  go_wp2
  go_loopw [3, 4] (fun t k W => WHead s w t k W) (fun _ _ W => s.size - W.iterPos w.heap.size)
  case atStart => exact ⟨0, 0, [], _, rfl, rfl, heap_alloc_new _ _, by omega, by omega, rfl, World.ownsRow_nil _ _ _ _, (Below.refl _ _).alloc (Nat.le_refl _) _⟩
  case round =>
    obtain ⟨f, p, ls, v, rfl, rfl, hi, hf, hp, e, ho, hb⟩ := hrel
    have HO := fun p' => Lib.hid (own_iter ho s p')
    have hl := wlen e
    have HB : w.heap.size + 1 ≤ wr.heap.size := by
      rcases Nat.lt_or_ge w.heap.size wr.heap.size with k | k
      · exact k
      · rw [Array.getElem?_eq_none k] at hi
        cases hi
    have HB2 : ∀ p', Hid (w.heap.size + 1 ≤ (wr.iterAt w.heap.size s p').heap.size) := fun p' => by
      show _ ≤ _
      rw [Lib.iterAt_size]
      exact HB
    by_cases hlt : p < s.size
    · by_cases ha : bt s p < 128
      · have hnx := fun ty => Lib.run_next_ascii_at (P := Tryz.prog) wr w.heap.size s p ty hi hlt (by rw [bt_at]; exact ha)
        rw [bt_at] at hnx
        by_cases hbk : bt s p = 32 ∨ bt s p = 9
        · by_cases hfp : f < p
          · have R := Lib.hid (fun v' W1 ho' hg => whead_cut (v' := v') (W1 := W1) hi e ho hb hfp hlt hbk ho' hg)
            have HI := Lib.hid hi
            rcases hbk with k | k
            · have t1 : ((bt s p : Int) != 32) = false := by simp; omega
              clear k e hi
              go_wp2_with (at_builtin; refine app_one rfl _ _ rfl (w.heap.size + 1) (wr.iterAt w.heap.size s (p + 1)) v ls _ rfl rfl (HO _).out (by omega) (HB2 _).out ?_; intro v' w1 ho' hg)
              go_roundw
              case rel => exact (R.out _ _ ho' hg).1
              case measure => exact (R.out _ _ ho' hg).2
            · have t1 : ((bt s p : Int) != 32) = true := by simp; omega
              have t2 : ((bt s p : Int) != 9) = false := by simp; omega
              clear k e hi
              go_wp2_with (at_builtin; refine app_one rfl _ _ rfl (w.heap.size + 1) (wr.iterAt w.heap.size s (p + 1)) v ls _ rfl rfl (HO _).out (by omega) (HB2 _).out ?_; intro v' w1 ho' hg)
              go_roundw
              case rel => exact (R.out _ _ ho' hg).1
              case measure => exact (R.out _ _ ho' hg).2
          · obtain rfl : p = f := by omega
            have R := Lib.hid (whead_gap hi e ho hb hlt hbk)
            rcases hbk with k | k
            · have t1 : ((bt s p : Int) != 32) = false := by simp; omega
              clear k e hi
              go_wp2
              go_roundw
              case rel => exact R.out.1
              case measure => exact R.out.2
            · have t1 : ((bt s p : Int) != 32) = true := by simp; omega
              have t2 : ((bt s p : Int) != 9) = false := by simp; omega
              clear k e hi
              go_wp2
              go_roundw
              case rel => exact R.out.1
              case measure => exact R.out.2
        · have hj : ∀ j, p ≤ j → j < p + 1 → bt s j ≠ 32 ∧ bt s j ≠ 9 := by
            intro j h1 h2
            obtain rfl : p = j := by omega
            omega
          have R := Lib.hid (whead_next (d := 1) hi hf e ho hb (by omega) (by omega) hj)
          clear hj
          have t1 : ((bt s p : Int) != 32) = true := by simp; omega
          have t2 : ((bt s p : Int) != 9) = true := by simp; omega
          clear hbk e hi
          go_wp2
          go_roundw
          case rel => exact R.out.1
          case measure => exact R.out.2
      · obtain ⟨d1, d2, d3, d4⟩ := decode_far s p hlt (by omega)
        have hnx := fun ty => Lib.run_next_any_at (P := Tryz.prog) wr w.heap.size s p ty hi hlt
        have R := Lib.hid (whead_next hi hf e ho hb d3 d2 (fun j h1 h2 => by have := d4 j h1 h2; omega))
        have dl := decode_le s p
        clear d4 e hi
        generalize Utf8.decode s p = D at *
        obtain ⟨r, d⟩ := D
        simp only at hnx d1 d2 d3 R dl
        have t1 : ((r : Int) != 32) = true := by simp; omega
        have t2 : ((r : Int) != 9) = true := by simp; omega
        go_wp2
        go_roundw
        case rel => exact R.out.1
        case measure => exact R.out.2
    · obtain rfl : s.size = p := by omega
      have hnx := fun ty => Lib.run_next_end_at (P := Tryz.prog) wr w.heap.size s s.size ty hi (by omega)
      by_cases hfp : f < s.size
      · have R := Lib.hid (fun v' W1 ho' hg => words_last (v' := v') (W1 := W1) e ho hb hfp ho' hg)
        have HO3 := Lib.hid ho
        clear e hi
        go_wp2_with (at_builtin; refine app_one rfl _ _ rfl (w.heap.size + 1) wr v ls _ rfl rfl HO3.out (by omega) (by omega) ?_; intro v' w1 ho' hg)
        go_ret
        exact R.out _ _ ho' hg
      · obtain rfl : f = s.size := by omega
        rw [wds_none s s.size (Nat.le_refl _), List.append_nil] at e
        have R := Lib.hid (words_end e ho hb)
        clear e hi
        go_wp2
        go_ret
        exact R.out
theorem words_on {w : World} (W : World) (hb : Below w.heap.size w W) (s : ByteArray) (hs : s.size < 4294967281) : Calls Tryz.prog 17 #[.string s] W (Told W (wordsS s)) := words_at s W hs
end Go.Proofs.YtiboijhfieaepaaGreatDoor.lines
