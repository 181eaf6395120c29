/-
  What lines.Words answers: the words of a text, in new memory. Condition: the text is no longer than a slice of texts can count.
-/
import Derived.Test.YtldieebiicblbaaGreatDoorG08
import Derived.Test.YtldieebiicblbaaGreatDoorG01
import Derived.Lib.OthersKept
import Derived.Test.YtldieebiicblbaaGreatDoorRows
import Derived.WalkKit
import Derived.ProofKit
import Derived.OpenShut
import Derived.IntWalk
import Derived.Deep.QuietTactic
import Derived.BigQuiet
import Derived.Lib.Hide
namespace Go.Proofs.YtldieebiicblbaaGreatDoor.lines
open Go.ChangeShapes Go.WideShapes Go.ChangeAt Go.RowKit
open lx
set_option linter.unusedVariables false
set_option maxRecDepth 100000

/-- at the head of a round. -/
def WHead (s : ByteArray) (w : World) (t k : Value) (W : World) : Prop :=
  ∃ (f p : Nat) (ls : List ByteArray) (v : Value), v = t ∧ k = .int .i64 f ∧ W.heap[w.heap.size]? = some (.stringIter s p) ∧ f ≤ p ∧ p ≤ s.size ∧ ls.map L ++ wds (cur s f p) ((L s).drop p) = wds [] (L s) ∧
    W.ownsRow (w.heap.size + 1) 9 1 v ls.length (ls.map Value.string) ∧ Below w.heap.size w W
theorem wlen {s : ByteArray} {ls : List ByteArray} {r : List (List UInt8)} (e : ls.map L ++ r = wds [] (L s)) : ls.length ≤ s.size := by
  have h := wds_len (L s) []
  rw [← e] at h
  have : (L s).length = s.size := rfl
  simp at h
  omega
theorem own_iter {w : World} {N : Nat} {e : TypeId} {v : Value} {n : Nat} {xs : List Value} (h : w.ownsRow (N + 1) e 1 v n xs) (s : ByteArray) (p : Nat) : (w.iterAt N s p).ownsRow (N + 1) e 1 v n xs := by
  refine ⟨h.1, ?_⟩
  rcases h.2 with h | ⟨g, cap, c, hv, hb, hh, r⟩
  · exact .inl h
  · exact .inr ⟨g, cap, c, hv, hb, (Lib.iterAt_other w N g s p (by omega)).trans hh, r⟩
theorem wmeas {s : ByteArray} {W W' : World} {N p p' : Nat} (h : W.heap[N]? = some (.stringIter s p)) (h' : W'.heap[N]? = some (.stringIter s p')) (h1 : p < p') (h2 : p' ≤ s.size) : s.size - W'.iterPos N < s.size - W.iterPos N := by
  have a : W.iterPos N = p := by unfold World.iterPos; rw [h]
  have b : W'.iterPos N = p' := by unfold World.iterPos; rw [h']
  omega
theorem whead_next {s : ByteArray} {w W : World} {v : Value} {ls : List ByteArray} {f p d : Nat} (hi : W.heap[w.heap.size]? = some (.stringIter s p)) (hf : f ≤ p) (e : ls.map L ++ wds (cur s f p) ((L s).drop p) = wds [] (L s))
    (ho : W.ownsRow (w.heap.size + 1) 9 1 v ls.length (ls.map Value.string)) (hb : Below w.heap.size w W) (hd : p + d ≤ s.size) (h1 : 1 ≤ d) (hn : ∀ j, p ≤ j → j < p + d → bt s j ≠ 32 ∧ bt s j ≠ 9) :
    WHead s w v (.int .i64 f) (W.iterAt w.heap.size s (p + d)) ∧ s.size - (W.iterAt w.heap.size s (p + d)).iterPos w.heap.size < s.size - W.iterPos w.heap.size :=
  ⟨⟨f, p + d, ls, v, rfl, rfl, Lib.iterAt_heap _ _ _ _ _ hi, by omega, hd, by rw [← wds_go s f p d hf hn]; exact e, own_iter ho s _, Lib.below_iterAt hb (Nat.le_refl _) _ _⟩, wmeas hi (Lib.iterAt_heap _ _ _ _ _ hi) (by omega) hd⟩
theorem whead_gap {s : ByteArray} {w W : World} {v : Value} {ls : List ByteArray} {p : Nat} (hi : W.heap[w.heap.size]? = some (.stringIter s p)) (e : ls.map L ++ wds (cur s p p) ((L s).drop p) = wds [] (L s))
    (ho : W.ownsRow (w.heap.size + 1) 9 1 v ls.length (ls.map Value.string)) (hb : Below w.heap.size w W) (hp : p < s.size) (hn : bt s p = 32 ∨ bt s p = 9) :
    WHead s w v (.int .i64 ((p : Int) + 1)) (W.iterAt w.heap.size s (p + 1)) ∧ s.size - (W.iterAt w.heap.size s (p + 1)).iterPos w.heap.size < s.size - W.iterPos w.heap.size :=
  ⟨⟨p + 1, p + 1, ls, v, rfl, rfl, Lib.iterAt_heap _ _ _ _ _ hi, by omega, by omega, by rw [← wds_gap s p hp hn]; exact e, own_iter ho s _, Lib.below_iterAt hb (Nat.le_refl _) _ _⟩, wmeas hi (Lib.iterAt_heap _ _ _ _ _ hi) (by omega) (by omega)⟩
theorem whead_cut {s : ByteArray} {w W W1 : World} {v v' : Value} {ls : List ByteArray} {f p : Nat} (hi : W.heap[w.heap.size]? = some (.stringIter s p)) (e : ls.map L ++ wds (cur s f p) ((L s).drop p) = wds [] (L s))
    (ho : W.ownsRow (w.heap.size + 1) 9 1 v ls.length (ls.map Value.string)) (hb : Below w.heap.size w W) (hf : f < p) (hp : p < s.size) (hn : bt s p = 32 ∨ bt s p = 9)
    (ho' : W1.ownsRow (w.heap.size + 1) 9 1 v' (ls ++ [s.extract f p]).length ((ls ++ [s.extract f p]).map Value.string)) (hg : (W.iterAt w.heap.size s (p + 1)).grownBy W1 v.ownBlock) :
    WHead s w v' (.int .i64 ((p : Int) + 1)) W1 ∧ s.size - W1.iterPos w.heap.size < s.size - W.iterPos w.heap.size := by
  have hlt : w.heap.size < W.heap.size := by
    rcases Nat.lt_or_ge w.heap.size W.heap.size with k | k
    · exact k
    · rw [Array.getElem?_eq_none k] at hi
      cases hi
  have hrow : ∀ k, v.ownBlock = some k → w.heap.size + 1 ≤ k := fun k hk => (ho.lt k hk).1
  have hi2 : W1.heap[w.heap.size]? = some (.stringIter s (p + 1)) := by
    rw [hg.block _ (by rw [Lib.iterAt_size]; exact hlt) (fun k => by have := hrow _ k.symm; omega)]
    exact Lib.iterAt_heap _ _ _ _ _ hi
  refine ⟨⟨p + 1, p + 1, ls ++ [s.extract f p], v', rfl, rfl, hi2, by omega, by omega, ?_, ho', (Lib.below_iterAt hb (Nat.le_refl _) _ _).grown hg (by rw [Lib.iterAt_size]; omega) (fun k hk => by have := hrow k hk; omega)⟩, wmeas hi hi2 (by omega) (by omega)⟩
  · rw [List.map_append, List.map_cons, List.map_nil, cur_ext, List.append_assoc, List.singleton_append, ← wds_cut s f p hf hp hn]
    exact e
theorem words_end {s : ByteArray} {w W : World} {v : Value} {ls : List ByteArray} (e : ls.map L = wds [] (L s)) (ho : W.ownsRow (w.heap.size + 1) 9 1 v ls.length (ls.map Value.string)) (hb : Below w.heap.size w W) :
    Told w (wordsS s) (.returned v) W := by
  have e2 : wordsS s = ls := by
    unfold wordsS
    rw [← e, map_BL]
  rw [e2]
  obtain ⟨A, c, rfl, hs, hc⟩ := Strs.of_own ho
  exact ⟨A, c, rfl, hs, ⟨hc, fun b o e => Nat.le_of_succ_le (ho.lt b (by rw [e]; rfl)).1⟩, hb⟩
theorem words_last {s : ByteArray} {w W W1 : World} {v v' : Value} {ls : List ByteArray} {f : Nat} (e : ls.map L ++ wds (cur s f s.size) ((L s).drop s.size) = wds [] (L s)) (ho : W.ownsRow (w.heap.size + 1) 9 1 v ls.length (ls.map Value.string)) (hb : Below w.heap.size w W)
    (hf : f < s.size) (ho' : W1.ownsRow (w.heap.size + 1) 9 1 v' (ls ++ [s.extract f s.size]).length ((ls ++ [s.extract f s.size]).map Value.string)) (hg : W.grownBy W1 v.ownBlock) :
    Told w (wordsS s) (.returned v') W1 := by
  refine words_end ?_ ho' (hb.grown hg hb.size (fun k hk => by have := (ho.lt k hk).1; omega))
  rw [← e, wds_last s f s.size hf (Nat.le_refl _) (Nat.le_refl _), List.map_append, List.map_cons, List.map_nil, cur_ext]

set_option maxHeartbeats 2000000 in
theorem words_at (s : ByteArray) (w : World) (hs : s.size < 4294967281) : Calls Tryz.prog 57 #[.string s] w (Told w (wordsS s)) := by
  go_enter Tryz.func57, Tryz.ntmps57
  go_wp2
  go_loopw [3, 4] (fun t k W => WHead s w t k W) (fun _ _ W => s.size - W.iterPos w.heap.size)
  case atStart => exact ⟨0, 0, [], _, rfl, rfl, heap_alloc_new _ _, by omega, by omega, rfl, World.ownsRow_nil _ _ _ _, (Below.refl _ _).alloc (Nat.le_refl _) _⟩
  case round =>
    obtain ⟨f, p, ls, v, rfl, rfl, hi, hf, hp, e, ho, hb⟩ := hrel
    have HO := fun p' => Lib.hid (own_iter ho s p')
    have hl := wlen e
    have HB : w.heap.size + 1 ≤ wr.heap.size := by
      rcases Nat.lt_or_ge w.heap.size wr.heap.size with k | k
      · exact k
      · rw [Array.getElem?_eq_none k] at hi
        cases hi
    have HB2 : ∀ p', Hid (w.heap.size + 1 ≤ (wr.iterAt w.heap.size s p').heap.size) := fun p' => by
      show _ ≤ _
      rw [Lib.iterAt_size]
      exact HB
    by_cases hlt : p < s.size
    · by_cases ha : bt s p < 128
      · have hnx := fun ty => Lib.run_next_ascii_at (P := Tryz.prog) wr w.heap.size s p ty hi hlt (by rw [bt_at]; exact ha)
        rw [bt_at] at hnx
        by_cases hbk : bt s p = 32 ∨ bt s p = 9
        · by_cases hfp : f < p
          · have R := Lib.hid (fun v' W1 ho' hg => whead_cut (v' := v') (W1 := W1) hi e ho hb hfp hlt hbk ho' hg)
            have HI := Lib.hid hi
            rcases hbk with k | k
            · have t1 : ((bt s p : Int) != 32) = false := by simp; omega
              clear k e hi
              go_wp2_with (at_builtin; refine app_one rfl _ _ rfl (w.heap.size + 1) (wr.iterAt w.heap.size s (p + 1)) v ls _ rfl rfl (HO _).out (by omega) (HB2 _).out ?_; intro v' w1 ho' hg)
              go_roundw
              case rel => exact (R.out _ _ ho' hg).1
              case measure => exact (R.out _ _ ho' hg).2
            · have t1 : ((bt s p : Int) != 32) = true := by simp; omega
              have t2 : ((bt s p : Int) != 9) = false := by simp; omega
              clear k e hi
              go_wp2_with (at_builtin; refine app_one rfl _ _ rfl (w.heap.size + 1) (wr.iterAt w.heap.size s (p + 1)) v ls _ rfl rfl (HO _).out (by omega) (HB2 _).out ?_; intro v' w1 ho' hg)
              go_roundw
              case rel => exact (R.out _ _ ho' hg).1
              case measure => exact (R.out _ _ ho' hg).2
          · obtain rfl : p = f := by omega
            have R := Lib.hid (whead_gap hi e ho hb hlt hbk)
            rcases hbk with k | k
            · have t1 : ((bt s p : Int) != 32) = false := by simp; omega
              clear k e hi
              go_wp2
              go_roundw
              case rel => exact R.out.1
              case measure => exact R.out.2
            · have t1 : ((bt s p : Int) != 32) = true := by simp; omega
              have t2 : ((bt s p : Int) != 9) = false := by simp; omega
              clear k e hi
              go_wp2
              go_roundw
              case rel => exact R.out.1
              case measure => exact R.out.2
        · have hj : ∀ j, p ≤ j → j < p + 1 → bt s j ≠ 32 ∧ bt s j ≠ 9 := by
            intro j h1 h2
            obtain rfl : p = j := by omega
            omega
          have R := Lib.hid (whead_next (d := 1) hi hf e ho hb (by omega) (by omega) hj)
          clear hj
          have t1 : ((bt s p : Int) != 32) = true := by simp; omega
          have t2 : ((bt s p : Int) != 9) = true := by simp; omega
          clear hbk e hi
          go_wp2
          go_roundw
          case rel => exact R.out.1
          case measure => exact R.out.2
      · obtain ⟨d1, d2, d3, d4⟩ := decode_far s p hlt (by omega)
        have hnx := fun ty => Lib.run_next_any_at (P := Tryz.prog) wr w.heap.size s p ty hi hlt
        have R := Lib.hid (whead_next hi hf e ho hb d3 d2 (fun j h1 h2 => by have := d4 j h1 h2; omega))
        have dl := decode_le s p
        clear d4 e hi
        generalize Utf8.decode s p = D at *
        obtain ⟨r, d⟩ := D
        simp only at hnx d1 d2 d3 R dl
        have t1 : ((r : Int) != 32) = true := by simp; omega
        have t2 : ((r : Int) != 9) = true := by simp; omega
        go_wp2
        go_roundw
        case rel => exact R.out.1
        case measure => exact R.out.2
    · obtain rfl : s.size = p := by omega
      have hnx := fun ty => Lib.run_next_end_at (P := Tryz.prog) wr w.heap.size s s.size ty hi (by omega)
      by_cases hfp : f < s.size
      · have R := Lib.hid (fun v' W1 ho' hg => words_last (v' := v') (W1 := W1) e ho hb hfp ho' hg)
        have HO3 := Lib.hid ho
        clear e hi
        go_wp2_with (at_builtin; refine app_one rfl _ _ rfl (w.heap.size + 1) wr v ls _ rfl rfl HO3.out (by omega) (by omega) ?_; intro v' w1 ho' hg)
        go_ret
        exact R.out _ _ ho' hg
      · obtain rfl : f = s.size := by omega
        rw [wds_none s s.size (Nat.le_refl _), List.append_nil] at e
        have R := Lib.hid (words_end e ho hb)
        clear e hi
        go_wp2
        go_ret
        exact R.out
theorem words_on {w : World} (W : World) (hb : Below w.heap.size w W) (s : ByteArray) (hs : s.size < 4294967281) : Calls Tryz.prog 57 #[.string s] W (Told W (wordsS s)) := words_at s W hs
end Go.Proofs.YtldieebiicblbaaGreatDoor.lines

/-
  What num's Add, Sub and Mul answer, for all numbers of 64 bits: the exact answer and true where it fits, nought and false where it does not. No condition beside that the arguments are such numbers.
-/
namespace Go.Proofs.YtldieebiicblbaaGreatDoor.num
open Go.ChangeShapes Go.WideShapes Go.ChangeAt Go.RowKit
set_option linter.unusedVariables false

def fit (n : Int) : Prop := -9223372036854775808 ≤ n ∧ n ≤ 9223372036854775807

theorem ret_bool {b : Bool} (h : b = true) : Ending.returned (.bool b) = .returned (.bool true) := by rw [h]

/-! Add -/
theorem add_yes (a b : Int) (w : World) (ha : fit a) (hb : fit b) (h : fit (a + b)) :
    Calls Tryz.prog 54 #[.int .i64 a, .int .i64 b] w fun e w' => e = .returned (.tuple #[.int .i64 (a + b), .bool true]) ∧ w = w' := by
  unfold fit at ha hb h
  obtain ⟨ha1, ha2⟩ := ha; obtain ⟨hb1, hb2⟩ := hb; obtain ⟨h1, h2⟩ := h
  rcases Int.lt_trichotomy b 0 with hs | rfl | hs
  · have t1 : ¬ (b > 0) := by omega
    have t2 : ¬ (a < -9223372036854775808 - b) := by omega
    go_enter Tryz.func54, Tryz.ntmps54
    go_wp2
    go_ret2
    exact ⟨rfl, rfl⟩
  · rw [Int.add_zero]
    go_enter Tryz.func54, Tryz.ntmps54
    go_wp2
    go_ret2
    exact ⟨rfl, rfl⟩
  · have t1 : ¬ (b < 0) := by omega
    have t2 : ¬ (a > 9223372036854775807 - b) := by omega
    go_enter Tryz.func54, Tryz.ntmps54
    go_wp2
    go_ret2
    exact ⟨rfl, rfl⟩
theorem add_no (a b : Int) (w : World) (ha : fit a) (hb : fit b) (h : ¬ fit (a + b)) :
    Calls Tryz.prog 54 #[.int .i64 a, .int .i64 b] w fun e w' => e = .returned (.tuple #[.int .i64 0, .bool false]) ∧ w = w' := by
  unfold fit at ha hb h
  obtain ⟨ha1, ha2⟩ := ha; obtain ⟨hb1, hb2⟩ := hb
  by_cases hs : b < 0
  · have t1 : ¬ (b > 0) := by omega
    have t2 : (a < -9223372036854775808 - b) := by omega
    clear h
    go_enter Tryz.func54, Tryz.ntmps54
    go_wp2
    go_ret2
    exact ⟨rfl, rfl⟩
  · have t0 : 0 < b := by omega
    have t2 : (a > 9223372036854775807 - b) := by omega
    clear h
    go_enter Tryz.func54, Tryz.ntmps54
    go_wp2
    go_ret2
    exact ⟨rfl, rfl⟩
theorem add_eq (a b c : Int) (w : World) (ha : fit a) (hb : fit b) (h : fit c) (e : a + b = c) :
    Calls Tryz.prog 54 #[.int .i64 a, .int .i64 b] w fun e w' => e = .returned (.tuple #[.int .i64 c, .bool true]) ∧ w = w' := by
  subst e; exact add_yes a b w ha hb h
/-! Sub -/
theorem sub_yes (a b : Int) (w : World) (ha : fit a) (hb : fit b) (h : fit (a - b)) :
    Calls Tryz.prog 95 #[.int .i64 a, .int .i64 b] w fun e w' => e = .returned (.tuple #[.int .i64 (a - b), .bool true]) ∧ w = w' := by
  unfold fit at ha hb h
  obtain ⟨ha1, ha2⟩ := ha; obtain ⟨hb1, hb2⟩ := hb; obtain ⟨h1, h2⟩ := h
  rcases Int.lt_trichotomy b 0 with hs | rfl | hs
  · have t1 : ¬ (b > 0) := by omega
    have t2 : ¬ (a > 9223372036854775807 + b) := by omega
    go_enter Tryz.func95, Tryz.ntmps95
    go_wp2
    go_ret2
    exact ⟨rfl, rfl⟩
  · rw [Int.sub_zero]
    go_enter Tryz.func95, Tryz.ntmps95
    go_wp2
    go_ret2
    exact ⟨rfl, rfl⟩
  · have t1 : ¬ (b < 0) := by omega
    have t2 : ¬ (a < -9223372036854775808 + b) := by omega
    go_enter Tryz.func95, Tryz.ntmps95
    go_wp2
    go_ret2
    exact ⟨rfl, rfl⟩
theorem sub_no (a b : Int) (w : World) (ha : fit a) (hb : fit b) (h : ¬ fit (a - b)) :
    Calls Tryz.prog 95 #[.int .i64 a, .int .i64 b] w fun e w' => e = .returned (.tuple #[.int .i64 0, .bool false]) ∧ w = w' := by
  unfold fit at ha hb h
  obtain ⟨ha1, ha2⟩ := ha; obtain ⟨hb1, hb2⟩ := hb
  by_cases hs : b < 0
  · have t1 : ¬ (b > 0) := by omega
    have t2 : (a > 9223372036854775807 + b) := by omega
    clear h
    go_enter Tryz.func95, Tryz.ntmps95
    go_wp2
    go_ret2
    exact ⟨rfl, rfl⟩
  · have t0 : 0 < b := by omega
    have t2 : (a < -9223372036854775808 + b) := by omega
    clear h
    go_enter Tryz.func95, Tryz.ntmps95
    go_wp2
    go_ret2
    exact ⟨rfl, rfl⟩

theorem sub_eq (a b c : Int) (w : World) (ha : fit a) (hb : fit b) (h : fit c) (e : a - b = c) :
    Calls Tryz.prog 95 #[.int .i64 a, .int .i64 b] w fun e w' => e = .returned (.tuple #[.int .i64 c, .bool true]) ∧ w = w' := by
  subst e; exact sub_yes a b w ha hb h
/-! Mul: the mathematics -/
theorem tdiv_back (a b : Int) (h : a ≠ 0) : (a * b).tdiv a = b := Int.mul_tdiv_cancel_left b h
theorem wrap_off (n : Int) (h : ¬ fit n) : fit (wrap64 n) ∧ ∃ k : Int, wrap64 n = n + k * 18446744073709551616 ∧ k ≠ 0 := by
  unfold fit at *
  have hw : wrap64 n = (n + 9223372036854775808) % 18446744073709551616 - 9223372036854775808 := by unfold wrap64; rfl
  have hd := Int.emod_def (n + 9223372036854775808) 18446744073709551616
  have h1 := Int.emod_nonneg (n + 9223372036854775808) (b := 18446744073709551616) (by omega)
  have h2 := Int.emod_lt_of_pos (n + 9223372036854775808) (b := 18446744073709551616) (by omega)
  refine ⟨by rw [hw]; omega, -((n + 9223372036854775808) / 18446744073709551616), by rw [hw]; omega, ?_⟩
  intro hk
  apply h
  omega
theorem tmod_small (n a : Int) (ha : a ≠ 0) (hf : fit a) : -9223372036854775808 < n.tmod a ∧ n.tmod a < 9223372036854775808 := by
  unfold fit at hf
  have h := Int.natAbs_tmod n a
  have h2 : n.natAbs % a.natAbs < a.natAbs := Nat.mod_lt _ (by omega)
  omega
theorem mul_off (a b : Int) (ha : a ≠ 0) (hf : fit a) (h : ¬ fit (a * b)) : (wrap64 (a * b)).tdiv a ≠ b := by
  intro e
  obtain ⟨_, k, hk, hk0⟩ := wrap_off _ h
  have hm := tmod_small (wrap64 (a * b)) a ha hf
  have hd := Int.mul_tdiv_add_tmod (wrap64 (a * b)) a
  rw [e] at hd
  omega
theorem quo_fit (n a : Int) (ha : a ≠ 0) (h1 : a ≠ -1) (hn : fit n) : fit (n.tdiv a) := by
  unfold fit at *
  have h : (n.tdiv a).natAbs = n.natAbs / a.natAbs := Int.natAbs_tdiv n a
  by_cases ha0 : 0 < a
  · have := IntWalk.i64_quo' n a ⟨hn.1, hn.2, by omega⟩
    have h2 := Nat.div_le_self n.natAbs a.natAbs
    by_cases hz : n.tdiv a = 9223372036854775808
    · exfalso
      rw [hz] at this
      have hw : IntKind.i64.wrap 9223372036854775808 = -9223372036854775808 := by rw [IntKind.wrap_i64]; rfl
      omega
    · omega
  · have h2 : n.natAbs / a.natAbs ≤ n.natAbs / 2 := Nat.div_le_div_left (by omega) (by omega)
    omega
theorem mul_yes (a b : Int) (w : World) (ha : fit a) (hb : fit b) (h : fit (a * b)) :
    Calls Tryz.prog 88 #[.int .i64 a, .int .i64 b] w fun e w' => e = .returned (.tuple #[.int .i64 (a * b), .bool true]) ∧ w = w' := by
  by_cases h0 : a = 0
  · subst h0
    rw [Int.zero_mul]
    go_enter Tryz.func88, Tryz.ntmps88
    go_wp2
    go_ret2
    exact ⟨rfl, rfl⟩
  · by_cases h1 : a = -1
    · subst h1
      have e : -1 * b = 0 - b := by omega
      rw [e] at h ⊢
      clear e
      have hz : fit 0 := ⟨by omega, by omega⟩
      go_enter Tryz.func88, Tryz.ntmps88
      go_wp2_with (go_at_call 95; refine (sub_yes _ _ _ hz hb h).mono ?_; rintro e w' ⟨rfl, rfl⟩)
      go_ret2
      exact ⟨by rw [Int.zero_sub]; rfl, rfl⟩
    · have hq := tdiv_back a b h0
      unfold fit at ha hb h
      obtain ⟨ha1, ha2⟩ := ha; obtain ⟨hb1, hb2⟩ := hb; obtain ⟨hp1, hp2⟩ := h
      have hq2 : IntKind.i64.wrap ((a * b).tdiv a) = b := by rw [hq]; exact IntWalk.i64_in _ ⟨hb1, hb2⟩
      have hq3 : wrap64 ((a * b).tdiv a) = b := by rw [hq]; exact IntWalk.wrap64_in _ ⟨hb1, hb2⟩
      clear hq
      go_enter Tryz.func88, Tryz.ntmps88
      go_wp2
      go_ret2
      exact ⟨rfl, rfl⟩
theorem mul_no (a b : Int) (w : World) (ha : fit a) (hb : fit b) (h : ¬ fit (a * b)) :
    Calls Tryz.prog 88 #[.int .i64 a, .int .i64 b] w fun e w' => e = .returned (.tuple #[.int .i64 0, .bool false]) ∧ w = w' := by
  have h0 : a ≠ 0 := by rintro rfl; apply h; rw [Int.zero_mul]; exact ⟨by omega, by omega⟩
  by_cases h1 : a = -1
  · subst h1
    have e : -1 * b = 0 - b := by omega
    rw [e] at h
    clear e
    have hz : fit 0 := ⟨by omega, by omega⟩
    go_enter Tryz.func88, Tryz.ntmps88
    go_wp2_with (go_at_call 95; refine (sub_no _ _ _ hz hb h).mono ?_; rintro e w' ⟨rfl, rfl⟩)
    go_ret2
    exact ⟨rfl, rfl⟩
  · have ho := mul_off a b h0 ha h
    have hf := (wrap_off _ h).1
    have hq := quo_fit (wrap64 (a * b)) a h0 h1 hf
    have hne : (wrap64 ((wrap64 (a * b)).tdiv a) != b) = true := by rw [IntWalk.wrap64_in _ hq]; simpa using ho
    have hne2 : (IntKind.i64.wrap ((IntKind.i64.wrap (a * b)).tdiv a) != b) = true := by rw [IntWalk.i64_left, IntWalk.i64_left]; exact hne
    unfold fit at ha hb
    obtain ⟨ha1, ha2⟩ := ha; obtain ⟨hb1, hb2⟩ := hb
    clear ho hf hq h
    go_enter Tryz.func88, Tryz.ntmps88
    go_wp2
    go_ret2
    exact ⟨rfl, rfl⟩

theorem mul_eq (a b c : Int) (w : World) (ha : fit a) (hb : fit b) (h : fit c) (e : a * b = c) :
    Calls Tryz.prog 88 #[.int .i64 a, .int .i64 b] w fun e w' => e = .returned (.tuple #[.int .i64 c, .bool true]) ∧ w = w' := by
  subst e; exact mul_yes a b w ha hb h
end Go.Proofs.YtldieebiicblbaaGreatDoor.num

/-
  What lines.Number answers: the number that a text is in decimals, and true; nought and false of any other text. Condition: the text is no longer than an int can tell.
-/
namespace Go.Proofs.YtldieebiicblbaaGreatDoor.lines
open Go.ChangeShapes Go.WideShapes Go.ChangeAt Go.RowKit
open lx
set_option linter.unusedVariables false
set_option maxRecDepth 100000

/-- what is told of a number. -/
def NTold (s : ByteArray) (w : World) (e : Ending) (w' : World) : Prop := e = .returned (.tuple #[.int .i64 (nmI (L s)), .bool (nmT (L s))]) ∧ Below w.heap.size w w'
theorem ntold_no {s : ByteArray} {w W : World} (h : nm (L s) = none) (hb : Below w.heap.size w W) : NTold s w (.returned (.tuple #[.int .i64 0, .bool false])) W := by
  obtain ⟨a, b⟩ := nm_no h
  unfold NTold
  rw [a, b]
  exact ⟨rfl, hb⟩
theorem ntold_yes {s : ByteArray} {w W : World} {n : Int} (h : nm (L s) = some n) (hb : Below w.heap.size w W) : NTold s w (.returned (.tuple #[.int .i64 n, .bool true])) W := by
  obtain ⟨a, b⟩ := nm_yes h
  unfold NTold
  rw [a, b]
  exact ⟨rfl, hb⟩
def NHead (s : ByteArray) (w : World) (t : Value) (W : World) : Prop :=
  ∃ (p : Nat) (n : Int), t = .int .i64 n ∧ W = w.alloc (.stringIter s p) ∧ p ≤ s.size ∧ 0 ≤ n ∧ n ≤ 9223372036854775807 ∧ nmb n ((L s).drop p) = nm (L s)
theorem next_at (w : World) (s : ByteArray) (p : Nat) (ty : TypeId) (h : p < s.size) :
    (Instr.next (.pointer (some ⟨w.heap.size, 0, none⟩)) true ty).run Tryz.prog (w.alloc (.stringIter s p)) = .ok (.tuple #[.bool true, .int .i64 p, .int .i32 (Utf8.decode s p).1]) (w.alloc (.stringIter s (p + (Utf8.decode s p).2))) :=
  run_next_any (P := Tryz.prog) w s p ty h
theorem next_end (w : World) (s : ByteArray) (p : Nat) (ty : TypeId) (h : ¬ p < s.size) :
    (Instr.next (.pointer (some ⟨w.heap.size, 0, none⟩)) true ty).run Tryz.prog (w.alloc (.stringIter s p)) = .ok (.tuple #[.bool false]) (w.alloc (.stringIter s p)) :=
  run_next_end (P := Tryz.prog) w s p ty h
theorem pos_at (w : World) (s : ByteArray) (p : Nat) : (w.alloc (.stringIter s p)).iterPos w.heap.size = p := World.iterPos_iter w s p
theorem bel1 (w : World) (o : Obj) : Below w.heap.size w (w.alloc o) := (Below.refl _ _).alloc (Nat.le_refl _) _

set_option maxHeartbeats 2000000 in
theorem number_at (s : ByteArray) (w : World) (hs : s.size < 4294967281) : Calls Tryz.prog 60 #[.string s] w (NTold s w) := by
  by_cases h0 : s.size = 0
  · obtain rfl := tl_nil h0
    have R := Lib.hid (ntold_no (s := ⟨#[]⟩) (w := w) (W := w) rfl (Below.refl _ _))
    clear h0 hs
    go_enter Tryz.func60, Tryz.ntmps60
    go_wp2
    go_ret2
    exact R.out
  have t0 := tl_ne (show 0 < s.size by omega)
  have N0 := Lib.hid (nm_of s (by omega))
  go_enter Tryz.func60, Tryz.ntmps60
  go_wp2
  go_loopw [4] (fun t W => NHead s w t W) (fun _ W => s.size - W.iterPos w.heap.size)
  case atStart => exact ⟨0, 0, rfl, rfl, by omega, by omega, by omega, N0.out.symm⟩
  case round =>
    obtain ⟨p, n, rfl, rfl, hp, hn0, hn1, e⟩ := hrel
    by_cases hlt : p < s.size
    · by_cases ha : bt s p < 128
      · have hnx := fun ty => next_at w s p ty hlt
        rw [decode_ascii s p hlt (by rw [bt_at]; exact ha), bt_at] at hnx
        simp only at hnx
        have MS : Hid (s.size - (w.alloc (.stringIter s (p + 1))).iterPos w.heap.size < s.size - (w.alloc (.stringIter s p)).iterPos w.heap.size) := by
          show _ < _
          rw [pos_at, pos_at]
          omega
        by_cases hd : 48 ≤ bt s p ∧ bt s p ≤ 57
        · by_cases hm : 10 * n ≤ 9223372036854775807
          · have M := Lib.hid (fun W => num.mul_yes n 10 W ⟨by omega, by omega⟩ ⟨by omega, by omega⟩ ⟨by omega, by omega⟩)
            by_cases hq : 10 * n + ((bt s p : Int) - 48) ≤ 9223372036854775807
            · have A := Lib.hid (fun W => num.add_yes (n * 10) ((bt s p : Int) - 48) W ⟨by omega, by omega⟩ ⟨by omega, by omega⟩ ⟨by omega, by omega⟩)
              have E2 := Lib.hid ((nmb_go s p n hlt hd.1 hd.2 hq).symm.trans e)
              clear e
              go_wp2_with (first
                | (go_at_call 88; (with_reducible refine (M.out _).mono ?_); rintro e w' ⟨rfl, rfl⟩)
                | (go_at_call 54; (with_reducible refine (A.out _).mono ?_); rintro e w' ⟨rfl, rfl⟩))
              go_roundw
              case rel => exact ⟨p + 1, _, rfl, rfl, by omega, by omega, by omega, by rw [Int.mul_comm n 10]; exact E2.out⟩
              case measure => exact MS.out
            · have A := Lib.hid (fun W => num.add_no (n * 10) ((bt s p : Int) - 48) W ⟨by omega, by omega⟩ ⟨by omega, by omega⟩ (fun k => by have := k.2; omega))
              have R := Lib.hid (ntold_no (w := w) (W := w.alloc (.stringIter s (p + 1))) (e.symm.trans (nmb_stop s p n hlt (by omega))) (bel1 _ _))
              clear e
              go_wp2_with (first
                | (go_at_call 88; (with_reducible refine (M.out _).mono ?_); rintro e w' ⟨rfl, rfl⟩)
                | (go_at_call 54; (with_reducible refine (A.out _).mono ?_); rintro e w' ⟨rfl, rfl⟩))
              go_ret2
              exact R.out
          · have M := Lib.hid (fun W => num.mul_no n 10 W ⟨by omega, by omega⟩ ⟨by omega, by omega⟩ (fun k => by have := k.2; omega))
            have R := Lib.hid (ntold_no (w := w) (W := w.alloc (.stringIter s (p + 1))) (e.symm.trans (nmb_stop s p n hlt (by omega))) (bel1 _ _))
            clear e
            go_wp2_with (go_at_call 88; (with_reducible refine (M.out _).mono ?_); rintro e w' ⟨rfl, rfl⟩)
            go_ret2
            exact R.out
        · have R := Lib.hid (ntold_no (w := w) (W := w.alloc (.stringIter s (p + 1))) (e.symm.trans (nmb_stop s p n hlt (by omega))) (bel1 _ _))
          clear e MS
          by_cases hd2 : bt s p < 48
          · go_wp2
            go_ret2
            exact R.out
          · have hd3 : 57 < bt s p := by omega
            go_wp2
            go_ret2
            exact R.out
      · have hnx := fun ty => next_at w s p ty hlt
        obtain ⟨d1, d2, d3, d4⟩ := decode_far s p hlt (by omega)
        have dl := decode_le s p
        have R := Lib.hid (fun q => ntold_no (w := w) (W := w.alloc (.stringIter s q)) (e.symm.trans (nmb_stop s p n hlt (by omega))) (bel1 _ _))
        clear d4 e
        generalize Utf8.decode s p = D at *
        obtain ⟨r, d⟩ := D
        simp only at hnx d1 d2 d3 dl
        go_wp2
        go_ret2
        exact R.out _
    · have hnx := fun ty => next_end w s p ty hlt
      have R := Lib.hid (ntold_yes (w := w) (W := w.alloc (.stringIter s p)) (e.symm.trans (nmb_done s p n (by omega))) (bel1 _ _))
      clear e
      go_wp2
      go_ret2
      exact R.out
theorem number_on {w : World} (W : World) (hb : Below w.heap.size w W) (s : ByteArray) (hs : s.size < 4294967281) : Calls Tryz.prog 60 #[.string s] W fun e w' => e = .returned (.tuple #[.int .i64 (nmI (L s)), .bool (nmT (L s))]) ∧ Below w.heap.size w w' :=
  (number_at s W hs).mono fun e w' ⟨he, hw⟩ => ⟨he, hb.trans (hw.mono hb.size)⟩
end Go.Proofs.YtldieebiicblbaaGreatDoor.lines

/-
  What num's Add and Sub answer where the second number is 2208988800, and what ntp's Posix and Ntp answer, for all numbers of 64 bits. No condition beside that the argument is such a number.
-/
namespace Go.Proofs.YtldieebiicblbaaGreatDoor.ntp
open Go.ChangeShapes Go.WideShapes Go.ChangeAt Go.RowKit
set_option linter.unusedVariables false
set_option maxRecDepth 100000

def fit (n : Int) : Prop := -9223372036854775808 ≤ n ∧ n ≤ 9223372036854775807
theorem add_yes (a : Int) (w : World) (ha : fit a) (h : a ≤ 9223372034645787007) :
    Calls Tryz.prog 54 #[.int .i64 a, .int .i64 2208988800] w fun e w' => e = .returned (.tuple #[.int .i64 (a + 2208988800), .bool true]) ∧ w = w' := by
  obtain ⟨ha1, ha2⟩ := ha
  go_enter Tryz.func54, Tryz.ntmps54
  go_wp2
  go_ret2
  exact ⟨rfl, rfl⟩
theorem add_no (a : Int) (w : World) (ha : fit a) (h : ¬ a ≤ 9223372034645787007) :
    Calls Tryz.prog 54 #[.int .i64 a, .int .i64 2208988800] w fun e w' => e = .returned (.tuple #[.int .i64 0, .bool false]) ∧ w = w' := by
  obtain ⟨ha1, ha2⟩ := ha
  go_enter Tryz.func54, Tryz.ntmps54
  go_wp2
  go_ret2
  exact ⟨rfl, rfl⟩
theorem sub_yes (a : Int) (w : World) (ha : fit a) (h : 0 ≤ a) :
    Calls Tryz.prog 95 #[.int .i64 a, .int .i64 2208988800] w fun e w' => e = .returned (.tuple #[.int .i64 (a - 2208988800), .bool true]) ∧ w = w' := by
  obtain ⟨ha1, ha2⟩ := ha
  go_enter Tryz.func95, Tryz.ntmps95
  go_wp2
  go_ret2
  exact ⟨rfl, rfl⟩
theorem posix_yes (n : Int) (w : World) (hn : fit n) (h : 0 ≤ n) :
    Calls Tryz.prog 69 #[.int .i64 n] w fun e w' => e = .returned (.tuple #[.int .i64 (n - 2208988800), .bool true]) ∧ w = w' := by
  have S := Lib.hid (fun W => sub_yes n W hn h)
  obtain ⟨hn1, hn2⟩ := hn
  go_enter Tryz.func69, Tryz.ntmps69
  go_wp2_with (first
    | (go_at_call 95; (with_reducible refine (S.out _).mono ?_; rintro e w' ⟨rfl, rfl⟩)))
  go_ret2
  exact ⟨rfl, rfl⟩
theorem posix_no (n : Int) (w : World) (hn : fit n) (h : ¬ 0 ≤ n) :
    Calls Tryz.prog 69 #[.int .i64 n] w fun e w' => e = .returned (.tuple #[.int .i64 0, .bool false]) ∧ w = w' := by
  obtain ⟨hn1, hn2⟩ := hn
  go_enter Tryz.func69, Tryz.ntmps69
  go_wp2
  go_ret2
  exact ⟨rfl, rfl⟩
def Has (p : Int) : Prop := -2208988800 ≤ p ∧ p ≤ 9223372034645787007
theorem ntp_yes (p : Int) (w : World) (h : Has p) :
    Calls Tryz.prog 27 #[.int .i64 p] w fun e w' => e = .returned (.tuple #[.int .i64 (p + 2208988800), .bool true]) ∧ w = w' := by
  obtain ⟨h1, h2⟩ := h
  have A := Lib.hid (fun W => add_yes p W ⟨by omega, by omega⟩ h2)
  go_enter Tryz.func27, Tryz.ntmps27
  go_wp2_with (first
    | (go_at_call 54; (with_reducible refine (A.out _).mono ?_; rintro e w' ⟨rfl, rfl⟩)))
  go_ret2
  exact ⟨rfl, rfl⟩
theorem ntp_no (p : Int) (w : World) (hp : fit p) (h : ¬ Has p) :
    Calls Tryz.prog 27 #[.int .i64 p] w fun e w' => e = .returned (.tuple #[.int .i64 0, .bool false]) ∧ w = w' := by
  by_cases h2 : p ≤ 9223372034645787007
  · have A := Lib.hid (fun W => add_yes p W hp h2)
    have h1 : p < -2208988800 := by unfold Has at h; omega
    obtain ⟨hp1, hp2⟩ := hp
    clear h
    go_enter Tryz.func27, Tryz.ntmps27
    go_wp2_with (first
      | (go_at_call 54; (with_reducible refine (A.out _).mono ?_; rintro e w' ⟨rfl, rfl⟩)))
    go_ret2
    exact ⟨rfl, rfl⟩
  · have A := Lib.hid (fun W => add_no p W hp h2)
    obtain ⟨hp1, hp2⟩ := hp
    clear h
    go_enter Tryz.func27, Tryz.ntmps27
    go_wp2_with (first
      | (go_at_call 54; (with_reducible refine (A.out _).mono ?_; rintro e w' ⟨rfl, rfl⟩)))
    go_ret2
    exact ⟨rfl, rfl⟩
end Go.Proofs.YtldieebiicblbaaGreatDoor.ntp
