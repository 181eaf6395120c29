/-
  What ntp's digit and Word answer: what a sign is worth in base 16, and the number that a text is. Condition: the text is no longer than an int can tell.
-/
import Derived.Test.YtfnkloecfjppeaaDoorNtpMath
import Derived.Test.YtfnkloecfjppeaaDoorNtpNum
import Derived.Lib.OthersKept
namespace Go.Proofs.YtfnkloecfjppeaaDoor.ntp
open Go.ChangeShapes Go.WideShapes Go.ChangeAt Go.RowKit
open lx nx
set_option linter.unusedVariables false

theorem digit_yes (c d : Nat) (W : World) (h : dv c = some d) : Calls Tryd.prog 24 #[.int .i32 (c : Nat)] W fun e w' => e = .returned (.tuple #[.int .u32 (d : Nat), .bool true]) ∧ W = w' := by
  rcases dv_cases h with ⟨h1, h2, h3⟩ | ⟨h1, h2, h3⟩ | ⟨h1, h2, h3⟩
  · have e : (d : Int) = (c : Int) - 48 := by omega
    rw [e]
    clear h h3 e
    go_enter Tryd.func24, Tryd.ntmps24
    go_wp2
    go_ret2
    exact ⟨rfl, rfl⟩
  · have e : (d : Int) = (c : Int) - 97 + 10 := by omega
    rw [e]
    clear h h3 e
    go_enter Tryd.func24, Tryd.ntmps24
    go_wp2
    go_ret2
    exact ⟨rfl, rfl⟩
  · have e : (d : Int) = (c : Int) - 65 + 10 := by omega
    rw [e]
    clear h h3 e
    go_enter Tryd.func24, Tryd.ntmps24
    go_wp2
    go_ret2
    exact ⟨rfl, rfl⟩
theorem digit_no (c : Nat) (W : World) (hc : c ≤ 2147483647) (h : dv c = none) : Calls Tryd.prog 24 #[.int .i32 (c : Nat)] W fun e w' => e = .returned (.tuple #[.int .u32 0, .bool false]) ∧ W = w' := by
  obtain ⟨h1, h2, h3⟩ := dv_none h
  clear h
  rcases (show c < 48 ∨ (58 ≤ c ∧ c < 65) ∨ (71 ≤ c ∧ c < 97) ∨ 103 ≤ c by omega) with k | ⟨k, l⟩ | ⟨k, l⟩ | k
  all_goals
    clear h1 h2 h3
    go_enter Tryd.func24, Tryd.ntmps24
    go_wp2
    go_ret2
    exact ⟨rfl, rfl⟩
/-- what Word tells. -/
def WTold (s : ByteArray) (w : World) (e : Ending) (w' : World) : Prop := e = .returned (.tuple #[.int .u32 (wN (L s) : Nat), .bool (wT (L s))]) ∧ Below w.heap.size w w'
theorem wtold_yes {s : ByteArray} {w W : World} {n : Nat} (h : wrd (L s) = some n) (hb : Below w.heap.size w W) : WTold s w (.returned (.tuple #[.int .u32 (n : Nat), .bool true])) W := by
  obtain ⟨e1, e2⟩ := w_yes h
  exact ⟨by rw [e1, e2], hb⟩
theorem wtold_no {s : ByteArray} {w W : World} (h : wrd (L s) = none) (hb : Below w.heap.size w W) : WTold s w (.returned (.tuple #[.int .u32 0, .bool false])) W := by
  obtain ⟨e1, e2⟩ := w_no h
  exact ⟨by rw [e1, e2]; rfl, hb⟩
def WHead (s : ByteArray) (w : World) (t : Value) (W : World) : Prop :=
  ∃ p n : Nat, t = .int .u32 n ∧ W.heap[w.heap.size]? = some (.stringIter s p) ∧ p ≤ s.size ∧ n < 16 ^ p ∧ wg n ((L s).drop p) = wrd (L s) ∧ Below w.heap.size w W
theorem pos_of {W : World} {N p : Nat} {s : ByteArray} (h : W.heap[N]? = some (.stringIter s p)) : W.iterPos N = p := by unfold World.iterPos; rw [h]
theorem whead_next {s : ByteArray} {w W : World} {p n d : Nat} (hi : W.heap[w.heap.size]? = some (.stringIter s p)) (hp : p < s.size) (hn : n < 16 ^ p) (e : wg n ((L s).drop p) = wrd (L s)) (hb : Below w.heap.size w W) (hd : dv (bt s p) = some d) :
    WHead s w (.int .u32 ((16 * n + d : Nat) : Int)) (W.iterAt w.heap.size s (p + 1)) ∧ s.size - (W.iterAt w.heap.size s (p + 1)).iterPos w.heap.size < s.size - W.iterPos w.heap.size := by
  have i2 := Lib.iterAt_heap W w.heap.size s p (p + 1) hi
  refine ⟨⟨p + 1, _, rfl, i2, by omega, ?_, by rw [← wg_go s p n d hp hd]; exact e, Lib.below_iterAt hb (Nat.le_refl _) _ _⟩, by rw [pos_of hi, pos_of i2]; omega⟩
  have := dv_lt hd
  rw [Nat.pow_succ]
  omega
set_option maxHeartbeats 1000000 in
theorem word_at (s : ByteArray) (w : World) (hs : s.size ≤ 9223372036854775807) : Calls Tryd.prog 13 #[.string s] w (WTold s w) := by
  by_cases h0 : s.size = 0
  · obtain rfl : s = ⟨#[]⟩ := L_inj ((L_nil s).2 h0)
    have R := Lib.hid (wtold_no (s := ⟨#[]⟩) (w := w) (W := w) rfl (Below.refl _ _))
    clear h0 hs
    go_enter Tryd.func13, Tryd.ntmps13
    go_wp2
    go_ret2
    exact R.out
  have t0 : (s.toList == []) = false := by
    rw [ByteArray.toList_eq, beq_eq_false_iff_ne]
    intro k
    exact h0 ((L_nil s).1 k)
  by_cases h8 : 8 < s.size
  · have R := Lib.hid (wtold_no (w := w) (W := w) (wrd_long (l := L s) h8) (Below.refl _ _))
    clear h0
    go_enter Tryd.func13, Tryd.ntmps13
    go_wp2
    go_ret2
    exact R.out
  have N0 := Lib.hid (wrd_in (l := L s) (fun e => h0 ((L_nil s).1 e)) (by rw [L_len]; omega))
  go_enter Tryd.func13, Tryd.ntmps13
  go_wp2
  go_loopw [4] (fun t W => WHead s w t W) (fun _ W => s.size - W.iterPos w.heap.size)
  case atStart => exact ⟨0, 0, rfl, heap_alloc_new _ _, by omega, by decide, N0.out.symm, (Below.refl _ _).alloc (Nat.le_refl _) _⟩
  case round =>
    obtain ⟨p, n, rfl, hi, hp, hn, e, hb⟩ := hrel
    by_cases hlt : p < s.size
    · have hn7 : n < 268435456 := Nat.lt_of_lt_of_le hn (Nat.pow_le_pow_right (n := 16) (by decide) (show p ≤ 7 by omega))
      cases hd : dv (bt s p) with
      | some d =>
        have D := Lib.hid (fun W => digit_yes (bt s p) d W hd)
        have ha := dv_small hd
        have R := Lib.hid (whead_next hi hlt hn e hb hd)
        have ho := or_digit n d hn7 (dv_lt hd)
        have hnx := fun ty => Lib.run_next_ascii_at (P := Tryd.prog) wr w.heap.size s p ty hi hlt (by rw [bt_at]; exact ha)
        rw [bt_at] at hnx
        have dl := dv_lt hd
        clear hn e hi hd
        go_wp2_with (first
          | (go_at_call 24; (with_reducible refine (D.out _).mono ?_; rintro e w' ⟨rfl, rfl⟩)))
        go_roundw
        case rel => exact R.out.1
        case measure => exact R.out.2
      | none =>
        have R := Lib.hid (fun W' hb' => wtold_no (w := w) (W := W') (e.symm.trans (wg_stop s p n hlt hd)) hb')
        by_cases ha : bt s p < 128
        · have D := Lib.hid (fun W => digit_no (bt s p) W (by omega) hd)
          have hnx := fun ty => Lib.run_next_ascii_at (P := Tryd.prog) wr w.heap.size s p ty hi hlt (by rw [bt_at]; exact ha)
          rw [bt_at] at hnx
          have HB := Lib.hid (Lib.below_iterAt hb (Nat.le_refl _) s (p + 1))
          clear hn e hi hd
          go_wp2_with (first
            | (go_at_call 24; (with_reducible refine (D.out _).mono ?_; rintro e w' ⟨rfl, rfl⟩)))
          go_ret2
          exact R.out _ HB.out
        · obtain ⟨d1, d2, d3, d4⟩ := decode_far s p hlt (by omega)
          have hnx := fun ty => Lib.run_next_any_at (P := Tryd.prog) wr w.heap.size s p ty hi hlt
          have dl := decode_le s p
          have HB := Lib.hid (Lib.below_iterAt hb (Nat.le_refl _) s (p + (Utf8.decode s p).2))
          clear hn e hi hd d4
          generalize Utf8.decode s p = D at *
          obtain ⟨r, d⟩ := D
          simp only at hnx d1 d2 d3 dl HB
          have D := Lib.hid (fun W => digit_no r W dl (dv_far d1))
          go_wp2_with (first
            | (go_at_call 24; (with_reducible refine (D.out _).mono ?_; rintro e w' ⟨rfl, rfl⟩)))
          go_ret2
          exact R.out _ HB.out
    · have R := Lib.hid (wtold_yes (w := w) (W := wr) (e.symm.trans (wg_done s p n (by omega))) hb)
      have hnx := fun ty => Lib.run_next_end_at (P := Tryd.prog) wr w.heap.size s p ty hi (by omega)
      clear hn e hi
      go_wp2
      go_ret2
      exact R.out
theorem word_on {w : World} (W : World) (hb : Below w.heap.size w W) (s : ByteArray) (hs : s.size ≤ 9223372036854775807) : Calls Tryd.prog 13 #[.string s] W fun e w' => e = .returned (.tuple #[.int .u32 (wN (L s) : Nat), .bool (wT (L s))]) ∧ Below w.heap.size w w' :=
  (word_at s W hs).mono fun e w' ⟨he, hw⟩ => ⟨he, hb.trans (hw.mono hb.size)⟩
end Go.Proofs.YtfnkloecfjppeaaDoor.ntp
