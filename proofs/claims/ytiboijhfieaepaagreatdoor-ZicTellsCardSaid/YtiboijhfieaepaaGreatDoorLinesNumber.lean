/-
  What lines.Number answers: the number that a text is in decimals, and true; nought and false of any other text. Condition: the text is no longer than an int can tell.
-/
import Derived.Test.YtiboijhfieaepaaGreatDoorLinesMem
import Derived.Test.YtiboijhfieaepaaGreatDoorLinesCur
import Derived.Test.YtiboijhfieaepaaGreatDoorNumAdd
import Derived.Lib.OthersKept
namespace Go.Proofs.YtiboijhfieaepaaGreatDoor.lines
open Go.ChangeShapes Go.WideShapes Go.ChangeAt Go.RowKit
open lx
set_option linter.unusedVariables false
set_option maxRecDepth 100000

/-- what is told of a number. -/
def NTold (s : ByteArray) (w : World) (e : Ending) (w' : World) : Prop := e = .returned (.tuple #[.int .i64 (nmI (L s)), .bool (nmT (L s))]) ∧ Below w.heap.size w w'
theorem ntold_no {s : ByteArray} {w W : World} (h : nm (L s) = none) (hb : Below w.heap.size w W) : NTold s w (.returned (.tuple #[.int .i64 0, .bool false])) W := by
  obtain ⟨a, b⟩ := nm_no h
  unfold NTold
  rw [a, b]
  exact ⟨rfl, hb⟩
theorem ntold_yes {s : ByteArray} {w W : World} {n : Int} (h : nm (L s) = some n) (hb : Below w.heap.size w W) : NTold s w (.returned (.tuple #[.int .i64 n, .bool true])) W := by
  obtain ⟨a, b⟩ := nm_yes h
  unfold NTold
  rw [a, b]
  exact ⟨rfl, hb⟩
def NHead (s : ByteArray) (w : World) (t : Value) (W : World) : Prop :=
  ∃ (p : Nat) (n : Int), t = .int .i64 n ∧ W = w.alloc (.stringIter s p) ∧ p ≤ s.size ∧ 0 ≤ n ∧ n ≤ 9223372036854775807 ∧ nmb n ((L s).drop p) = nm (L s)
theorem next_at (w : World) (s : ByteArray) (p : Nat) (ty : TypeId) (h : p < s.size) :
    (Instr.next (.pointer (some ⟨w.heap.size, 0, none⟩)) true ty).run Tryz.prog (w.alloc (.stringIter s p)) = .ok (.tuple #[.bool true, .int .i64 p, .int .i32 (Utf8.decode s p).1]) (w.alloc (.stringIter s (p + (Utf8.decode s p).2))) :=
  run_next_any (P := Tryz.prog) w s p ty h
theorem next_end (w : World) (s : ByteArray) (p : Nat) (ty : TypeId) (h : ¬ p < s.size) :
    (Instr.next (.pointer (some ⟨w.heap.size, 0, none⟩)) true ty).run Tryz.prog (w.alloc (.stringIter s p)) = .ok (.tuple #[.bool false]) (w.alloc (.stringIter s p)) :=
  run_next_end (P := Tryz.prog) w s p ty h
theorem pos_at (w : World) (s : ByteArray) (p : Nat) : (w.alloc (.stringIter s p)).iterPos w.heap.size = p := World.iterPos_iter w s p
theorem bel1 (w : World) (o : Obj) : Below w.heap.size w (w.alloc o) := (Below.refl _ _).alloc (Nat.le_refl _) _

set_option maxHeartbeats 2000000 in
theorem number_at (s : ByteArray) (w : World) (hs : s.size < 4294967281) : Calls Tryz.prog 68 #[.string s] w (NTold s w) := by
  by_cases h0 : s.size = 0
  · obtain rfl := tl_nil h0
    have R := Lib.hid (ntold_no (s := ⟨#[]⟩) (w := w) (W := w) rfl (Below.refl _ _))
    clear h0 hs
    go_enter Tryz.func68, Tryz.ntmps68
    go_wp2
    go_ret2
    exact R.out
  have t0 := tl_ne (show 0 < s.size by omega)
  have N0 := Lib.hid (nm_of s (by omega))
  go_enter Tryz.func68, Tryz.ntmps68
  go_wp2
  go_loopw [4] (fun t W => NHead s w t W) (fun _ W => s.size - W.iterPos w.heap.size)
  case atStart => exact ⟨0, 0, rfl, rfl, by omega, by omega, by omega, N0.out.symm⟩
  case round =>
    obtain ⟨p, n, rfl, rfl, hp, hn0, hn1, e⟩ := hrel
    by_cases hlt : p < s.size
    · by_cases ha : bt s p < 128
      · have hnx := fun ty => next_at w s p ty hlt
        rw [decode_ascii s p hlt (by rw [bt_at]; exact ha), bt_at] at hnx
        simp only at hnx
        have MS : Hid (s.size - (w.alloc (.stringIter s (p + 1))).iterPos w.heap.size < s.size - (w.alloc (.stringIter s p)).iterPos w.heap.size) := by
          show _ < _
          rw [pos_at, pos_at]
          omega
        by_cases hd : 48 ≤ bt s p ∧ bt s p ≤ 57
        · by_cases hm : 10 * n ≤ 9223372036854775807
          · have M := Lib.hid (fun W => num.mul_yes n 10 W ⟨by omega, by omega⟩ ⟨by omega, by omega⟩ ⟨by omega, by omega⟩)
            by_cases hq : 10 * n + ((bt s p : Int) - 48) ≤ 9223372036854775807
            · have A := Lib.hid (fun W => num.add_yes (n * 10) ((bt s p : Int) - 48) W ⟨by omega, by omega⟩ ⟨by omega, by omega⟩ ⟨by omega, by omega⟩)
              have E2 := Lib.hid ((nmb_go s p n hlt hd.1 hd.2 hq).symm.trans e)
              clear e
              go_wp2_with (first
                | (go_at_call 87; (with_reducible refine (M.out _).mono ?_); rintro e w' ⟨rfl, rfl⟩)
                | (go_at_call 88; (with_reducible refine (A.out _).mono ?_); rintro e w' ⟨rfl, rfl⟩))
              go_roundw
              case rel => exact ⟨p + 1, _, rfl, rfl, by omega, by omega, by omega, by rw [Int.mul_comm n 10]; exact E2.out⟩
              case measure => exact MS.out
            · have A := Lib.hid (fun W => num.add_no (n * 10) ((bt s p : Int) - 48) W ⟨by omega, by omega⟩ ⟨by omega, by omega⟩ (fun k => by have := k.2; omega))
              have R := Lib.hid (ntold_no (w := w) (W := w.alloc (.stringIter s (p + 1))) (e.symm.trans (nmb_stop s p n hlt (by omega))) (bel1 _ _))
              clear e
              go_wp2_with (first
                | (go_at_call 87; (with_reducible refine (M.out _).mono ?_); rintro e w' ⟨rfl, rfl⟩)
                | (go_at_call 88; (with_reducible refine (A.out _).mono ?_); rintro e w' ⟨rfl, rfl⟩))
              go_ret2
              exact R.out
          · have M := Lib.hid (fun W => num.mul_no n 10 W ⟨by omega, by omega⟩ ⟨by omega, by omega⟩ (fun k => by have := k.2; omega))
            have R := Lib.hid (ntold_no (w := w) (W := w.alloc (.stringIter s (p + 1))) (e.symm.trans (nmb_stop s p n hlt (by omega))) (bel1 _ _))
            clear e
            go_wp2_with (go_at_call 87; (with_reducible refine (M.out _).mono ?_); rintro e w' ⟨rfl, rfl⟩)
            go_ret2
            exact R.out
        · have R := Lib.hid (ntold_no (w := w) (W := w.alloc (.stringIter s (p + 1))) (e.symm.trans (nmb_stop s p n hlt (by omega))) (bel1 _ _))
          clear e MS
          by_cases hd2 : bt s p < 48
          · go_wp2
            go_ret2
            exact R.out
          · have hd3 : 57 < bt s p := by omega
            go_wp2
            go_ret2
            exact R.out
      · have hnx := fun ty => next_at w s p ty hlt
        obtain ⟨d1, d2, d3, d4⟩ := decode_far s p hlt (by omega)
        have dl := decode_le s p
        have R := Lib.hid (fun q => ntold_no (w := w) (W := w.alloc (.stringIter s q)) (e.symm.trans (nmb_stop s p n hlt (by omega))) (bel1 _ _))
        clear d4 e
        generalize Utf8.decode s p = D at *
        obtain ⟨r, d⟩ := D
        simp only at hnx d1 d2 d3 dl
        go_wp2
        go_ret2
        exact R.out _
    · have hnx := fun ty => next_end w s p ty hlt
      have R := Lib.hid (ntold_yes (w := w) (W := w.alloc (.stringIter s p)) (e.symm.trans (nmb_done s p n (by omega))) (bel1 _ _))
      clear e
      go_wp2
      go_ret2
      exact R.out
theorem number_on {w : World} (W : World) (hb : Below w.heap.size w W) (s : ByteArray) (hs : s.size < 4294967281) : Calls Tryz.prog 68 #[.string s] W fun e w' => e = .returned (.tuple #[.int .i64 (nmI (L s)), .bool (nmT (L s))]) ∧ Below w.heap.size w w' :=
  (number_at s W hs).mono fun e w' ⟨he, hw⟩ => ⟨he, hb.trans (hw.mono hb.size)⟩
end Go.Proofs.YtiboijhfieaepaaGreatDoor.lines
