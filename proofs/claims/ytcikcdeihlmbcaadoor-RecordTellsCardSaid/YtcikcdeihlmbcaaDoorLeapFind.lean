/-
  What leap's Find, Total, Step and Length answer, and the library's binary search with Find's closure. Conditions: the slice reads as the row; its leaps are right.
-/
import Derived.Test.YtcikcdeihlmbcaaDoorLeapCheck
import Derived.Shelf.Abstract
namespace Go.Proofs.YtcikcdeihlmbcaaDoor.leap
open Go.ChangeShapes Go.WideShapes Go.ChangeAt Go.RowKit
open lm mem
set_option linter.unusedVariables false
set_option maxRecDepth 100000

theorem search_at (cb : Array Value) (n fd : Nat) (w : World) (hn : n ≤ 4000000000000000000) (hfd : fd ≤ n)
    (hf : ∀ (i : Nat) (W : World), i < n → Below w.heap.size w W → Calls Tryd.prog 54 (#[.int .i64 i] ++ cb) W fun e w' => e = .returned (.bool (decide (fd ≤ i))) ∧ Below W.heap.size W w') :
    Calls Tryd.prog 43 #[.int .i64 n, .func (.func 54) #[] cb] w fun e w' => e = .returned (.int .i64 fd) ∧ Below w.heap.size w w' := by
  have HF := Lib.hid hf
  have eg : ∀ args w, (callFunc 54 args).run Tryd.prog w = .ok (.enter 54 args) w := fun args w => by kernel_rfl
  clear hf
  go_enter Tryd.func43, Tryd.ntmps43
  go_wp2
  go_loopw [5, 6] (fun s5 s6 W => ∃ lo hi : Nat, s5 = .int .i64 lo ∧ s6 = .int .i64 hi ∧ lo ≤ fd ∧ fd ≤ hi ∧ hi ≤ n ∧ Below w.heap.size w W) (fun s5 s6 _ => (intOf s6 - intOf s5).toNat)
  case atStart => exact ⟨0, n, rfl, rfl, Nat.zero_le _, hfd, Nat.le_refl _, Below.refl _ _⟩
  case round =>
    obtain ⟨lo, hi, rfl, rfl, h1, h2, h3, hb⟩ := hrel
    by_cases hlt : lo < hi
    · have hc := HF.out ((lo + hi) / 2) wr (by omega) hb
      rw [show (((lo + hi) / 2 : Nat) : Int) = ((lo : Int) + (hi : Int)) / 2 by omega] at hc
      by_cases hp : fd ≤ (lo + hi) / 2
      · rw [decide_eq_true hp] at hc
        have R : Hid (∀ W', Below wr.heap.size wr W' → ∃ lo' hi' : Nat, Value.int .i64 (lo : Nat) = .int .i64 (lo' : Nat) ∧ Value.int .i64 (((lo : Int) + (hi : Int)) / 2) = .int .i64 (hi' : Nat) ∧ lo' ≤ fd ∧ fd ≤ hi' ∧ hi' ≤ n ∧ Below w.heap.size w W') := fun W' hb' => ⟨lo, (lo + hi) / 2, rfl, by rw [show (((lo + hi) / 2 : Nat) : Int) = ((lo : Int) + (hi : Int)) / 2 by omega], h1, hp, by omega, btr hb hb'⟩
        clear hp HF
        go_wp2_with (go_at_fn 54; refine hc.mono ?_; rintro e w1 ⟨rfl, hb1⟩; have R1 := R.out _ hb1)
        go_roundw
        case rel => exact R1
        case measure => simp [intOf]; omega
      · rw [decide_eq_false hp] at hc
        have R : Hid (∀ W', Below wr.heap.size wr W' → ∃ lo' hi' : Nat, Value.int .i64 (((lo : Int) + (hi : Int)) / 2 + 1) = .int .i64 (lo' : Nat) ∧ Value.int .i64 (hi : Nat) = .int .i64 (hi' : Nat) ∧ lo' ≤ fd ∧ fd ≤ hi' ∧ hi' ≤ n ∧ Below w.heap.size w W') := fun W' hb' => ⟨(lo + hi) / 2 + 1, hi, by rw [show ((lo : Int) + (hi : Int)) / 2 + 1 = (((lo + hi) / 2 + 1 : Nat) : Int) by omega], rfl, by omega, h2, h3, btr hb hb'⟩
        clear hp HF
        go_wp2_with (go_at_fn 54; refine hc.mono ?_; rintro e w1 ⟨rfl, hb1⟩; have R1 := R.out _ hb1)
        go_roundw
        case rel => exact R1
        case measure => simp [intOf]; omega
    · obtain rfl : hi = lo := by omega
      obtain rfl : fd = hi := by omega
      clear HF
      go_wp2
      go_ret
      exact ⟨rfl, hb⟩
theorem find1_at (l : List Lp) (A : Option Addr) (c : Nat) (d : Int) (g gd i : Nat) (W : World) (h : Lps W A l) (hi : i < l.length) (hn : l.length ≤ 9223372036854775807)
    (h0 : W.cell? ⟨g, 0, none⟩ = some (.slice A l.length c)) (h1 : W.cell? ⟨gd, 0, none⟩ = some (.int .i64 d)) :
    Calls Tryd.prog 54 #[.int .i64 i, .pointer (some ⟨g, 0, none⟩), .pointer (some ⟨gd, 0, none⟩)] W fun e w' => e = .returned (.bool (decide (d ≤ dy l i))) ∧ Below W.heap.size W w' := by
  obtain ⟨b, o, rfl, hb0, hc⟩ := h (by omega)
  have x0 := (hc i hi).1
  clear hc h
  generalize dy l i = D at *
  generalize l.length = n at *
  go_enter Tryd.func54, Tryd.ntmps54
  go_wp2
  go_quiet (fail)
  go_wp2
  go_ret
  exact ⟨rfl, bel_drewN (Below.refl _ _) _⟩
end Go.Proofs.YtcikcdeihlmbcaaDoor.leap
