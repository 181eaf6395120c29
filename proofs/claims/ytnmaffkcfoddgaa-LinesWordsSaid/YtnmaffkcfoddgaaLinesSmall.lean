/-
  The small case that each statement of layer 5 begins with comes out true. Condition: the library's variable MaxLen holds some number.
-/
import Derived.Test.YtnmaffkcfoddgaaRef05Words
namespace Go.Proofs.Ytnmaffkcfoddgaa.lines
open Go.ChangeShapes Go.WideShapes Go.ChangeAt Go.RowKit
open lx
set_option linter.unusedVariables false

/-- a row of n texts in new memory, old memory as it was. -/
def Rowed (w : World) (l : List ByteArray) (n : Nat) (e : Ending) (w' : World) : Prop := ∃ A c, e = .returned (.slice A n c) ∧ Strs w' A l ∧ Below w.heap.size w w'
theorem rowed_of {w W : World} (hb : Below w.heap.size w W) {l l' : List ByteArray} {n : Nat} (hl : l = l') (hn : l'.length = n) {e : Ending} {w' : World} (h : Told W l e w') : Rowed w l' n e w' := by
  subst hl
  subst hn
  obtain ⟨A, c, he, hs, _, hw⟩ := h
  exact ⟨A, c, he, hs, hb.trans (hw.mono hb.size)⟩
theorem bal {w W : World} (hb : Below w.heap.size w W) (o : Obj) : Below w.heap.size w (W.alloc o) := hb.alloc hb.size o
theorem strs_lit (W : World) (l : List ByteArray) (cs : Array Value) (hcs : cs = (l.map Value.string).toArray) : Strs (W.alloc (.cells cs 9)) (some ⟨W.heap.size, 0, none⟩) l := by
  intro hl
  refine ⟨W.heap.size, 0, rfl, by simp, fun k hk => ?_⟩
  rw [cell_of_row _ W.heap.size (0 + k) cs 9 (0, 0) (heap_alloc_new W _), hcs]
  simp [hk]
theorem same_n {w : World} (W : World) (hb : Below w.heap.size w W) (n : Nat) (l : List ByteArray) (hn : l.length = n) (A A' : Option Addr) (c c' : Nat) (hl : n < 4294967281) (h : Strs W A l) (h' : Strs W A' l) :
    Calls Try.prog 15 #[.slice A n c, .slice A' n c'] W fun e w' => e = .returned (.bool true) ∧ Below w.heap.size w w' := by
  subst hn
  exact ref05.same_on W hb l A A' c c' hl h h'
theorem same1 {w W : World} (hb : Below w.heap.size w W) (x : ByteArray) (A : Option Addr) (c c' : Nat) (h : Strs W A [x]) :
    Calls Try.prog 15 #[.slice A 1 c, .slice (some ⟨W.heap.size, 0, none⟩) 1 c'] (W.alloc (.cells #[.string x] 9)) fun e w' => e = .returned (.bool true) ∧ Below w.heap.size w w' :=
  same_n _ (bal hb _) 1 [x] rfl _ _ _ _ (by decide) (h.below (bel1 _ _)) (strs_lit _ _ _ rfl)
theorem same2 {w W : World} (hb : Below w.heap.size w W) (x y : ByteArray) (A : Option Addr) (c c' : Nat) (h : Strs W A [x, y]) :
    Calls Try.prog 15 #[.slice A 2 c, .slice (some ⟨W.heap.size, 0, none⟩) 2 c'] (W.alloc (.cells #[.string x, .string y] 9)) fun e w' => e = .returned (.bool true) ∧ Below w.heap.size w w' :=
  same_n _ (bal hb _) 2 [x, y] rfl _ _ _ _ (by decide) (h.below (bel1 _ _)) (strs_lit _ _ _ rfl)
theorem same3 {w W : World} (hb : Below w.heap.size w W) (x y z : ByteArray) (A : Option Addr) (c c' : Nat) (h : Strs W A [x, y, z]) :
    Calls Try.prog 15 #[.slice A 3 c, .slice (some ⟨W.heap.size, 0, none⟩) 3 c'] (W.alloc (.cells #[.string x, .string y, .string z] 9)) fun e w' => e = .returned (.bool true) ∧ Below w.heap.size w w' :=
  same_n _ (bal hb _) 3 [x, y, z] rfl _ _ _ _ (by decide) (h.below (bel1 _ _)) (strs_lit _ _ _ rfl)
theorem ret_bool {b : Bool} (h : b = true) : Ending.returned (.bool b) = .returned (.bool true) := by rw [h]

theorem hit_small : Hit ⟨#[97, 44, 32, 98, 44, 32, 99]⟩ ⟨#[44, 32]⟩ 1 := by
  refine ⟨by decide, by decide, by decide, fun j hj => ?_⟩
  obtain rfl : j = 0 := by omega
  decide

set_option maxRecDepth 100000 in
set_option maxHeartbeats 4000000 in
theorem small_true {w : World} (T : ML w) (W : World) (hb0 : Below w.heap.size w W) :
    Calls Try.prog 10 #[] W fun e w' => e = .returned (.bool true) ∧ Below w.heap.size w w' := by
  have N1 := Lib.hid (fun W hb => number_on (w := w) W hb ⟨#[48, 48, 52, 50]⟩ (by decide))
  rw [show nmI (L ⟨#[48, 48, 52, 50]⟩) = 42 by decide, show nmT (L ⟨#[48, 48, 52, 50]⟩) = true by decide] at N1
  have N2 := Lib.hid (fun W hb => number_on (w := w) W hb ⟨#[]⟩ (by decide))
  rw [show nmI (L ⟨#[]⟩) = 0 by decide, show nmT (L ⟨#[]⟩) = false by decide] at N2
  have N3 := Lib.hid (fun W hb => number_on (w := w) W hb ⟨#[57, 50, 50, 51, 51, 55, 50, 48, 51, 54, 56, 53, 52, 55, 55, 53, 56, 48, 56]⟩ (by decide))
  rw [show nmI (L ⟨#[57, 50, 50, 51, 51, 55, 50, 48, 51, 54, 56, 53, 52, 55, 55, 53, 56, 48, 56]⟩) = 0 by decide, show nmT (L ⟨#[57, 50, 50, 51, 51, 55, 50, 48, 51, 54, 56, 53, 52, 55, 55, 53, 56, 48, 56]⟩) = false by decide] at N3
  have N4 := Lib.hid (fun W hb => number_on (w := w) W hb ⟨#[57, 50, 50, 51, 51, 55, 50, 48, 51, 54, 56, 53, 52, 55, 55, 53, 56, 48, 55]⟩ (by decide))
  rw [show nmI (L ⟨#[57, 50, 50, 51, 51, 55, 50, 48, 51, 54, 56, 53, 52, 55, 55, 53, 56, 48, 55]⟩) = 9223372036854775807 by decide, show nmT (L ⟨#[57, 50, 50, 51, 51, 55, 50, 48, 51, 54, 56, 53, 52, 55, 55, 53, 56, 48, 55]⟩) = true by decide] at N4
  have C1 := Lib.hid (fun W hb => cut_hit T W hb ⟨#[97, 44, 32, 98, 44, 32, 99]⟩ ⟨#[44, 32]⟩ 1 (by decide) hit_small)
  rw [show (⟨#[97, 44, 32, 98, 44, 32, 99]⟩ : ByteArray).extract 0 1 = ⟨#[97]⟩ by decide, show (⟨#[97, 44, 32, 98, 44, 32, 99]⟩ : ByteArray).extract (1 + (⟨#[44, 32]⟩ : ByteArray).size) (⟨#[97, 44, 32, 98, 44, 32, 99]⟩ : ByteArray).size = ⟨#[98, 44, 32, 99]⟩ by decide] at C1
  have C2 := Lib.hid (fun W hb => cut_miss T W hb ⟨#[97, 98, 99]⟩ ⟨#[]⟩ (by decide) (.inl rfl))
  have S1 := Lib.hid (fun W hb => (split_on T W hb ⟨#[97, 13, 10, 10, 98]⟩ (by decide)).mono fun e w' h => rowed_of (w := w) hb (l' := [⟨#[97]⟩, ⟨#[]⟩, ⟨#[98]⟩]) (n := 3) (by decide) rfl h)
  have S2 := Lib.hid (fun W hb => (split_on T W hb ⟨#[]⟩ (by decide)).mono fun e w' h => rowed_of (w := w) hb (l' := []) (n := 0) (by decide) rfl h)
  have S3 := Lib.hid (fun W hb => (split_on T W hb ⟨#[10]⟩ (by decide)).mono fun e w' h => rowed_of (w := w) hb (l' := [⟨#[]⟩]) (n := 1) (by decide) rfl h)
  have W1 := Lib.hid (fun W hb => (words_on (w := w) W hb ⟨#[32, 97, 9, 32, 98]⟩ (by decide)).mono fun e w' h => rowed_of (w := w) hb (l' := [⟨#[97]⟩, ⟨#[98]⟩]) (n := 2) (by decide) rfl h)
  have F1 := Lib.hid (fun W hb => fold_on (w := w) W hb ⟨#[97, 66, 90, 196]⟩ (by decide))
  rw [show foldS ⟨#[97, 66, 90, 196]⟩ = ⟨#[97, 98, 122, 196]⟩ by decide] at F1
  clear T
  go_enter Try.func10, Try.ntmps10
  go_wp2_with (first
    | (go_at_call 11; first | ((with_reducible refine (N1.out _ (by assumption)).mono ?_); rintro e w1 ⟨rfl, hb1⟩) | ((with_reducible refine (N2.out _ (by assumption)).mono ?_); rintro e w2 ⟨rfl, hb2⟩) | ((with_reducible refine (N3.out _ (by assumption)).mono ?_); rintro e w3 ⟨rfl, hb3⟩) | ((with_reducible refine (N4.out _ (by assumption)).mono ?_); rintro e w4 ⟨rfl, hb4⟩))
    | (go_at_call 13; first | ((with_reducible refine (C1.out _ (by assumption)).mono ?_); rintro e w5 ⟨rfl, hb5⟩) | ((with_reducible refine (C2.out _ (by assumption)).mono ?_); rintro e w6 ⟨rfl, hb6⟩))
    | (go_at_call 16; first | ((with_reducible refine (S1.out _ (by assumption)).mono ?_); rintro e w7 ⟨A7, c7, rfl, hs7, hb7⟩) | ((with_reducible refine (S2.out _ (by assumption)).mono ?_); rintro e w8 ⟨A8, c8, rfl, hs8, hb8⟩) | ((with_reducible refine (S3.out _ (by assumption)).mono ?_); rintro e w9 ⟨A9, c9, rfl, hs9, hb9⟩))
    | (go_at_call 18; (with_reducible refine (W1.out _ (by assumption)).mono ?_); rintro e w10 ⟨A10, c10, rfl, hs10, hb10⟩)
    | (go_at_call 20; (with_reducible refine (F1.out _ (by assumption)).mono ?_); rintro e w11 ⟨rfl, hb11⟩)
    | (go_at_call 15; first
        | ((with_reducible refine (same3 hb7 _ _ _ _ _ _ hs7).mono ?_); rintro e w12 ⟨rfl, hb12⟩)
        | ((with_reducible refine (same1 hb9 _ _ _ _ hs9).mono ?_); rintro e w13 ⟨rfl, hb13⟩)
        | ((with_reducible refine (same2 hb10 _ _ _ _ _ hs10).mono ?_); rintro e w14 ⟨rfl, hb14⟩)))
  go_ret
  exact ⟨rfl, by assumption⟩
end Go.Proofs.Ytnmaffkcfoddgaa.lines
