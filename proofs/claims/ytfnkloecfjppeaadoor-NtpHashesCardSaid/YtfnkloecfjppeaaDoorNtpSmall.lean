/-
  The small case of layer 7 comes out true. Condition: the library's table deBruijn64tab holds 4 at its place 15.
-/
import Derived.Test.YtfnkloecfjppeaaDoorNtpText
import Derived.Test.YtfnkloecfjppeaaDoorNtpHash
namespace Go.Proofs.YtfnkloecfjppeaaDoor.ntp
open Go.ChangeShapes Go.WideShapes Go.ChangeAt Go.RowKit
open lx nx sx
open sha (hp_new hp_old row_cell szc sz5 kept bal btr gload eq5 same same_self)
set_option linter.unusedVariables false

def sm (k : Nat) : Nat := [1, 2, 3, 4, 4294967295].getD k 0
theorem txt_sm : txt sm = ⟨#[48, 48, 48, 48, 48, 48, 48, 49, 32, 48, 48, 48, 48, 48, 48, 48, 50, 32, 48, 48, 48, 48, 48, 48, 48, 51, 32, 48, 48, 48, 48, 48, 48, 48, 52, 32, 102, 102, 102, 102, 102, 102, 102, 102]⟩ := by decide +kernel
theorem hT_sm : hT ⟨#[32, 49, 32, 50, 9, 51, 32, 52, 32, 102, 102, 102, 102, 102, 102, 102, 102, 32]⟩ = true := by decide +kernel
theorem hN_sm : ∀ k, k < 5 → hN ⟨#[32, 49, 32, 50, 9, 51, 32, 52, 32, 102, 102, 102, 102, 102, 102, 102, 102, 32]⟩ k = sm k := by decide +kernel
theorem hT_four : hT ⟨#[49, 32, 50, 32, 51, 32, 52]⟩ = false := by decide +kernel
theorem sm_lt (k : Nat) : sm k < 4294967296 := by
  rcases (show k = 0 ∨ k = 1 ∨ k = 2 ∨ k = 3 ∨ k = 4 ∨ 5 ≤ k by omega) with rfl | rfl | rfl | rfl | rfl | h
  · decide
  · decide
  · decide
  · decide
  · decide
  · unfold sm
    rw [List.getD_eq_getElem?_getD, List.getElem?_eq_none (by simpa using h)]
    decide
theorem hash_sm (W : World) : Calls Tryd.prog 15 #[.string ⟨#[32, 49, 32, 50, 9, 51, 32, 52, 32, 102, 102, 102, 102, 102, 102, 102, 102, 32]⟩] W fun e w' => e = .returned (.tuple #[.agg #[.int .u32 1, .int .u32 2, .int .u32 3, .int .u32 4, .int .u32 4294967295], .bool true]) ∧ Below W.heap.size W w' := by
  refine (hash_at ⟨#[32, 49, 32, 50, 9, 51, 32, 52, 32, 102, 102, 102, 102, 102, 102, 102, 102, 32]⟩ W (by decide)).mono ?_
  rintro e w' ⟨rfl, hb⟩
  refine ⟨?_, hb⟩
  rw [hT_sm, cs_congr .u32 _ sm 5 hN_sm]
  rfl
theorem hash_four (W : World) : Calls Tryd.prog 15 #[.string ⟨#[49, 32, 50, 32, 51, 32, 52]⟩] W fun e w' => e = .returned (.tuple #[.agg #[.int .u32 0, .int .u32 0, .int .u32 0, .int .u32 0, .int .u32 0], .bool false]) ∧ Below W.heap.size W w' := by
  refine (hash_at ⟨#[49, 32, 50, 32, 51, 32, 52]⟩ W (by decide)).mono ?_
  rintro e w' ⟨rfl, hb⟩
  refine ⟨?_, hb⟩
  rw [hT_four, cs_congr .u32 _ (fun _ => 0) 5 (fun j _ => hN_no hT_four j)]
  rfl
theorem text_sm (W : World) (T : Tz W) : Calls Tryd.prog 17 #[.agg #[.int .u32 1, .int .u32 2, .int .u32 3, .int .u32 4, .int .u32 4294967295]] W fun e w' => e = .returned (.string ⟨#[48, 48, 48, 48, 48, 48, 48, 49, 32, 48, 48, 48, 48, 48, 48, 48, 50, 32, 48, 48, 48, 48, 48, 48, 48, 51, 32, 48, 48, 48, 48, 48, 48, 48, 52, 32, 102, 102, 102, 102, 102, 102, 102, 102]⟩) ∧ Below W.heap.size W w' := by
  rw [← txt_sm]
  exact text_any sm W (fun k _ => sm_lt k) T
theorem word_c (s : ByteArray) (n : Nat) (b : Bool) (hn : wN (L s) = n) (hb : wT (L s) = b) (hs : s.size ≤ 9223372036854775807) (W : World) : Calls Tryd.prog 13 #[.string s] W fun e w' => e = .returned (.tuple #[.int .u32 (n : Nat), .bool b]) ∧ Below W.heap.size W w' := by
  subst hn hb
  exact word_at s W hs
set_option maxHeartbeats 4000000 in
set_option maxRecDepth 100000 in
theorem small_at (w : World) (T : Tz w) : Calls Tryd.prog 8 #[] w fun e w' => e = .returned (.bool true) ∧ Below w.heap.size w w' := by
  have P1 : Hid (∀ W, Calls Tryd.prog 9 #[.int .i64 2272060800] W fun e w' => e = .returned (.tuple #[.int .i64 63072000, .bool true]) ∧ W = w') := fun W => posix_yes 2272060800 W (by unfold fit; omega) (by omega)
  have P2 : Hid (∀ W, Calls Tryd.prog 9 #[.int .i64 (-1)] W fun e w' => e = .returned (.tuple #[.int .i64 0, .bool false]) ∧ W = w') := fun W => posix_no (-1) W (by unfold fit; omega) (by omega)
  have N1 : Hid (∀ W, Calls Tryd.prog 11 #[.int .i64 0] W fun e w' => e = .returned (.tuple #[.int .i64 2208988800, .bool true]) ∧ W = w') := fun W => ntp_yes 0 W (by unfold Has; omega)
  have N2 : Hid (∀ W, Calls Tryd.prog 11 #[.int .i64 9223372036854775807] W fun e w' => e = .returned (.tuple #[.int .i64 0, .bool false]) ∧ W = w') := fun W => ntp_no 9223372036854775807 W (by unfold fit; omega) (by unfold Has; omega)
  have W1 : Hid (∀ W, Calls Tryd.prog 13 #[.string ⟨#[48, 48, 97, 70]⟩] W fun e w' => e = .returned (.tuple #[.int .u32 175, .bool true]) ∧ Below W.heap.size W w') := fun W => word_c _ 175 true (by decide +kernel) (by decide +kernel) (by decide) W
  have W2 : Hid (∀ W, Calls Tryd.prog 13 #[.string ⟨#[49, 50, 51, 52, 53, 54, 55, 56, 57]⟩] W fun e w' => e = .returned (.tuple #[.int .u32 0, .bool false]) ∧ Below W.heap.size W w') := fun W => word_c _ 0 false (by decide +kernel) (by decide +kernel) (by decide) W
  have W3 : Hid (∀ W, Calls Tryd.prog 13 #[.string ⟨#[49, 103]⟩] W fun e w' => e = .returned (.tuple #[.int .u32 0, .bool false]) ∧ Below W.heap.size W w') := fun W => word_c _ 0 false (by decide +kernel) (by decide +kernel) (by decide) W
  have H1 := Lib.hid hash_sm
  have H2 := Lib.hid hash_four
  have TX := Lib.hid (fun W hb => text_sm W (T.below hb))
  have EQ : ∀ W, (Op.equalIn 10000 23 (.agg #[.int .u32 1, .int .u32 2, .int .u32 3, .int .u32 4, .int .u32 4294967295]) (.agg #[.int .u32 1, .int .u32 2, .int .u32 3, .int .u32 4, .int .u32 4294967295])).run Tryd.prog W = .ok true W := fun W => (eq5 sm sm W).trans (by rw [same_self])
  clear T
  go_enter Tryd.func8, Tryd.ntmps8
  go_wp2_with (first
    | (go_at_call 9; first | ((with_reducible refine (P1.out _).mono ?_); rintro e w' ⟨rfl, rfl⟩) | ((with_reducible refine (P2.out _).mono ?_); rintro e w' ⟨rfl, rfl⟩))
    | (go_at_call 11; first | ((with_reducible refine (N1.out _).mono ?_); rintro e w' ⟨rfl, rfl⟩) | ((with_reducible refine (N2.out _).mono ?_); rintro e w' ⟨rfl, rfl⟩))
    | (go_at_call 13; first | ((with_reducible refine (W1.out _).mono ?_); rintro e w1 ⟨rfl, b1⟩) | ((with_reducible refine (W2.out _).mono ?_); rintro e w2 ⟨rfl, h2⟩; have b2 := btr b1 h2) | ((with_reducible refine (W3.out _).mono ?_); rintro e w3 ⟨rfl, h3⟩; have b3 := btr b2 h3))
    | (go_at_call 15; first | ((with_reducible refine (H1.out _).mono ?_); rintro e w4 ⟨rfl, h4⟩; have b4 := btr b3 h4) | ((with_reducible refine (H2.out _).mono ?_); rintro e w5 ⟨rfl, h5⟩; have b5 := btr (bal b4 _) h5; have G5 := Lib.hid (kept (hp_new _ _) h5)))
    | (refine gload rfl 23 (.tmp 15) rfl _ rfl _ _ (hp_old G5.out _) _ _ Tryd.underlying23 sz5 ?_)
    | (go_at_call 17; (with_reducible refine (TX.out _ (bal b5 _)).mono ?_); rintro e w6 ⟨rfl, h6⟩; have b6 := btr (bal b5 _) h6))
  go_ret
  exact ⟨rfl, b6⟩
theorem small_true {w : World} (T : Tz w) (W : World) (hb : Below w.heap.size w W) : Calls Tryd.prog 8 #[] W fun e w' => e = .returned (.bool true) ∧ Below w.heap.size w w' :=
  (small_at W (T.below hb)).mono fun e w' ⟨he, hw⟩ => ⟨he, btr hb hw⟩
end Go.Proofs.YtfnkloecfjppeaaDoor.ntp
