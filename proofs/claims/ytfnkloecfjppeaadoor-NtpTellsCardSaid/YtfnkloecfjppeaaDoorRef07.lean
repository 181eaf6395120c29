/-
  What the document's own Posix, Ntp, digit, Word, Hash and Text of layer 7 are: the same answers. Conditions: the arguments are numbers of 64 bits; the texts have fewer than 2^32 - 15 bytes; the numbers of a hash are below 2^32.
-/
import Derived.Test.YtfnkloecfjppeaaDoorNtpHash
import Derived.Test.YtfnkloecfjppeaaDoorRef05Words
namespace Go.Proofs.YtfnkloecfjppeaaDoor.ref07
open Go.ChangeShapes Go.WideShapes Go.ChangeAt Go.RowKit
open lx nx sx ntp
open sha (hd hp_new hp_old row_cell row_set szc sz5 kept bal btr bel_setRow upto upto_set upto_all upto_zero)
set_option linter.unusedVariables false

theorem posix_yes (n : Int) (w : World) (hn : fit n) (h : 0 ≤ n) :
    Calls Tryd.prog 10 #[.int .i64 n] w fun e w' => e = .returned (.tuple #[.int .i64 (n - 2208988800), .bool true]) ∧ w = w' := by
  obtain ⟨hn1, hn2⟩ := hn
  go_enter Tryd.func10, Tryd.ntmps10
  go_wp2
  go_ret2
  exact ⟨rfl, rfl⟩
theorem posix_no (n : Int) (w : World) (hn : fit n) (h : ¬ 0 ≤ n) :
    Calls Tryd.prog 10 #[.int .i64 n] w fun e w' => e = .returned (.tuple #[.int .i64 0, .bool false]) ∧ w = w' := by
  obtain ⟨hn1, hn2⟩ := hn
  go_enter Tryd.func10, Tryd.ntmps10
  go_wp2
  go_ret2
  exact ⟨rfl, rfl⟩
theorem ntp_yes (p : Int) (w : World) (h : Has p) :
    Calls Tryd.prog 12 #[.int .i64 p] w fun e w' => e = .returned (.tuple #[.int .i64 (p + 2208988800), .bool true]) ∧ w = w' := by
  obtain ⟨h1, h2⟩ := h
  go_enter Tryd.func12, Tryd.ntmps12
  go_wp2
  go_ret2
  exact ⟨rfl, rfl⟩
theorem ntp_no (p : Int) (w : World) (hp : fit p) (h : ¬ Has p) :
    Calls Tryd.prog 12 #[.int .i64 p] w fun e w' => e = .returned (.tuple #[.int .i64 0, .bool false]) ∧ w = w' := by
  obtain ⟨hp1, hp2⟩ := hp
  by_cases h2 : p ≤ 9223372034645787007
  · have h1 : p < -2208988800 := by unfold Has at h; omega
    clear h
    go_enter Tryd.func12, Tryd.ntmps12
    go_wp2
    go_ret2
    exact ⟨rfl, rfl⟩
  · clear h
    go_enter Tryd.func12, Tryd.ntmps12
    go_wp2
    go_ret2
    exact ⟨rfl, rfl⟩
theorem digit_yes (c d : Nat) (W : World) (h : dv c = some d) : Calls Tryd.prog 25 #[.int .u8 (c : Nat)] W fun e w' => e = .returned (.int .i64 (d : Nat)) ∧ W = w' := by
  rcases dv_cases h with ⟨h1, h2, h3⟩ | ⟨h1, h2, h3⟩ | ⟨h1, h2, h3⟩
  · have e : (d : Int) = (c : Int) - 48 := by omega
    rw [e]
    clear h h3 e
    go_enter Tryd.func25, Tryd.ntmps25
    go_wp2
    go_ret
    exact ⟨rfl, rfl⟩
  · have e : (d : Int) = (c : Int) - 97 + 10 := by omega
    rw [e]
    clear h h3 e
    go_enter Tryd.func25, Tryd.ntmps25
    go_wp2
    go_ret
    exact ⟨rfl, rfl⟩
  · have e : (d : Int) = (c : Int) - 65 + 10 := by omega
    rw [e]
    clear h h3 e
    go_enter Tryd.func25, Tryd.ntmps25
    go_wp2
    go_ret
    exact ⟨rfl, rfl⟩
theorem digit_no (c : Nat) (W : World) (hc : c < 256) (h : dv c = none) : Calls Tryd.prog 25 #[.int .u8 (c : Nat)] W fun e w' => e = .returned (.int .i64 (-1)) ∧ W = w' := by
  obtain ⟨h1, h2, h3⟩ := dv_none h
  clear h
  rcases (show c < 48 ∨ (58 ≤ c ∧ c < 65) ∨ (71 ≤ c ∧ c < 97) ∨ 103 ≤ c by omega) with k | ⟨k, l⟩ | ⟨k, l⟩ | k
  all_goals
    clear h1 h2 h3
    go_enter Tryd.func25, Tryd.ntmps25
    go_wp2
    go_ret
    exact ⟨rfl, rfl⟩
def RHead (s : ByteArray) (t i : Value) : Prop := ∃ p n : Nat, t = .int .u32 n ∧ i = .int .i64 p ∧ p ≤ s.size ∧ n < 16 ^ p ∧ wg n ((L s).drop p) = wrd (L s)
set_option maxHeartbeats 1000000 in
theorem word_at (s : ByteArray) (w : World) (hs : s.size ≤ 9223372036854775807) : Calls Tryd.prog 14 #[.string s] w (WTold s w) := by
  by_cases h0 : s.size = 0
  · obtain rfl : s = ⟨#[]⟩ := L_inj ((L_nil s).2 h0)
    have R := Lib.hid (wtold_no (s := ⟨#[]⟩) (w := w) (W := w) rfl (Below.refl _ _))
    clear h0 hs
    go_enter Tryd.func14, Tryd.ntmps14
    go_wp2
    go_ret2
    exact R.out
  by_cases h8 : 8 < s.size
  · have R := Lib.hid (wtold_no (w := w) (W := w) (wrd_long (l := L s) h8) (Below.refl _ _))
    clear h0
    go_enter Tryd.func14, Tryd.ntmps14
    go_wp2
    go_ret2
    exact R.out
  have N0 := Lib.hid (wrd_in (l := L s) (fun e => h0 ((L_nil s).1 e)) (by rw [L_len]; omega))
  go_enter Tryd.func14, Tryd.ntmps14
  go_wp2
  go_loop [4, 5] (fun t i => RHead s t i) (fun _ i => s.size - (intOf i).toNat)
  case atStart => exact ⟨0, 0, rfl, rfl, by omega, by decide, N0.out.symm⟩
  case round =>
    obtain ⟨p, n, rfl, rfl, hp, hn, e⟩ := hrel
    by_cases hlt : p < s.size
    · have hn7 : n < 268435456 := Nat.lt_of_lt_of_le hn (Nat.pow_le_pow_right (n := 16) (by decide) (show p ≤ 7 by omega))
      have hbt := bt_at s p hlt
      have hbl := bt_lt s p
      cases hd : dv (bt s p) with
      | some d =>
        have D := Lib.hid (fun W => digit_yes (bt s p) d W hd)
        have ho := or_digit n d hn7 (dv_lt hd)
        have dl := dv_lt hd
        have R : Hid (RHead s (.int .u32 ((16 * n + d : Nat) : Int)) (.int .i64 ((p : Int) + 1))) := ⟨p + 1, _, rfl, rfl, by omega, by rw [Nat.pow_succ]; omega, by rw [← wg_go s p n d hlt hd]; exact e⟩
        clear hn e hd
        go_wp2_with (first
          | (go_at_call 25; (with_reducible refine (D.out _).mono ?_; rintro e w' ⟨rfl, rfl⟩)))
        go_round
        case rel => exact R.out
        case measure => simp [intOf]; omega
      | none =>
        have R := Lib.hid (wtold_no (w := w) (W := w) (e.symm.trans (wg_stop s p n hlt hd)) (Below.refl _ _))
        have D := Lib.hid (fun W => digit_no (bt s p) W hbl hd)
        clear hn e hd
        go_wp2_with (first
          | (go_at_call 25; (with_reducible refine (D.out _).mono ?_; rintro e w' ⟨rfl, rfl⟩)))
        go_ret2
        exact R.out
    · have R := Lib.hid (wtold_yes (w := w) (W := w) (e.symm.trans (wg_done s p n (by omega))) (Below.refl _ _))
      clear hn e
      go_wp2
      go_ret2
      exact R.out
theorem word_on {w : World} (W : World) (hb : Below w.heap.size w W) (s : ByteArray) (hs : s.size ≤ 9223372036854775807) : Calls Tryd.prog 14 #[.string s] W fun e w' => e = .returned (.tuple #[.int .u32 (wN (L s) : Nat), .bool (wT (L s))]) ∧ Below w.heap.size w w' :=
  (word_at s W hs).mono fun e w' ⟨he, hw⟩ => ⟨he, hb.trans (hw.mono hb.size)⟩
end Go.Proofs.YtfnkloecfjppeaaDoor.ref07
