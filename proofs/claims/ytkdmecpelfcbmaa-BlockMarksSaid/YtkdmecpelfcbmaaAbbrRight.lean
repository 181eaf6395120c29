/-
  What package abbr's Right answers: may a text be the name of a local time? Condition: the text is no longer than an int can tell.
-/
import Derived.Test.YtkdmecpelfcbmaaAbbrMath
import Derived.Test.YtkdmecpelfcbmaaMem
namespace Go.Proofs.Ytkdmecpelfcbmaa.abr
open Go.ChangeShapes Go.WideShapes Go.ChangeAt Go.RowKit
open lx ab mem
set_option linter.unusedVariables false
set_option maxRecDepth 100000

theorem nm_all (c : Nat) : (65 ≤ c ∧ c ≤ 90 ∧ nmB c = true) ∨ (97 ≤ c ∧ c ≤ 122 ∧ nmB c = true) ∨ (48 ≤ c ∧ c ≤ 57 ∧ nmB c = true) ∨ (c = 43 ∧ nmB c = true) ∨ (c = 45 ∧ nmB c = true) ∨
    ((c < 43 ∨ c = 44 ∨ c = 46 ∨ c = 47 ∨ (58 ≤ c ∧ c ≤ 64) ∨ (91 ≤ c ∧ c ≤ 96) ∨ 123 ≤ c) ∧ nmB c = false) := by
  unfold nmB
  by_cases h1 : 65 ≤ c ∧ c ≤ 90
  · exact .inl ⟨h1.1, h1.2, by simp [h1.1, h1.2]⟩
  by_cases h2 : 97 ≤ c ∧ c ≤ 122
  · exact .inr (.inl ⟨h2.1, h2.2, by simp [h2.1, h2.2]⟩)
  by_cases h3 : 48 ≤ c ∧ c ≤ 57
  · exact .inr (.inr (.inl ⟨h3.1, h3.2, by simp [h3.1, h3.2]⟩))
  by_cases h4 : c = 43
  · exact .inr (.inr (.inr (.inl ⟨h4, by simp [h4]⟩)))
  by_cases h5 : c = 45
  · exact .inr (.inr (.inr (.inr (.inl ⟨h5, by simp [h5]⟩))))
  refine .inr (.inr (.inr (.inr (.inr ⟨by omega, ?_⟩))))
  rw [← Bool.not_eq_true]
  simp only [Bool.or_eq_true, Bool.and_eq_true, decide_eq_true_eq]
  omega
theorem name_at (c : Nat) (hc : c < 256) (w : World) : Calls Try.prog 57 #[.int .u8 (c : Nat)] w fun e w' => e = .returned (.bool (nmB c)) ∧ w = w' := by
  rcases nm_all c with ⟨h1, h2, e⟩ | ⟨h1, h2, e⟩ | ⟨h1, h2, e⟩ | ⟨rfl, e⟩ | ⟨rfl, e⟩ | ⟨h, e⟩
  case inr.inr.inr.inr.inr =>
    rw [e]
    clear e
    rcases h with h | rfl | rfl | rfl | ⟨h1, h2⟩ | ⟨h1, h2⟩ | h
    all_goals
      go_enter Try.func57, Try.ntmps57
      go_wp2
      go_ret
      exact ⟨rfl, rfl⟩
  all_goals
    rw [e]
    clear e
    go_enter Try.func57, Try.ntmps57
    go_wp2
    go_ret
    exact ⟨rfl, rfl⟩
def RHead (s : ByteArray) (t : Value) : Prop := ∃ k : Nat, k ≤ s.size ∧ t = .int .i64 (k : Nat) ∧ alB s k
set_option maxHeartbeats 1000000 in
theorem right_at (s : ByteArray) (w : World) (hs : s.size ≤ 9223372036854775807) : Calls Try.prog 44 #[.string s] w fun e w' => e = .returned (.bool (rt (L s))) ∧ w = w' := by
  by_cases h1 : s.size < 3
  · have R := Lib.hid (rt_few (s := s) (.inl h1))
    go_enter Try.func44, Try.ntmps44
    go_wp2
    go_ret
    exact ⟨by rw [R.out]; rfl, rfl⟩
  · by_cases h2 : 16 < s.size
    · have R := Lib.hid (rt_few (s := s) (.inr h2))
      go_enter Try.func44, Try.ntmps44
      go_wp2
      go_ret
      exact ⟨by rw [R.out]; rfl, rfl⟩
    · have NB := Lib.hid (fun c (hc : c < 256) w => name_at c hc w)
      go_enter Try.func44, Try.ntmps44
      go_wp2
      go_loop [14] (fun t => RHead s t) (fun t => s.size - (intOf t).toNat)
      case atStart => exact ⟨0, by omega, rfl, fun j hj => absurd hj (Nat.not_lt_zero _)⟩
      case round =>
        obtain ⟨k, hk, rfl, ha⟩ := hrel
        by_cases hlt : k < s.size
        · have b1 := bt_at s k hlt
          have b2 := bt_lt s k
          cases hq : nmB (bt s k) with
          | true =>
            have R : Hid (RHead s (.int .i64 ((k : Int) + 1))) := ⟨k + 1, hlt, rfl, fun j hj => by
              rcases Nat.lt_or_ge j k with h | h
              · exact ha j h
              · obtain rfl : j = k := by omega
                exact hq⟩
            have C : Hid (Calls Try.prog 57 #[.int .u8 (bt s k : Nat)] w fun e w' => e = .returned (.bool true) ∧ w = w') := by rw [← hq]; exact name_at _ b2 w
            clear ha hq
            go_wp2_with (go_at_call 57; (with_reducible refine C.out.mono ?_); rintro e w' ⟨rfl, rfl⟩)
            go_round
            case rel => exact R.out
            case measure => simp [intOf]; omega
          | false =>
            have R := Lib.hid (rt_no hlt hq)
            have C : Hid (Calls Try.prog 57 #[.int .u8 (bt s k : Nat)] w fun e w' => e = .returned (.bool false) ∧ w = w') := by rw [← hq]; exact name_at _ b2 w
            clear ha hq
            go_wp2_with (go_at_call 57; (with_reducible refine C.out.mono ?_); rintro e w' ⟨rfl, rfl⟩)
            go_ret
            exact ⟨by rw [R.out]; rfl, rfl⟩
        · obtain rfl : k = s.size := by omega
          have R := Lib.hid (rt_yes (by omega) (by omega) ha)
          clear ha
          go_wp2
          go_ret
          exact ⟨by rw [R.out]; rfl, rfl⟩
/-- .. in Int's words. -/
theorem right_on {w W : World} (hb : Below w.heap.size w W) (s : ByteArray) (hs : s.size ≤ 9223372036854775807) : Calls Try.prog 44 #[.string s] W fun e w' => e = .returned (.bool (rt (L s))) ∧ W = w' := right_at s W hs
end Go.Proofs.Ytkdmecpelfcbmaa.abr
