/-
  What the document's own Right, At and Pool of layer 14 answer: the same as the plain functions of rows of bytes. Conditions: texts are no longer than an int can tell; of Pool: there are at most a hundred names.
-/
import Derived.Test.YtgnglejdmnpfiaaAbbrAt
import Derived.Test.YtgnglejdmnpfiaaAbbrPool
import Derived.Test.YtgnglejdmnpfiaaRef14Ints
import Derived.BigQuiet
namespace Go.Proofs.Ytgnglejdmnpfiaa.ref14
open Go.ChangeShapes Go.WideShapes Go.ChangeAt Go.RowKit
open lx ab mem abr
set_option linter.unusedVariables false
set_option maxRecDepth 100000

/-! Right -/
theorem rt_len {s : ByteArray} (h : alB s s.size) : rt (L s) = (decide (3 ≤ s.size) && decide (s.size ≤ 16)) := by
  rw [Bool.eq_iff_iff]
  simp only [Bool.and_eq_true, decide_eq_true_eq]
  constructor
  · intro k
    have := (rt_iff _).1 k
    exact ⟨this.1, this.2.1⟩
  · rintro ⟨h1, h2⟩
    exact rt_yes h1 h2 h
theorem ret_b {a b : Bool} (h : a = b) : Ending.returned (.bool a) = .returned (.bool b) := by rw [h]
set_option maxHeartbeats 4000000 in
theorem right_at (s : ByteArray) (w : World) (hs : s.size ≤ 9223372036854775807) : Calls Try.prog 14 #[.string s] w fun e w' => e = .returned (.bool (rt (L s))) ∧ w = w' := by
  go_enter Try.func14, Try.ntmps14
  go_wp2
  go_loop [3] (fun t => RHead s t) (fun t => s.size - (intOf t).toNat)
  case atStart => exact ⟨0, by omega, rfl, fun j hj => absurd hj (Nat.not_lt_zero _)⟩
  case round =>
    obtain ⟨k, hk, rfl, ha⟩ := hrel
    by_cases hlt : k < s.size
    · have b1 := bt_at s k hlt
      have b2 := bt_lt s k
      have RY : Hid (nmB (bt s k) = true → RHead s (.int .i64 ((k : Int) + 1))) := fun hq => ⟨k + 1, hlt, rfl, fun j hj => by
          rcases Nat.lt_or_ge j k with h | h
          · exact ha j h
          · obtain rfl : j = k := by omega
            exact hq⟩
      have RN := Lib.hid (rt_no (s := s) hlt)
      have NA := nm_all (bt s k)
      clear ha
      generalize bt s k = c at *
      rcases NA with ⟨h1, h2, e⟩ | ⟨h1, h2, e⟩ | ⟨h1, h2, e⟩ | ⟨h1, e⟩ | ⟨h1, e⟩ | ⟨h, e⟩
      case inr.inr.inr.inr.inr =>
        have R := Lib.hid (RN.out e)
        have n1 : (((c : Nat) : Int) != 43) = true := by simp; omega
        have n2 : (((c : Nat) : Int) != 45) = true := by simp; omega
        clear RY RN e
        rcases h with h | h | h | h | ⟨h1, h2⟩ | ⟨h1, h2⟩ | h
        all_goals
          go_wp2
          all_goals first
            | (go_ret; exact ⟨by rw [R.out]; rfl, rfl⟩)
            | (exfalso; simp only [Bool.not_eq_false', decide_eq_true_eq] at *; omega)
      all_goals
        have R := Lib.hid (RY.out e)
        clear RY RN e
        go_wp2
        go_round
        case rel => exact R.out
        case measure => simp [intOf]; omega
    · obtain rfl : k = s.size := by omega
      have RL := Lib.hid (rt_len ha)
      clear ha
      by_cases h1 : s.size < 3
      · go_wp2
        go_ret
        exact ⟨ret_b (by rw [RL.out]; simp; omega), rfl⟩
      · by_cases h2 : 16 < s.size
        · go_wp2
          go_ret
          exact ⟨ret_b (by rw [RL.out, Bool.eq_iff_iff]; simp only [Bool.and_eq_true, decide_eq_true_eq]; omega), rfl⟩
        · go_wp2
          go_ret
          exact ⟨ret_b (by rw [RL.out, Bool.eq_iff_iff]; simp only [Bool.and_eq_true, decide_eq_true_eq]; omega), rfl⟩

/-! At -/
theorem cut_first {s : ByteArray} {n i : Nat} (hn : n ≤ i) (hi : i < s.size) (h : ∀ j, n ≤ j → j < i → bt s j ≠ 0) (h0 : bt s i = 0) : cutZ ((L s).drop n) = some (L (s.extract n i)) := by
  have e0 : (L s).length = s.size := rfl
  rw [L_ext]
  have hb : ∀ j, j < s.size → ((L s)[j]?).map UInt8.toNat = some (bt s j) := fun j hj => by
    unfold bt
    rw [List.getD_eq_getElem?_getD, List.getElem?_eq_getElem (by omega)]
    rfl
  have e : (L s).drop n = ((L s).drop n).take (i - n) ++ 0 :: (L s).drop (i + 1) := by
    conv => lhs; rw [← List.take_append_drop (i - n) ((L s).drop n)]
    rw [List.drop_drop, show n + (i - n) = i by omega, List.drop_eq_getElem_cons (by omega : i < (L s).length)]
    congr 2
    have := hb i hi
    rw [List.getElem?_eq_getElem (by omega), h0] at this
    simp at this
    exact UInt8.toNat_inj.1 this
  have no : ∀ c ∈ ((L s).drop n).take (i - n), c ≠ 0 := by
    intro c hc k
    subst k
    obtain ⟨j, hj, he⟩ := List.getElem_of_mem hc
    have hj2 : j < i - n := by rw [List.length_take] at hj; omega
    rw [List.getElem_take, List.getElem_drop] at he
    have := hb (n + j) (by omega)
    rw [List.getElem?_eq_getElem (by omega), he] at this
    exact h (n + j) (by omega) (by omega) (by simpa using this.symm)
  rw [e, cut_name no, List.take_left' (by rw [List.length_take, List.length_drop]; omega)]
theorem cut_none {s : ByteArray} {n : Nat} (h : ∀ j, n ≤ j → j < s.size → bt s j ≠ 0) : cutZ ((L s).drop n) = none := by
  have e0 : (L s).length = s.size := rfl
  unfold cutZ
  refine if_neg fun hc => ?_
  obtain ⟨j, hj, he⟩ := List.getElem_of_mem hc
  rw [List.length_drop] at hj
  rw [List.getElem_drop] at he
  refine h (n + j) (by omega) (by omega) ?_
  unfold bt
  rw [List.getD_eq_getElem?_getD, List.getElem?_eq_getElem (by omega), he]
  rfl
def AHead (s : ByteArray) (n : Nat) (i : Value) : Prop := ∃ k : Nat, n ≤ k ∧ k ≤ s.size ∧ i = .int .i64 (k : Nat) ∧ ∀ j, n ≤ j → j < k → bt s j ≠ 0
set_option maxHeartbeats 4000000 in
theorem at_at (s : ByteArray) (a : Int) (ha : -9223372036854775808 ≤ a ∧ a ≤ 9223372036854775807) (W : World) (hs : s.size < 4294967281) : Calls Try.prog 11 #[.string s, .int .i64 a] W (ATold s a W) := by
  have e : (L s).length = s.size := rfl
  by_cases h1 : a < 0
  · have R := Lib.hid (atold_no (s := s) (a := a) (W := W) (W' := W) (aT_out (by omega)) (Below.refl _ _))
    clear e
    go_enter Try.func11, Try.ntmps11
    go_wp2
    go_ret2
    exact R.out
  · by_cases h2 : (s.size : Int) ≤ a
    · have R := Lib.hid (atold_no (s := s) (a := a) (W := W) (W' := W) (aT_out (by omega)) (Below.refl _ _))
      clear e
      go_enter Try.func11, Try.ntmps11
      go_wp2
      go_ret2
      exact R.out
    · obtain ⟨n, rfl⟩ : ∃ n : Nat, a = n := ⟨a.toNat, by omega⟩
      have hn : n < s.size := by omega
      have hE := Lib.hid (aT_in (l := L s) (n := n) hn)
      clear e h1 h2
      go_enter Try.func11, Try.ntmps11
      go_wp2
      go_loop [6] (fun i => AHead s n i) (fun i => s.size - (intOf i).toNat)
      case atStart => exact ⟨n, Nat.le_refl _, by omega, rfl, fun j h1 h2 => by omega⟩
      case round =>
        obtain ⟨k, hnk, hk, rfl, hall⟩ := hrel
        by_cases hlt : k < s.size
        · have b1 := bt_at s k hlt
          have b2 := bt_lt s k
          by_cases hz : bt s k = 0
          · have cf := cut_first hnk hlt hall hz
            have hE := hE.out
            rw [cf] at hE
            simp only at hE
            rw [hz] at b1
            have hsl := fun W => lines.sl_run W s n k (k : Int) rfl (by omega) (by omega)
            have hX : (s.extract n k).size ≤ 9223372036854775807 := by
              have e2 : (L s).length = s.size := rfl
              rw [← L_len, L_ext]; simp; omega
            have RI := Lib.hid (fun W => right_at (s.extract n k) W hX)
            cases hq : rt (L (s.extract n k)) with
            | false =>
              rw [if_neg (by rw [hq]; decide)] at hE
              rw [hq] at RI
              have R := Lib.hid (atold_no (s := s) (a := n) (W := W) (W' := W) hE (Below.refl _ _))
              clear hE hall cf hz hq hX b2
              generalize s.extract n k = x at *
              go_wp2_with (go_at_call 14; (with_reducible refine (RI.out _).mono ?_); rintro e w' ⟨rfl, rfl⟩)
              go_ret2
              exact R.out
            | true =>
              rw [if_pos hq] at hE
              rw [hq] at RI
              have R := Lib.hid (atold_yes (s := s) (a := n) (W := W) (W' := W) hE (Below.refl _ _))
              clear hE hall cf hz hq hX b2
              generalize s.extract n k = x at *
              go_wp2_with (go_at_call 14; (with_reducible refine (RI.out _).mono ?_); rintro e w' ⟨rfl, rfl⟩)
              go_ret2
              exact R.out
          · have R : Hid (AHead s n (.int .i64 ((k : Int) + 1))) := ⟨k + 1, by omega, hlt, rfl, fun j h1 h2 => by
              rcases Nat.lt_or_ge j k with h | h
              · exact hall j h1 h
              · obtain rfl : j = k := by omega
                exact hz⟩
            clear hall hE
            go_wp2
            go_round
            case rel => exact R.out
            case measure => simp [intOf]; omega
        · obtain rfl : k = s.size := by omega
          have hE := hE.out
          rw [cut_none hall] at hE
          have R := Lib.hid (atold_no (s := s) (a := n) (W := W) (W' := W) hE (Below.refl _ _))
          clear hall hE
          go_wp2
          go_ret2
          exact R.out
end Go.Proofs.Ytgnglejdmnpfiaa.ref14
