/-
  Proves that NumEnds is true for every two numbers of 64 bits: adding and taking away are too much just where the ends say so. No condition.
-/
import Derived.Test.YtjhbbaadmdmhaaaSum
import Derived.Test.YtjhbbaadmdmhaaaLaw
namespace Go.Proofs.Ytjhbbaadmdmhaaa.numEnds
open Go.ChangeShapes Go.WideShapes Go.ChangeAt Go.RowKit
open num (fit)
set_option linter.unusedVariables false

theorem add_o (a b : Int) (ha : fit a) (hb : fit b) : ∃ r o, Hid (∀ W, Calls Try.prog 11 #[.int .i64 a, .int .i64 b] W fun e w' => e = .returned (.tuple #[.int .i64 r, .bool o]) ∧ W = w') ∧ (o = true ∧ fit (a + b) ∨ o = false ∧ ¬ fit (a + b)) := by
  by_cases h : fit (a + b)
  · exact ⟨_, _, fun W => num.add_yes a b W ha hb h, .inl ⟨rfl, h⟩⟩
  · exact ⟨_, _, fun W => num.add_no a b W ha hb h, .inr ⟨rfl, h⟩⟩
theorem sub_o (a b : Int) (ha : fit a) (hb : fit b) : ∃ r o, Hid (∀ W, Calls Try.prog 13 #[.int .i64 a, .int .i64 b] W fun e w' => e = .returned (.tuple #[.int .i64 r, .bool o]) ∧ W = w') ∧ (o = true ∧ fit (a - b) ∨ o = false ∧ ¬ fit (a - b)) := by
  by_cases h : fit (a - b)
  · exact ⟨_, _, fun W => num.sub_yes a b W ha hb h, .inl ⟨rfl, h⟩⟩
  · exact ⟨_, _, fun W => num.sub_no a b W ha hb h, .inr ⟨rfl, h⟩⟩

set_option maxHeartbeats 4000000 in
theorem walk (a : Int) (ha : fit a) (b : Int) (hb : fit b) (w : World) :
    Calls Try.prog 6 #[.int .i64 a, .int .i64 b] w fun e w' => e = .returned (.bool true) ∧ Below w.heap.size w w' := by
  obtain ⟨r1, o1, C1, h1⟩ := add_o a b ha hb
  obtain ⟨r2, o2, C2, h2⟩ := sub_o a b ha hb
  have C4 := Lib.hid (fun W => num.mul_eq a 1 a W ha ⟨by decide, by decide⟩ ha (by omega))
  by_cases hm : a = -9223372036854775808
  · subst hm
    have C3 := Lib.hid (fun W => num.mul_no (-9223372036854775808) (-1) W ha ⟨by decide, by decide⟩ (by decide))
    unfold fit at hb h1 h2
    clear ha
    by_cases hs : 0 ≤ b
    · have t1 : -9223372036854775808 ≤ 9223372036854775807 - b := by omega
      have t0 : ¬ b < 0 := by omega
      obtain rfl : o1 = true := by rcases h1 with h | h; exact h.1; exfalso; omega
      clear h1
      rcases h2 with ⟨rfl, h⟩ | ⟨rfl, h⟩
      · have t2 : -9223372036854775808 + b ≤ -9223372036854775808 := by omega
        have t3 : b ≤ 0 := by omega
        obtain ⟨hb1, hb2⟩ := hb
        clear h
        go_enter Try.func6, Try.ntmps6
        go_wp2_with (first
          | (go_at_call 10; (with_reducible refine (num.small_true _).mono ?_; rintro e w1 ⟨rfl, hb1⟩))
          | (go_at_call 11; (with_reducible refine (C1.out _).mono ?_; rintro e w' ⟨rfl, rfl⟩))
          | (go_at_call 13; (with_reducible refine (C2.out _).mono ?_; rintro e w' ⟨rfl, rfl⟩))
          | (go_at_call 15; (first | (with_reducible refine (C3.out _).mono ?_; rintro e w' ⟨rfl, rfl⟩) | (with_reducible refine (C4.out _).mono ?_; rintro e w' ⟨rfl, rfl⟩))))
        go_ret
        exact ⟨num.ret_bool (by first | rfl | (simp; omega)), by assumption⟩
      · have t2 : ¬ (-9223372036854775808 + b ≤ -9223372036854775808) := by omega
        have t3 : ¬ b ≤ 0 := by omega
        obtain ⟨hb1, hb2⟩ := hb
        clear h
        go_enter Try.func6, Try.ntmps6
        go_wp2_with (first
          | (go_at_call 10; (with_reducible refine (num.small_true _).mono ?_; rintro e w1 ⟨rfl, hb1⟩))
          | (go_at_call 11; (with_reducible refine (C1.out _).mono ?_; rintro e w' ⟨rfl, rfl⟩))
          | (go_at_call 13; (with_reducible refine (C2.out _).mono ?_; rintro e w' ⟨rfl, rfl⟩))
          | (go_at_call 15; (first | (with_reducible refine (C3.out _).mono ?_; rintro e w' ⟨rfl, rfl⟩) | (with_reducible refine (C4.out _).mono ?_; rintro e w' ⟨rfl, rfl⟩))))
        go_ret
        exact ⟨num.ret_bool (by first | rfl | (simp; omega)), by assumption⟩
    · have t0 : b < 0 := by omega
      have t1 : ¬ (-9223372036854775808 - b ≤ -9223372036854775808) := by omega
      have t2 : -9223372036854775808 ≤ 9223372036854775807 + b := by omega
      have t3 : ¬ 0 ≤ b := by omega
      obtain rfl : o1 = false := by rcases h1 with h | h; exfalso; omega; exact h.1
      obtain rfl : o2 = true := by rcases h2 with h | h; exact h.1; exfalso; omega
      obtain ⟨hb1, hb2⟩ := hb
      clear h1 h2
      go_enter Try.func6, Try.ntmps6
      go_wp2_with (first
        | (go_at_call 10; (with_reducible refine (num.small_true _).mono ?_; rintro e w1 ⟨rfl, hb1⟩))
        | (go_at_call 11; (with_reducible refine (C1.out _).mono ?_; rintro e w' ⟨rfl, rfl⟩))
        | (go_at_call 13; (with_reducible refine (C2.out _).mono ?_; rintro e w' ⟨rfl, rfl⟩))
        | (go_at_call 15; (first | (with_reducible refine (C3.out _).mono ?_; rintro e w' ⟨rfl, rfl⟩) | (with_reducible refine (C4.out _).mono ?_; rintro e w' ⟨rfl, rfl⟩))))
      go_ret
      exact ⟨num.ret_bool (by first | rfl | (simp; omega)), by assumption⟩
  · have hz : fit (a * -1) := by unfold fit at *; omega
    have C3 := Lib.hid (fun W => num.mul_yes a (-1) W ha ⟨by decide, by decide⟩ hz)
    unfold fit at ha hb h1 h2
    have hne : (a != -9223372036854775808) = true := by simpa using hm
    obtain ⟨ha1, ha2⟩ := ha
    obtain ⟨hb1, hb2⟩ := hb
    clear hz
    generalize a * -1 = z at *
    by_cases hs : 0 ≤ b
    · have t0 : ¬ b < 0 := by omega
      rcases h1 with ⟨rfl, h1⟩ | ⟨rfl, h1⟩
      · have t1 : a ≤ 9223372036854775807 - b := by omega
        rcases h2 with ⟨rfl, h2⟩ | ⟨rfl, h2⟩
        · have t2 : -9223372036854775808 + b ≤ a := by omega
          clear h1 h2
          go_enter Try.func6, Try.ntmps6
          go_wp2_with (first
            | (go_at_call 10; (with_reducible refine (num.small_true _).mono ?_; rintro e w1 ⟨rfl, hb1⟩))
            | (go_at_call 11; (with_reducible refine (C1.out _).mono ?_; rintro e w' ⟨rfl, rfl⟩))
            | (go_at_call 13; (with_reducible refine (C2.out _).mono ?_; rintro e w' ⟨rfl, rfl⟩))
            | (go_at_call 15; (first | (with_reducible refine (C3.out _).mono ?_; rintro e w' ⟨rfl, rfl⟩) | (with_reducible refine (C4.out _).mono ?_; rintro e w' ⟨rfl, rfl⟩))))
          go_ret
          exact ⟨num.ret_bool (by first | rfl | (simp; omega)), by assumption⟩
        · have t2 : ¬ -9223372036854775808 + b ≤ a := by omega
          clear h1 h2
          go_enter Try.func6, Try.ntmps6
          go_wp2_with (first
            | (go_at_call 10; (with_reducible refine (num.small_true _).mono ?_; rintro e w1 ⟨rfl, hb1⟩))
            | (go_at_call 11; (with_reducible refine (C1.out _).mono ?_; rintro e w' ⟨rfl, rfl⟩))
            | (go_at_call 13; (with_reducible refine (C2.out _).mono ?_; rintro e w' ⟨rfl, rfl⟩))
            | (go_at_call 15; (first | (with_reducible refine (C3.out _).mono ?_; rintro e w' ⟨rfl, rfl⟩) | (with_reducible refine (C4.out _).mono ?_; rintro e w' ⟨rfl, rfl⟩))))
          go_ret
          exact ⟨num.ret_bool (by first | rfl | (simp; omega)), by assumption⟩
      · have t1 : ¬ a ≤ 9223372036854775807 - b := by omega
        obtain rfl : o2 = true := by rcases h2 with h | h; exact h.1; exfalso; omega
        have t2 : -9223372036854775808 + b ≤ a := by omega
        clear h1 h2
        go_enter Try.func6, Try.ntmps6
        go_wp2_with (first
          | (go_at_call 10; (with_reducible refine (num.small_true _).mono ?_; rintro e w1 ⟨rfl, hb1⟩))
          | (go_at_call 11; (with_reducible refine (C1.out _).mono ?_; rintro e w' ⟨rfl, rfl⟩))
          | (go_at_call 13; (with_reducible refine (C2.out _).mono ?_; rintro e w' ⟨rfl, rfl⟩))
          | (go_at_call 15; (first | (with_reducible refine (C3.out _).mono ?_; rintro e w' ⟨rfl, rfl⟩) | (with_reducible refine (C4.out _).mono ?_; rintro e w' ⟨rfl, rfl⟩))))
        go_ret
        exact ⟨num.ret_bool (by first | rfl | (simp; omega)), by assumption⟩
    · have t0 : b < 0 := by omega
      rcases h1 with ⟨rfl, h1⟩ | ⟨rfl, h1⟩
      · have t1 : -9223372036854775808 - b ≤ a := by omega
        rcases h2 with ⟨rfl, h2⟩ | ⟨rfl, h2⟩
        · have t2 : a ≤ 9223372036854775807 + b := by omega
          clear h1 h2
          go_enter Try.func6, Try.ntmps6
          go_wp2_with (first
            | (go_at_call 10; (with_reducible refine (num.small_true _).mono ?_; rintro e w1 ⟨rfl, hb1⟩))
            | (go_at_call 11; (with_reducible refine (C1.out _).mono ?_; rintro e w' ⟨rfl, rfl⟩))
            | (go_at_call 13; (with_reducible refine (C2.out _).mono ?_; rintro e w' ⟨rfl, rfl⟩))
            | (go_at_call 15; (first | (with_reducible refine (C3.out _).mono ?_; rintro e w' ⟨rfl, rfl⟩) | (with_reducible refine (C4.out _).mono ?_; rintro e w' ⟨rfl, rfl⟩))))
          go_ret
          exact ⟨num.ret_bool (by first | rfl | (simp; omega)), by assumption⟩
        · have t2 : ¬ a ≤ 9223372036854775807 + b := by omega
          clear h1 h2
          go_enter Try.func6, Try.ntmps6
          go_wp2_with (first
            | (go_at_call 10; (with_reducible refine (num.small_true _).mono ?_; rintro e w1 ⟨rfl, hb1⟩))
            | (go_at_call 11; (with_reducible refine (C1.out _).mono ?_; rintro e w' ⟨rfl, rfl⟩))
            | (go_at_call 13; (with_reducible refine (C2.out _).mono ?_; rintro e w' ⟨rfl, rfl⟩))
            | (go_at_call 15; (first | (with_reducible refine (C3.out _).mono ?_; rintro e w' ⟨rfl, rfl⟩) | (with_reducible refine (C4.out _).mono ?_; rintro e w' ⟨rfl, rfl⟩))))
          go_ret
          exact ⟨num.ret_bool (by first | rfl | (simp; omega)), by assumption⟩
      · have t1 : ¬ -9223372036854775808 - b ≤ a := by omega
        obtain rfl : o2 = true := by rcases h2 with h | h; exact h.1; exfalso; omega
        have t2 : a ≤ 9223372036854775807 + b := by omega
        clear h1 h2
        go_enter Try.func6, Try.ntmps6
        go_wp2_with (first
          | (go_at_call 10; (with_reducible refine (num.small_true _).mono ?_; rintro e w1 ⟨rfl, hb1⟩))
          | (go_at_call 11; (with_reducible refine (C1.out _).mono ?_; rintro e w' ⟨rfl, rfl⟩))
          | (go_at_call 13; (with_reducible refine (C2.out _).mono ?_; rintro e w' ⟨rfl, rfl⟩))
          | (go_at_call 15; (first | (with_reducible refine (C3.out _).mono ?_; rintro e w' ⟨rfl, rfl⟩) | (with_reducible refine (C4.out _).mono ?_; rintro e w' ⟨rfl, rfl⟩))))
        go_ret
        exact ⟨num.ret_bool (by first | rfl | (simp; omega)), by assumption⟩

set_option maxRecDepth 100000 in
theorem lifted (os : Os) (started : os.Started) (H : Type) (enc : TypeId × Value → H) :
    ReturnsInHanded {} Try.checked os 6 .any (Rows.numEndsSpec.pre6 enc Try.prog Try.f6 Rows.numEndsRow.domain false) (Rows.numEndsSpec.post enc Try.prog Try.f6 false true false false) := by
  refine returnsInHanded_of_change (C := Try.checked) law.own started (by kernel_rfl) Try.func6
    (ChangeSpec.witness6 (enc := enc) (C := Try.checked) false ⟨#[], #[.int .i64 0, .int .i64 0], []⟩ 8 (by kernel_rfl) (by kernel_rfl) (by kernel_rfl) (by kernel_rfl)) ?_
  intro W base args ds gs before hval0 hW hcnd _
  have hval : ∀ (j : Nat) t v, Try.f6.params[j]? = some t → args[j]? = some v → Value.okWide Try.prog W .any base t v := hval0
  have hW' := hW
  obtain ⟨p, q, hA0, hV, rfl, hfz, hnd⟩ := hW
  have hA : DataW.TrodAll enc Try.prog W 0 (fun _ => true) true Try.f6.params.toList args.toList ds p := hA0
  rw [Try.params6] at hA hval
  obtain ⟨v0, vs0, d0, ds0, p0, q0, hargs, rfl, rfl, h0, r0⟩ := trodAll_cons hA
  obtain ⟨v1, vs1, d1, ds1, p1, q1, rfl, rfl, rfl, h1, r1⟩ := trodAll_cons r0
  obtain ⟨rfl, rfl, rfl⟩ := trodAll_nil r1
  obtain rfl : args = #[v0, v1] := by cases args; simp_all
  obtain ⟨rfl, rfl⟩ := trodVars_none hV
  clear hA0 hval0
  obtain ⟨a0, rfl, hd0, hp0, w0⟩ := open_int Try.underlying3 (hval 0 3 v0 rfl rfl) h0
  obtain ⟨a1, rfl, hd1, hp1, w1⟩ := open_int Try.underlying3 (hval 1 3 v1 rfl rfl) h1
  refine (Calls.mono (R := fun e w' => e = .returned (.bool true) ∧ Below W.heap.size W w') ?_ fun e W' ⟨he, hb⟩ => ?_)
  · exact walk a0 (bounds_i64 w0) a1 (bounds_i64 w1) W
  · subst he
    exact ⟨_, rfl, law.post law.laidOut (by kernel_rfl) rfl rfl Try.underlying4 rfl hW' hb⟩

theorem over : Rows.numEndsRow.holds Try.pinned (OpenSpec.ofChange Rows.numEndsSpec) :=
  OpenClaim.holds_of_wide 6 Try.f6 rfl rfl rfl rfl rfl rfl rfl ⟨rfl, rfl, rfl, rfl, rfl⟩ rfl rfl rfl rfl rfl (by kernel_rfl) Try.func6 (by kernel_rfl)
    (of_decide_eq_true (by kernel_rfl)) (by unfold Func.isWrapper; first | (rw [if_pos (by decide +kernel)]; kernel_rfl) | (rw [if_neg (by decide +kernel)]; exact ⟨rfl, rfl⟩))
    (fun os started H enc _ => lifted os started H enc)

theorem proved : Rows.NumEndsSaid := over
end Go.Proofs.Ytjhbbaadmdmhaaa.numEnds
