/-
  Proves that NumTells is true for every two numbers and every slice of numbers: what num reckons is the document's own answer. No condition.
-/
import Derived.Test.YtjhbbaadmdmhaaaRef01
import Derived.Test.YtjhbbaadmdmhaaaLaw
namespace Go.Proofs.Ytjhbbaadmdmhaaa.numTells
open Go.ChangeShapes Go.WideShapes Go.ChangeAt Go.RowKit
open num (fit IntsAt sums)
set_option linter.unusedVariables false

theorem add_o (a b : Int) (ha : fit a) (hb : fit b) : ∃ r o, Hid (∀ W, Calls Try.prog 11 #[.int .i64 a, .int .i64 b] W fun e w' => e = .returned (.tuple #[.int .i64 r, .bool o]) ∧ W = w') ∧ Hid (∀ W, Calls Try.prog 12 #[.int .i64 a, .int .i64 b] W fun e w' => e = .returned (.tuple #[.int .i64 r, .bool o]) ∧ W = w') := by
  by_cases h : fit (a + b)
  · exact ⟨_, _, fun W => num.add_yes a b W ha hb h, fun W => ref01.add_yes a b W ha hb h⟩
  · exact ⟨_, _, fun W => num.add_no a b W ha hb h, fun W => ref01.add_no a b W ha hb h⟩
theorem sub_o (a b : Int) (ha : fit a) (hb : fit b) : ∃ r o, Hid (∀ W, Calls Try.prog 13 #[.int .i64 a, .int .i64 b] W fun e w' => e = .returned (.tuple #[.int .i64 r, .bool o]) ∧ W = w') ∧ Hid (∀ W, Calls Try.prog 14 #[.int .i64 a, .int .i64 b] W fun e w' => e = .returned (.tuple #[.int .i64 r, .bool o]) ∧ W = w') := by
  by_cases h : fit (a - b)
  · exact ⟨_, _, fun W => num.sub_yes a b W ha hb h, fun W => ref01.sub_yes a b W ha hb h⟩
  · exact ⟨_, _, fun W => num.sub_no a b W ha hb h, fun W => ref01.sub_no a b W ha hb h⟩
theorem mul_o (a b : Int) (ha : fit a) (hb : fit b) : ∃ r o, Hid (∀ W, Calls Try.prog 15 #[.int .i64 a, .int .i64 b] W fun e w' => e = .returned (.tuple #[.int .i64 r, .bool o]) ∧ W = w') ∧ Hid (∀ W, Calls Try.prog 16 #[.int .i64 a, .int .i64 b] W fun e w' => e = .returned (.tuple #[.int .i64 r, .bool o]) ∧ W = w') := by
  by_cases h : fit (a * b)
  · exact ⟨_, _, fun W => num.mul_yes a b W ha hb h, fun W => ref01.mul_yes a b W ha hb h⟩
  · exact ⟨_, _, fun W => num.mul_no a b W ha hb h, fun W => ref01.mul_no a b W ha hb h⟩
theorem div_o (a b : Int) (ha : fit a) (hb : fit b) : ∃ q r o, Hid (∀ W, Calls Try.prog 17 #[.int .i64 a, .int .i64 b] W fun e w' => e = .returned (.tuple #[.int .i64 q, .int .i64 r, .bool o]) ∧ ∃ n, w' = W.drewN n) ∧ Hid (∀ W, Calls Try.prog 18 #[.int .i64 a, .int .i64 b] W fun e w' => e = .returned (.tuple #[.int .i64 q, .int .i64 r, .bool o]) ∧ ∃ n, w' = W.drewN n) := by
  by_cases h : b < 1
  · exact ⟨_, _, _, fun W => num.div_no a b W h, fun W => ref01.div_no a b W h⟩
  · exact ⟨_, _, _, fun W => num.div_yes a b W ha hb (by omega), fun W => ref01.div_yes a b W ha hb (by omega)⟩

set_option maxHeartbeats 4000000 in
set_option maxRecDepth 100000 in
theorem walk (w : World) (a : Int) (ha : fit a) (b : Int) (hb : fit b) (A : Option Addr) (n c : Nat) (zs : List Int) (hi : IntsAt w A n zs ∧ n ≤ c ∧ c ≤ 9223372036854775807) :
    Calls Try.prog 3 #[.int .i64 a, .int .i64 b, .slice A n c] w fun e w' => e = .returned (.bool true) ∧ Below w.heap.size w w' := by
  obtain ⟨hi, hnc, hc⟩ := hi
  have hmax := hi.max
  by_cases h1 : 1000 < n
  · clear hi ha hb
    go_enter Try.func3, Try.ntmps3
    go_wp2_with (first
      | (go_at_call 10; (with_reducible refine (num.small_true _).mono ?_; rintro e w1 ⟨rfl, hb1⟩)))
    go_ret
    exact ⟨rfl, by assumption⟩
  obtain ⟨r1, o1, C1, D1⟩ := add_o a b ha hb
  obtain ⟨r2, o2, C2, D2⟩ := sub_o a b ha hb
  obtain ⟨r3, o3, C3, D3⟩ := mul_o a b ha hb
  obtain ⟨q4, r4, o4, C4, D4⟩ := div_o a b ha hb
  have HI := Lib.hid hi
  clear hi ha hb
  generalize hS : sums 0 zs = S
  obtain ⟨s, t⟩ := S
  have C5 : Hid (∀ w1 k, Below w.heap.size w w1 → Calls Try.prog 19 #[.slice A n c] (w1.drewN k) fun e w' => e = .returned (.tuple #[.int .i64 s, .bool t]) ∧ w1.drewN k = w') := by
    rintro w1 k hb
    have := num.sum_any A n c zs (w1.drewN k) ((HI.out.below hb).drewN k)
    rwa [hS] at this
  have D5 : Hid (∀ w1 k, Below w.heap.size w w1 → Calls Try.prog 20 #[.slice A n c] (w1.drewN k) fun e w' => e = .returned (.tuple #[.int .i64 s, .bool t]) ∧ w1.drewN k = w') := by
    rintro w1 k hb
    have := ref01.sum_any A n c zs (w1.drewN k) ((HI.out.below hb).drewN k)
    rwa [hS] at this
  clear hS HI
  go_enter Try.func3, Try.ntmps3
  go_wp2_with (first
    | (go_at_call 10; (with_reducible refine (num.small_true _).mono ?_; rintro e w1 ⟨rfl, hb1⟩))
    | (go_at_call 11; (with_reducible refine (C1.out _).mono ?_; rintro e w' ⟨rfl, rfl⟩))
    | (go_at_call 13; (with_reducible refine (C2.out _).mono ?_; rintro e w' ⟨rfl, rfl⟩))
    | (go_at_call 15; (with_reducible refine (C3.out _).mono ?_; rintro e w' ⟨rfl, rfl⟩))
    | (go_at_call 17; (with_reducible refine (C4.out _).mono ?_; rintro e w' ⟨rfl, n5, rfl⟩))
    | (go_at_call 12; (with_reducible refine (D1.out _).mono ?_; rintro e w' ⟨rfl, rfl⟩))
    | (go_at_call 14; (with_reducible refine (D2.out _).mono ?_; rintro e w' ⟨rfl, rfl⟩))
    | (go_at_call 16; (with_reducible refine (D3.out _).mono ?_; rintro e w' ⟨rfl, rfl⟩))
    | (go_at_call 18; (with_reducible refine (D4.out _).mono ?_; rintro e w' ⟨rfl, n9, rfl⟩))
    | (go_at_call 19; (with_reducible refine (C5.out _ _ hb1).mono ?_; rintro e w' ⟨rfl, rfl⟩))
    | (go_at_call 20; (with_reducible refine (D5.out _ _ hb1).mono ?_; rintro e w' ⟨rfl, rfl⟩)))
  go_ret
  exact ⟨num.ret_bool (by first | rfl | (simp; done)), below_drewN hb1 _⟩

set_option maxRecDepth 100000 in
theorem lifted (os : Os) (started : os.Started) (H : Type) (enc : TypeId × Value → H) :
    ReturnsInHanded {} Try.checked os 3 .any (Rows.numTellsSpec.pre6 enc Try.prog Try.f3 Rows.numTellsRow.domain false) (Rows.numTellsSpec.post enc Try.prog Try.f3 false true false false) := by
  refine returnsInHanded_of_change (C := Try.checked) law.own started (by kernel_rfl) Try.func3
    (ChangeSpec.witness6 (enc := enc) (C := Try.checked) false ⟨#[], #[.int .i64 0, .int .i64 0, .slice none 0 0], []⟩ 8 (by kernel_rfl) (by kernel_rfl) (by kernel_rfl) (by kernel_rfl)) ?_
  intro W base args ds gs before hval0 hW hcnd _
  have hval : ∀ (j : Nat) t v, Try.f3.params[j]? = some t → args[j]? = some v → Value.okWide Try.prog W .any base t v := hval0
  have hW' := hW
  obtain ⟨p, q, hA0, hV, rfl, hfz, hnd⟩ := hW
  have hA : DataW.TrodAll enc Try.prog W 0 (fun _ => true) true Try.f3.params.toList args.toList ds p := hA0
  rw [Try.params3] at hA hval
  obtain ⟨v0, vs0, d0, ds0, p0, q0, hargs, rfl, rfl, h0, r0⟩ := trodAll_cons hA
  obtain ⟨v1, vs1, d1, ds1, p1, q1, rfl, rfl, rfl, h1, r1⟩ := trodAll_cons r0
  obtain ⟨v2, vs2, d2, ds2, p2, q2, rfl, rfl, rfl, h2, r2⟩ := trodAll_cons r1
  obtain ⟨rfl, rfl, rfl⟩ := trodAll_nil r2
  obtain rfl : args = #[v0, v1, v2] := by cases args; simp_all
  obtain ⟨rfl, rfl⟩ := trodVars_none hV
  clear hA0 hval0
  obtain ⟨a0, rfl, hd0, hp0, w0⟩ := open_int Try.underlying3 (hval 0 3 v0 rfl rfl) h0
  obtain ⟨a1, rfl, hd1, hp1, w1⟩ := open_int Try.underlying3 (hval 1 3 v1 rfl rfl) h1
  refine (Calls.mono (R := fun e w' => e = .returned (.bool true) ∧ Below W.heap.size W w') ?_ fun e W' ⟨he, hb⟩ => ?_)
  · obtain ⟨A2, n2, c2, z2, rfl, i2⟩ := num.open_ints (hval 2 22 v2 rfl rfl) h2
    exact walk W a0 (bounds_i64 w0) a1 (bounds_i64 w1) _ _ _ _ i2
  · subst he
    exact ⟨_, rfl, law.post law.laidOut (by kernel_rfl) rfl rfl Try.underlying4 rfl hW' hb⟩

theorem over : Rows.numTellsRow.holds Try.pinned (OpenSpec.ofChange Rows.numTellsSpec) :=
  OpenClaim.holds_of_wide 3 Try.f3 rfl rfl rfl rfl rfl rfl rfl ⟨rfl, rfl, rfl, rfl, rfl⟩ rfl rfl rfl rfl rfl (by kernel_rfl) Try.func3 (by kernel_rfl)
    (of_decide_eq_true (by kernel_rfl)) (by unfold Func.isWrapper; first | (rw [if_pos (by decide +kernel)]; kernel_rfl) | (rw [if_neg (by decide +kernel)]; exact ⟨rfl, rfl⟩))
    (fun os started H enc _ => lifted os started H enc)

theorem proved : Rows.NumTellsSaid := over
end Go.Proofs.Ytjhbbaadmdmhaaa.numTells
