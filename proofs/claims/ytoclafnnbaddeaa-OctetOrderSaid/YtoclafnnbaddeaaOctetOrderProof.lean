/-
  OctetOrder: of two numbers of eight bytes, not below 0, the greater one has the greater bytes, and of four bytes, too, for any two numbers. No condition.
-/
import Derived.Test.YtoclafnnbaddeaaOctLaw
import Derived.Test.YtoclafnnbaddeaaOctStr
import Derived.Laws.Cover1
namespace Go.Proofs.Ytoclafnnbaddeaa.octetOrder
open Go.ChangeShapes Go.WideShapes Go.ChangeAt Go.RowKit
open om mem oct
set_option linter.unusedVariables false
set_option maxRecDepth 100000

theorem put_nil (n z : Int) (W : World) (hn : I64 n) (hz : I64 z) : Calls Try.prog 10 #[.slice none 0 0, .int .i64 n, .int .i64 z] W fun e w' => ∃ v', e = .returned (.tuple #[v', .bool (fitB n z)]) ∧ Old w' v' (put [] n z) ∧ Below W.heap.size W w' := by
  refine (put_at [] _ n z W hn hz (rd_none W) (by decide)).mono ?_
  rintro e w' ⟨v', rfl, ho, hb⟩
  exact ⟨v', rfl, own_old ho, hb⟩
set_option maxHeartbeats 4000000 in
set_option maxRecDepth 100000 in
theorem walk (a : Int) (ha : -9223372036854775808 ≤ a ∧ a ≤ 9223372036854775807) (b : Int) (hb : -9223372036854775808 ≤ b ∧ b ≤ 9223372036854775807) (w : World) : Calls Try.prog 7 #[.int .i64 a, .int .i64 b] w fun e w' => e = .returned (.bool true) ∧ Below w.heap.size w w' := by
  have SM := Lib.hid (small_at w)
  have ha2 := ha
  have hb2 := hb
  obtain ⟨a1, a2⟩ := ha
  obtain ⟨b1, b2⟩ := hb
  by_cases ha0 : a < 0
  · clear ha2 hb2
    go_enter Try.func7, Try.ntmps7
    go_wp2_with (go_at_call 9; (with_reducible refine SM.out.mono ?_); rintro e w1 ⟨rfl, hb1⟩; have HB := Lib.hid hb1; clear hb1)
    go_ret
    exact ⟨rfl, HB.out⟩
  · by_cases hb0 : b < 0
    · clear ha2 hb2
      go_enter Try.func7, Try.ntmps7
      go_wp2_with (go_at_call 9; (with_reducible refine SM.out.mono ?_); rintro e w1 ⟨rfl, hb1⟩; have HB := Lib.hid hb1; clear hb1)
      go_ret
      exact ⟨rfl, HB.out⟩
    · have pa : 0 ≤ a := by omega
      have pb : 0 ≤ b := by omega
      have fa : fitB a 8 = true := fit_iff.2 (Or.inl rfl)
      have fb : fitB b 8 = true := fit_iff.2 (Or.inl rfl)
      have A8 := Lib.hid (fun W => put_nil a 8 W ha2 ⟨by decide, by decide⟩)
      have B8 := Lib.hid (fun W => put_nil b 8 W hb2 ⟨by decide, by decide⟩)
      have A4 := Lib.hid (fun W => put_nil a 4 W ha2 ⟨by decide, by decide⟩)
      have B4 := Lib.hid (fun W => put_nil b 4 W hb2 ⟨by decide, by decide⟩)
      rw [fa, put_yes fa] at A8
      rw [fb, put_yes fb] at B8
      have L8 : Hid (Op.bytesLess (strN (lay a 8)).toList (strN (lay b 8)).toList = decide (a < b)) := Lib.hid (less_lay a b 8 pa pb (by simp only [Int.reducePow]; omega) (by simp only [Int.reducePow]; omega))
      obtain ⟨ta, hta⟩ : ∃ t, fitB a 4 = t := ⟨_, rfl⟩
      obtain ⟨tb, htb⟩ : ∃ t, fitB b 4 = t := ⟨_, rfl⟩
      obtain ⟨tc, htc⟩ : ∃ t, decide (a < b) = t := ⟨_, rfl⟩
      have da : decide (a < 2147483648) = ta := by
        rw [← hta, Bool.eq_iff_iff, fit_iff]; unfold Fits; simp; omega
      have db : decide (b < 2147483648) = tb := by
        rw [← htb, Bool.eq_iff_iff, fit_iff]; unfold Fits; simp; omega
      have L4 : Hid (ta = true → tb = true → Op.bytesLess (strN (put [] a 4)).toList (strN (put [] b 4)).toList = decide (a < b)) := Lib.hid (fun h1 h2 => by
        rw [put_yes (hta.trans h1), put_yes (htb.trans h2)]
        exact less_lay a b 4 pa pb (by rw [h1] at da; simp only [decide_eq_true_eq] at da; simp only [Int.reducePow]; omega) (by rw [h2] at db; simp only [decide_eq_true_eq] at db; simp only [Int.reducePow]; omega))
      rw [hta] at A4
      rw [htb] at B4
      rw [htc] at L8 L4
      have C1 := Lib.hid (fun W v (h : Old W v (lay a 8)) => str_of h.rd)
      have C2 := Lib.hid (fun W v (h : Old W v (lay b 8)) => str_of h.rd)
      have C3 := Lib.hid (fun W v (h : Old W v (put [] a 4)) => str_of h.rd)
      have C4 := Lib.hid (fun W v (h : Old W v (put [] b 4)) => str_of h.rd)
      rw [show ([] : List Nat) ++ lay a (8 : Int).toNat = lay a 8 from rfl] at A8
      rw [show ([] : List Nat) ++ lay b (8 : Int).toNat = lay b 8 from rfl] at B8
      generalize strN (lay a 8) = sa at *
      generalize strN (lay b 8) = sb at *
      generalize strN (put [] a 4) = ra at *
      generalize strN (put [] b 4) = rb at *
      clear hta htb ha0 hb0 fa fb ha2 hb2
      cases ta <;> cases tb <;> cases tc
      all_goals
        have l8 := L8.out
        try have l4 := L4.out rfl rfl
        clear L8 L4
        go_enter Try.func7, Try.ntmps7
        go_wp2_with (first
          | (go_at_call 9; (with_reducible refine SM.out.mono ?_); rintro e w1 ⟨rfl, hb1⟩; have H1 := Lib.hid hb1; clear hb1)
          | (go_at_call 10; (with_reducible refine (A8.out _).mono ?_); rintro e w2 ⟨v2, rfl, y2, hb2⟩; have H2 := Lib.hid (btr H1.out hb2); have Y2 := Lib.hid y2; clear hb2 y2 H1 A8)
          | (go_at_call 10; (with_reducible refine (B8.out _).mono ?_); rintro e w3 ⟨v3, rfl, y3, hb3⟩; have H3 := Lib.hid (btr H2.out hb3); have Z2 := Lib.hid (Y2.out.below hb3); have Y3 := Lib.hid y3; clear hb3 y3 H2 Y2 B8)
          | (go_at_call 10; (with_reducible refine (A4.out _).mono ?_); rintro e w4 ⟨v4, rfl, y4, hb4⟩; have H4 := Lib.hid (btr H3.out hb4); have X2 := Lib.hid (Z2.out.below hb4); have X3 := Lib.hid (Y3.out.below hb4); have Y4 := Lib.hid y4; clear hb4 y4 H3 Z2 Y3 A4)
          | (go_at_call 10; (with_reducible refine (B4.out _).mono ?_); rintro e w5 ⟨v5, rfl, y5, hb5⟩; have H5 := Lib.hid (btr H4.out hb5); have q1 := C1.out _ _ (X2.out.below hb5); have q2 := C2.out _ _ (X3.out.below hb5); have q3 := C3.out _ _ (Y4.out.below hb5); have q4 := C4.out _ _ y5; clear hb5 y5 H4 X2 X3 Y4 B4))
        go_ret
        exact ⟨by first | rfl | (simp [*]; done), H5.out⟩

set_option maxRecDepth 100000 in
theorem lifted (os : Os) (started : os.Started) (H : Type) (enc : TypeId × Value → H) :
    ReturnsInHanded {} Try.checked os 7 .any (Rows.octetOrderSpec.pre6 enc Try.prog Try.f7 Rows.octetOrderRow.domain false) (Rows.octetOrderSpec.post enc Try.prog Try.f7 false true false false) := by
  refine returnsInHanded_of_change (C := Try.checked) law.own started (by kernel_rfl) Try.func7
    (ChangeSpec.witness6 (enc := enc) (C := Try.checked) false ⟨#[], #[.int .i64 0, .int .i64 0], []⟩ 8 (by kernel_rfl) (by kernel_rfl) (by kernel_rfl) (by kernel_rfl)) ?_
  intro W base args ds gs before hval0 hW hcnd _
  have hval : ∀ (j : Nat) t v, Try.f7.params[j]? = some t → args[j]? = some v → Value.okWide Try.prog W .any base t v := hval0
  have hW' := hW
  obtain ⟨p, q, hA0, hV, rfl, hfz, hnd⟩ := hW
  have hA : DataW.TrodAll enc Try.prog W 0 (fun _ => true) true Try.f7.params.toList args.toList ds p := hA0
  rw [Try.params7] at hA hval
  obtain ⟨v0, vs0, d0, ds0, p0, q0, hargs, rfl, rfl, h0, r0⟩ := trodAll_cons hA
  obtain ⟨v1, vs1, d1, ds1, p1, q1, rfl, rfl, rfl, h1, r1⟩ := trodAll_cons r0
  obtain ⟨rfl, rfl, rfl⟩ := trodAll_nil r1
  obtain rfl : args = #[v0, v1] := by cases args; simp_all
  obtain ⟨rfl, rfl⟩ := trodVars_none hV
  clear hA0 hval0
  obtain ⟨a0, rfl, hd0, hp0, w0⟩ := open_int Try.underlying3 (hval 0 3 v0 rfl rfl) h0
  obtain ⟨a1, rfl, hd1, hp1, w1⟩ := open_int Try.underlying3 (hval 1 3 v1 rfl rfl) h1
  refine (Calls.mono (R := fun e w' => e = .returned (.bool true) ∧ Below W.heap.size W w') ?_ fun e W' ⟨he, hb⟩ => ?_)
  · exact walk a0 (bounds_i64 w0) a1 (bounds_i64 w1) W
  · subst he
    exact ⟨_, rfl, law.post law.laidOut (by kernel_rfl) rfl rfl Try.underlying4 rfl hW' hb⟩

theorem over : Rows.octetOrderRow.holds Try.pinned (OpenSpec.ofChange Rows.octetOrderSpec) :=
  OpenClaim.holds_of_wide 7 Try.f7 rfl rfl rfl rfl rfl rfl rfl ⟨rfl, rfl, rfl, rfl, rfl⟩ rfl rfl rfl rfl rfl (by kernel_rfl) Try.func7 (by kernel_rfl)
    (of_decide_eq_true (by kernel_rfl)) (by unfold Func.isWrapper; first | (rw [if_pos (by decide +kernel)]; kernel_rfl) | (rw [if_neg (by decide +kernel)]; exact ⟨rfl, rfl⟩))
    (fun os started H enc _ => lifted os started H enc)

theorem proved : Rows.OctetOrderSaid := over
end Go.Proofs.Ytoclafnnbaddeaa.octetOrder
