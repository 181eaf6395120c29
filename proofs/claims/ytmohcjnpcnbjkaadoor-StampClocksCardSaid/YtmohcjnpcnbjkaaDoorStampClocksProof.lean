/-
  Proves that StampClocks is true for every four numbers of 64 bits: seconds and clocks are each other's, and but for one no minute has a sixty-first second. The statement is a tied card: that the listed tables hold what their initialisers lay is tied to the program's text by the given tie. No other condition.
-/
import Derived.Test.YtmohcjnpcnbjkaaDoorStampSmall
import Derived.Test.YtmohcjnpcnbjkaaDoorStampLaid
import Derived.Test.YtmohcjnpcnbjkaaDoorCards
import Derived.Test.YtmohcjnpcnbjkaaDoorTie
namespace Go.Proofs.YtmohcjnpcnbjkaaDoor.stampClocks
open Go.ChangeShapes Go.WideShapes Go.ChangeAt Go.RowKit
open stamp (Tb clock_on clock_off second_on second_off)
open cal stx
set_option linter.unusedVariables false

set_option maxRecDepth 100000 in
set_option maxHeartbeats 4000000 in
theorem walk (n : Int) (_ : -9223372036854775808 ≤ n ∧ n ≤ 9223372036854775807) (h : Int) (_ : -9223372036854775808 ≤ h ∧ h ≤ 9223372036854775807) (i : Int) (_ : -9223372036854775808 ≤ i ∧ i ≤ 9223372036854775807) (x : Int) (_ : -9223372036854775808 ≤ x ∧ x ≤ 9223372036854775807) (w : World) (T : Tb w) :
    Calls Tryd.prog 5 #[.int .i64 n, .int .i64 h, .int .i64 i, .int .i64 x] w fun e w' => e = .returned (.bool true) ∧ Below w.heap.size w w' := by
  have S := Lib.hid (fun W hb => stamp.small_true T W hb)
  have B0 : Below w.heap.size w w := Below.refl _ _
  by_cases hn : n < 0 ∨ 86400 < n
  · have C1 := Lib.hid (fun W hb => clock_off (w := w) W hb n hn)
    by_cases c : Clk h i x
    · have N2 := Lib.hid (fun W hb => second_on (w := w) W hb h i x _ c rfl)
      have C2 := Lib.hid (fun W hb => clock_on (w := w) W hb h i x _ c rfl)
      have hb := secN_bd c
      generalize secN h i x = k at *
      clear T c
      go_enter Tryd.func5, Tryd.ntmps5
      go_wp2_with (first
        | (go_at_call 8; (with_reducible refine (S.out _ (by assumption)).mono ?_; rintro e w1 ⟨rfl, hb1⟩))
        | (go_at_call 9; (first | (with_reducible refine (C1.out _ (by assumption)).mono ?_; rintro e w2 ⟨rfl, hb2⟩) | (with_reducible refine (C2.out _ (by assumption)).mono ?_; rintro e w3 ⟨rfl, hb3⟩)))
        | (go_at_call 11; (with_reducible refine (N2.out _ (by assumption)).mono ?_; rintro e w4 ⟨rfl, hb4⟩)))
      go_ret
      exact ⟨day.ret_bool (by first | rfl | simp), by assumption⟩
    · have N2 := Lib.hid (fun W hb => second_off (w := w) W hb h i x c)
      clear T c
      go_enter Tryd.func5, Tryd.ntmps5
      go_wp2_with (first
        | (go_at_call 8; (with_reducible refine (S.out _ (by assumption)).mono ?_; rintro e w1 ⟨rfl, hb1⟩))
        | (go_at_call 9; (with_reducible refine (C1.out _ (by assumption)).mono ?_; rintro e w2 ⟨rfl, hb2⟩))
        | (go_at_call 11; (with_reducible refine (N2.out _ (by assumption)).mono ?_; rintro e w3 ⟨rfl, hb3⟩)))
      go_ret
      exact ⟨day.ret_bool (by first | rfl | simp), by assumption⟩
  · obtain ⟨a, b, d, ca, ea⟩ := exists_clk n (by omega) (by omega)
    have C1 := Lib.hid (fun W hb => clock_on (w := w) W hb a b d n ca ea)
    have N1 := Lib.hid (fun W hb => second_on (w := w) W hb a b d n ca ea)
    have bd := clk_bd ca
    obtain ⟨b1, b2, b3, b4, b5, b6⟩ := bd
    have t1 : (d == 60) = (n == 86400) := by
      have := secN_top ca
      rw [ea] at this
      rw [Bool.eq_iff_iff]; simp; exact this.symm
    clear ca ea hn
    by_cases c : Clk h i x
    · have N2 := Lib.hid (fun W hb => second_on (w := w) W hb h i x _ c rfl)
      have C2 := Lib.hid (fun W hb => clock_on (w := w) W hb h i x _ c rfl)
      have hb := secN_bd c
      generalize secN h i x = k at *
      clear T c
      go_enter Tryd.func5, Tryd.ntmps5
      go_wp2_with (first
        | (go_at_call 8; (with_reducible refine (S.out _ (by assumption)).mono ?_; rintro e w1 ⟨rfl, hb1⟩))
        | (go_at_call 9; (first | (with_reducible refine (C1.out _ (by assumption)).mono ?_; rintro e w2 ⟨rfl, hb2⟩) | (with_reducible refine (C2.out _ (by assumption)).mono ?_; rintro e w3 ⟨rfl, hb3⟩)))
        | (go_at_call 11; (first | (with_reducible refine (N1.out _ (by assumption)).mono ?_; rintro e w4 ⟨rfl, hb4⟩) | (with_reducible refine (N2.out _ (by assumption)).mono ?_; rintro e w5 ⟨rfl, hb5⟩))))
      all_goals
        go_ret
        exact ⟨day.ret_bool (by first | rfl | simp | (simp_all; done) | (exfalso; simp_all; omega)), by assumption⟩
    · have N2 := Lib.hid (fun W hb => second_off (w := w) W hb h i x c)
      clear T c
      go_enter Tryd.func5, Tryd.ntmps5
      go_wp2_with (first
        | (go_at_call 8; (with_reducible refine (S.out _ (by assumption)).mono ?_; rintro e w1 ⟨rfl, hb1⟩))
        | (go_at_call 9; (with_reducible refine (C1.out _ (by assumption)).mono ?_; rintro e w2 ⟨rfl, hb2⟩))
        | (go_at_call 11; (first | (with_reducible refine (N1.out _ (by assumption)).mono ?_; rintro e w3 ⟨rfl, hb3⟩) | (with_reducible refine (N2.out _ (by assumption)).mono ?_; rintro e w4 ⟨rfl, hb4⟩))))
      all_goals
        go_ret
        exact ⟨day.ret_bool (by first | rfl | simp | (simp_all; done) | (exfalso; simp_all; omega)), by assumption⟩

theorem door_met (os : Os) (args : Array Value) : laidMetH Tryd.prog Rows.stampClocksRow.laid ((World.doorLaid Tryd.prog 400 os).forCall (fun _ _ => 0) ⟨#[], args, []⟩).memory :=
  laidMetH_of_parts3 (fuel := 8) (laidMet_of_run' 8 (by kernel_rfl) (by kernel_rfl)) (by kernel_rfl) (by kernel_rfl)
set_option maxRecDepth 100000 in
theorem lifted (os : Os) (started : os.Started) (H : Type) (enc : TypeId × Value → H) :
    ReturnsInHanded {} Tryd.checked os 5 .any (fun w args => (Rows.stampClocksSpec.pre enc Tryd.prog Tryd.f5 [] false w args ∧ laidMetH Tryd.prog Rows.stampClocksRow.laid w) ∧ sizedMet enc Tryd.prog Tryd.f5 (OpenSpec.ofChange Rows.stampClocksSpec) false w args)
      (Rows.stampClocksSpec.post enc Tryd.prog Tryd.f5 false true false false) := by
  refine returnsInHanded_of_change_and (C := Tryd.checked) (X := fun w _ => laidMetH Tryd.prog Rows.stampClocksRow.laid w) (fun _ _ _ hh h => h.of_heap hh) law.own started (by kernel_rfl) Tryd.func5
    (ChangeSpec.witness_shaped (enc := enc) (C := Tryd.checked) (os := os) (X := fun w _ => laidMetH Tryd.prog Rows.stampClocksRow.laid w) false (World.doorLaid Tryd.prog 400 os) #[.int .i64 0, .int .i64 0, .int .i64 0, .int .i64 0] 8 rfl (World.shaped_of_RefB (by kernel_rfl) (by kernel_rfl)) (by kernel_rfl) (by kernel_rfl) (by kernel_rfl) (door_met os _)) ?_
  intro W base args ds gs before hval0 hW _ _ hL _
  rw [MakeChecks.laidMetH_plain _ _ _ (by kernel_rfl)] at hL
  have T0 := stamp.tb_of hL (by repeat first | exact List.Mem.head _ | refine List.Mem.tail _ ?_) (by repeat first | exact List.Mem.head _ | refine List.Mem.tail _ ?_) (by repeat first | exact List.Mem.head _ | refine List.Mem.tail _ ?_)
  have hval : ∀ (j : Nat) t v, Tryd.f5.params[j]? = some t → args[j]? = some v → Value.okWide Tryd.prog W .any base t v := hval0
  have hW' := hW
  obtain ⟨p, q, hA0, hV, rfl, hfz, hnd⟩ := hW
  have hA : DataW.TrodAll enc Tryd.prog W 0 (fun _ => true) true Tryd.f5.params.toList args.toList ds p := hA0
  rw [Tryd.params5] at hA hval
  obtain ⟨v0, vs0, d0, ds0, p0, q0, hargs, rfl, rfl, h0, r0⟩ := trodAll_cons hA
  obtain ⟨v1, vs1, d1, ds1, p1, q1, rfl, rfl, rfl, h1, r1⟩ := trodAll_cons r0
  obtain ⟨v2, vs2, d2, ds2, p2, q2, rfl, rfl, rfl, h2, r2⟩ := trodAll_cons r1
  obtain ⟨v3, vs3, d3, ds3, p3, q3, rfl, rfl, rfl, h3, r3⟩ := trodAll_cons r2
  obtain ⟨rfl, rfl, rfl⟩ := trodAll_nil r3
  obtain rfl : args = #[v0, v1, v2, v3] := by cases args; simp_all
  obtain ⟨rfl, rfl⟩ := trodVars_none hV
  clear hA0 hval0
  obtain ⟨a0, rfl, hd0, hp0, w0⟩ := open_int Tryd.underlying3 (hval 0 3 v0 rfl rfl) h0
  obtain ⟨a1, rfl, hd1, hp1, w1⟩ := open_int Tryd.underlying3 (hval 1 3 v1 rfl rfl) h1
  obtain ⟨a2, rfl, hd2, hp2, w2⟩ := open_int Tryd.underlying3 (hval 2 3 v2 rfl rfl) h2
  obtain ⟨a3, rfl, hd3, hp3, w3⟩ := open_int Tryd.underlying3 (hval 3 3 v3 rfl rfl) h3
  refine (Calls.mono (R := fun e w' => e = .returned (.bool true) ∧ Below W.heap.size W w') ?_ fun e W' ⟨he, hb⟩ => ?_)
  · exact walk a0 (bounds_i64 w0) a1 (bounds_i64 w1) a2 (bounds_i64 w2) a3 (bounds_i64 w3) W T0
  · subst he
    exact ⟨_, rfl, law.post law.laidOut (by kernel_rfl) rfl rfl Tryd.underlying4 rfl hW' hb⟩

theorem over : Rows.stampClocksRow.holds Tryd.pinned (OpenSpec.ofChange Rows.stampClocksSpec) :=
  OpenClaim.holds_of_wide 5 Tryd.f5 rfl rfl rfl rfl rfl rfl rfl ⟨rfl, rfl, rfl, rfl, rfl⟩ rfl rfl rfl rfl rfl (by kernel_rfl) Tryd.func5 (by kernel_rfl)
    (of_decide_eq_true (by kernel_rfl)) (by unfold Func.isWrapper; first | (rw [if_pos (by decide +kernel)]; kernel_rfl) | (rw [if_neg (by decide +kernel)]; exact ⟨rfl, rfl⟩))
    (fun os started H enc _ => lifted os started H enc)

theorem proved : Rows.StampClocksCardSaid :=
  Claim7.holds_tied_plain_at .later [] _ _ _ _ over (fun _ h => by cases h) (by kernel_rfl) (fun _ h => by cases h) stampClocks_row_tie rfl ⟨rfl, rfl⟩ (by kernel_rfl) rfl
    (fun f fn hf hfn => by
      obtain rfl : f = 5 := Option.some.inj ((show Tryd.prog.funcNamed "epact/epactlaw04.StampClocks" = some 5 by kernel_rfl).symm.trans hf) |>.symm
      obtain rfl : fn = Tryd.f5 := (Option.some.inj (Tryd.func5.symm.trans hfn)).symm
      exact ⟨by kernel_rfl, fun j t ht => by
        have hall : (Tryd.f5.params.toList.all fun u => !Tryd.prog.wantsStandIn u) = true := by kernel_rfl
        have hm : t ∈ Tryd.f5.params.toList := by rw [Array.mem_toList_iff]; exact Array.mem_of_getElem? ht
        exact (show Tryd.prog.wantsStandIn t = false by simpa using List.all_eq_true.1 hall t hm)⟩)
    (by kernel_rfl)
end Go.Proofs.YtmohcjnpcnbjkaaDoor.stampClocks
