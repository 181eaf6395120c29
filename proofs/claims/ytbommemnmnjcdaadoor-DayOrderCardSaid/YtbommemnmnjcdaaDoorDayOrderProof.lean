/-
  Proves that DayOrder is true for every six numbers of 64 bits: a later date has a greater number. The statement is a tied card: that the two tables of package day hold what their initialisers lay is tied to the program's text by the given tie. No other condition.
-/
import Derived.Test.YtbommemnmnjcdaaDoorDaySmall
import Derived.Test.YtbommemnmnjcdaaDoorDayLaid
import Derived.Test.YtbommemnmnjcdaaDoorCards
import Derived.Test.YtbommemnmnjcdaaDoorTie
namespace Go.Proofs.YtbommemnmnjcdaaDoor.dayOrder
open Go.ChangeShapes Go.WideShapes Go.ChangeAt Go.RowKit
open day (Tabs)
open cal
open numDiv (fit)
set_option linter.unusedVariables false

set_option maxRecDepth 100000 in
set_option maxHeartbeats 4000000 in
theorem walk (y : Int) (_ : fit y) (m : Int) (_ : fit m) (d : Int) (_ : fit d) (z : Int) (_ : fit z) (k : Int) (_ : fit k) (e : Int) (_ : fit e) (w : World) (T : Tabs w) :
    Calls Tryd.prog 5 #[.int .i64 y, .int .i64 m, .int .i64 d, .int .i64 z, .int .i64 k, .int .i64 e] w fun e w' => e = .returned (.bool true) ∧ Below w.heap.size w w' := by
  have S := Lib.hid (fun W hb => day.small_true T W hb)
  have B0 : Below w.heap.size w w := Below.refl _ _
  by_cases v : Vld y m d
  · have N1 := Lib.hid (fun W hb => day.number_on T W hb y m d _ v rfl)
    by_cases v' : Vld z k e
    · have N2 := Lib.hid (fun W hb => day.number_on T W hb z k e _ v' rfl)
      have O := num_lt_iff v v'
      have O' := Lib.hid (show num z k e = num y m d ↔ (z = y ∧ k = m ∧ e = d) from ⟨num_inj v' v, fun ⟨a, b, c⟩ => by rw [a, b, c]⟩)
      have OO := Lib.hid O
      clear O T v v'
      generalize num y m d = a at *
      generalize num z k e = c at *
      go_enter Tryd.func5, Tryd.ntmps5
      go_wp2_with (first
        | (go_at_call 7; (with_reducible refine (S.out _ (by assumption)).mono ?_; rintro e w1 ⟨rfl, hb1⟩))
        | (go_at_call 9; (first | (with_reducible refine (N1.out _ (by assumption)).mono ?_; rintro e w2 ⟨rfl, hb2⟩) | (with_reducible refine (N2.out _ (by assumption)).mono ?_; rintro e w3 ⟨rfl, hb3⟩))))
      all_goals
        go_ret
        refine ⟨day.ret_bool ?_, by assumption⟩
        have g1 := O'.out
        have g2 := OO.out
        first
          | (exfalso; omega)
          | (simp only [Bool.not_eq_true', beq_eq_false_iff_ne]; omega)
          | (rw [beq_iff_eq, Bool.eq_iff_iff, beq_iff_eq, beq_iff_eq]; omega)
          | (rw [beq_iff_eq, Bool.eq_iff_iff]; simp; omega)
          | (simp; omega)
    · have N2 := Lib.hid (fun W hb => day.number_off T W hb z k e v')
      clear T v v'
      generalize num y m d = a at *
      go_enter Tryd.func5, Tryd.ntmps5
      go_wp2_with (first
        | (go_at_call 7; (with_reducible refine (S.out _ (by assumption)).mono ?_; rintro e w1 ⟨rfl, hb1⟩))
        | (go_at_call 9; (first | (with_reducible refine (N1.out _ (by assumption)).mono ?_; rintro e w2 ⟨rfl, hb2⟩) | (with_reducible refine (N2.out _ (by assumption)).mono ?_; rintro e w3 ⟨rfl, hb3⟩))))
      go_ret
      exact ⟨rfl, by assumption⟩
  · have N1 := Lib.hid (fun W hb => day.number_off T W hb y m d v)
    by_cases v' : Vld z k e
    · have N2 := Lib.hid (fun W hb => day.number_on T W hb z k e _ v' rfl)
      clear T v v'
      generalize num z k e = c at *
      go_enter Tryd.func5, Tryd.ntmps5
      go_wp2_with (first
        | (go_at_call 7; (with_reducible refine (S.out _ (by assumption)).mono ?_; rintro e w1 ⟨rfl, hb1⟩))
        | (go_at_call 9; (first | (with_reducible refine (N1.out _ (by assumption)).mono ?_; rintro e w2 ⟨rfl, hb2⟩) | (with_reducible refine (N2.out _ (by assumption)).mono ?_; rintro e w3 ⟨rfl, hb3⟩))))
      go_ret
      exact ⟨rfl, by assumption⟩
    · have N2 := Lib.hid (fun W hb => day.number_off T W hb z k e v')
      clear T v v'
      go_enter Tryd.func5, Tryd.ntmps5
      go_wp2_with (first
        | (go_at_call 7; (with_reducible refine (S.out _ (by assumption)).mono ?_; rintro e w1 ⟨rfl, hb1⟩))
        | (go_at_call 9; (first | (with_reducible refine (N1.out _ (by assumption)).mono ?_; rintro e w2 ⟨rfl, hb2⟩) | (with_reducible refine (N2.out _ (by assumption)).mono ?_; rintro e w3 ⟨rfl, hb3⟩))))
      go_ret
      exact ⟨rfl, by assumption⟩

theorem door_met (os : Os) (args : Array Value) : laidMetH Tryd.prog Rows.dayOrderRow.laid ((World.doorLaid Tryd.prog 400 os).forCall (fun _ _ => 0) ⟨#[], args, []⟩).memory :=
  laidMetH_of_parts3 (fuel := 8) (laidMet_of_run' 8 (by kernel_rfl) (by kernel_rfl)) (by kernel_rfl) (by kernel_rfl)
set_option maxRecDepth 100000 in
theorem lifted (os : Os) (started : os.Started) (H : Type) (enc : TypeId × Value → H) :
    ReturnsInHanded {} Tryd.checked os 5 .any (fun w args => (Rows.dayOrderSpec.pre enc Tryd.prog Tryd.f5 [] false w args ∧ laidMetH Tryd.prog Rows.dayOrderRow.laid w) ∧ sizedMet enc Tryd.prog Tryd.f5 (OpenSpec.ofChange Rows.dayOrderSpec) false w args)
      (Rows.dayOrderSpec.post enc Tryd.prog Tryd.f5 false true false false) := by
  refine returnsInHanded_of_change_and (C := Tryd.checked) (X := fun w _ => laidMetH Tryd.prog Rows.dayOrderRow.laid w) (fun _ _ _ hh h => h.of_heap hh) law.own started (by kernel_rfl) Tryd.func5
    (ChangeSpec.witness_shaped (enc := enc) (C := Tryd.checked) (os := os) (X := fun w _ => laidMetH Tryd.prog Rows.dayOrderRow.laid w) false (World.doorLaid Tryd.prog 400 os) #[.int .i64 0, .int .i64 0, .int .i64 0, .int .i64 0, .int .i64 0, .int .i64 0] 8 rfl (World.shaped_of_RefB (by kernel_rfl) (by kernel_rfl)) (by kernel_rfl) (by kernel_rfl) (by kernel_rfl) (door_met os _)) ?_
  intro W base args ds gs before hval0 hW _ _ hL _
  rw [MakeChecks.laidMetH_plain _ _ _ (by kernel_rfl)] at hL
  have T0 := day.tabs_of hL (by first | exact List.Mem.head _ | exact List.Mem.tail _ (List.Mem.head _) | exact List.Mem.tail _ (List.Mem.tail _ (List.Mem.head _)) | exact List.Mem.tail _ (List.Mem.tail _ (List.Mem.tail _ (List.Mem.head _)))) (by first | exact List.Mem.head _ | exact List.Mem.tail _ (List.Mem.head _) | exact List.Mem.tail _ (List.Mem.tail _ (List.Mem.head _)) | exact List.Mem.tail _ (List.Mem.tail _ (List.Mem.tail _ (List.Mem.head _))))
  have hval : ∀ (j : Nat) t v, Tryd.f5.params[j]? = some t → args[j]? = some v → Value.okWide Tryd.prog W .any base t v := hval0
  have hW' := hW
  obtain ⟨p, q, hA0, hV, rfl, hfz, hnd⟩ := hW
  have hA : DataW.TrodAll enc Tryd.prog W 0 (fun _ => true) true Tryd.f5.params.toList args.toList ds p := hA0
  rw [Tryd.params5] at hA hval
  obtain ⟨v0, vs0, d0, ds0, p0, q0, hargs, rfl, rfl, h0, r0⟩ := trodAll_cons hA
  obtain ⟨v1, vs1, d1, ds1, p1, q1, rfl, rfl, rfl, h1, r1⟩ := trodAll_cons r0
  obtain ⟨v2, vs2, d2, ds2, p2, q2, rfl, rfl, rfl, h2, r2⟩ := trodAll_cons r1
  obtain ⟨v3, vs3, d3, ds3, p3, q3, rfl, rfl, rfl, h3, r3⟩ := trodAll_cons r2
  obtain ⟨v4, vs4, d4, ds4, p4, q4, rfl, rfl, rfl, h4, r4⟩ := trodAll_cons r3
  obtain ⟨v5, vs5, d5, ds5, p5, q5, rfl, rfl, rfl, h5, r5⟩ := trodAll_cons r4
  obtain ⟨rfl, rfl, rfl⟩ := trodAll_nil r5
  obtain rfl : args = #[v0, v1, v2, v3, v4, v5] := by cases args; simp_all
  obtain ⟨rfl, rfl⟩ := trodVars_none hV
  clear hA0 hval0
  obtain ⟨a0, rfl, hd0, hp0, w0⟩ := open_int Tryd.underlying3 (hval 0 3 v0 rfl rfl) h0
  obtain ⟨a1, rfl, hd1, hp1, w1⟩ := open_int Tryd.underlying3 (hval 1 3 v1 rfl rfl) h1
  obtain ⟨a2, rfl, hd2, hp2, w2⟩ := open_int Tryd.underlying3 (hval 2 3 v2 rfl rfl) h2
  obtain ⟨a3, rfl, hd3, hp3, w3⟩ := open_int Tryd.underlying3 (hval 3 3 v3 rfl rfl) h3
  obtain ⟨a4, rfl, hd4, hp4, w4⟩ := open_int Tryd.underlying3 (hval 4 3 v4 rfl rfl) h4
  obtain ⟨a5, rfl, hd5, hp5, w5⟩ := open_int Tryd.underlying3 (hval 5 3 v5 rfl rfl) h5
  refine (Calls.mono (R := fun e w' => e = .returned (.bool true) ∧ Below W.heap.size W w') ?_ fun e W' ⟨he, hb⟩ => ?_)
  · exact walk a0 (bounds_i64 w0) a1 (bounds_i64 w1) a2 (bounds_i64 w2) a3 (bounds_i64 w3) a4 (bounds_i64 w4) a5 (bounds_i64 w5) W T0
  · subst he
    exact ⟨_, rfl, law.post law.laidOut (by kernel_rfl) rfl rfl Tryd.underlying4 rfl hW' hb⟩

theorem over : Rows.dayOrderRow.holds Tryd.pinned (OpenSpec.ofChange Rows.dayOrderSpec) :=
  OpenClaim.holds_of_wide 5 Tryd.f5 rfl rfl rfl rfl rfl rfl rfl ⟨rfl, rfl, rfl, rfl, rfl⟩ rfl rfl rfl rfl rfl (by kernel_rfl) Tryd.func5 (by kernel_rfl)
    (of_decide_eq_true (by kernel_rfl)) (by unfold Func.isWrapper; first | (rw [if_pos (by decide +kernel)]; kernel_rfl) | (rw [if_neg (by decide +kernel)]; exact ⟨rfl, rfl⟩))
    (fun os started H enc _ => lifted os started H enc)

theorem proved : Rows.DayOrderCardSaid :=
  Claim7.holds_tied_plain_at .later [] _ _ _ _ over (fun _ h => by cases h) (by kernel_rfl) (fun _ h => by cases h) dayOrder_row_tie rfl ⟨rfl, rfl⟩ (by kernel_rfl) rfl
    (fun f fn hf hfn => by
      obtain rfl : f = 5 := Option.some.inj ((show Tryd.prog.funcNamed "epact/epactlaw03.DayOrder" = some 5 by kernel_rfl).symm.trans hf) |>.symm
      obtain rfl : fn = Tryd.f5 := (Option.some.inj (Tryd.func5.symm.trans hfn)).symm
      exact ⟨by kernel_rfl, fun j t ht => by
        have hall : (Tryd.f5.params.toList.all fun u => !Tryd.prog.wantsStandIn u) = true := by kernel_rfl
        have hm : t ∈ Tryd.f5.params.toList := by rw [Array.mem_toList_iff]; exact Array.mem_of_getElem? ht
        exact (show Tryd.prog.wantsStandIn t = false by simpa using List.all_eq_true.1 hall t hm)⟩)
    (by kernel_rfl)
end Go.Proofs.YtbommemnmnjcdaaDoor.dayOrder
