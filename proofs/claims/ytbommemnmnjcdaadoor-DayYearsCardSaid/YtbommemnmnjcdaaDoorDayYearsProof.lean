/-
  Proves that DayYears is true for every number of 64 bits: a year has 365 days, or 366, as it is a leap year, and 400 years have 146097. The statement is a tied card: that the two tables of package day hold what their initialisers lay is tied to the program's text by the given tie. No other condition.
-/
import Derived.Test.YtbommemnmnjcdaaDoorDaySmall
import Derived.Test.YtbommemnmnjcdaaDoorDayLaid
import Derived.Test.YtbommemnmnjcdaaDoorCards
import Derived.Test.YtbommemnmnjcdaaDoorTie
namespace Go.Proofs.YtbommemnmnjcdaaDoor.dayYears
open Go.ChangeShapes Go.WideShapes Go.ChangeAt Go.RowKit
open day (Tabs)
open cal
open numDiv (fit)
set_option linter.unusedVariables false

theorem first_of (y : Int) (h1 : 1 ≤ y) (h2 : y ≤ 9999) : Vld y 1 1 ∧ num y 1 1 = dby y - 719162 := by
  have hd := dim_bd y 1
  have hc := cum_one y
  exact ⟨⟨h1, h2, by omega, by omega, by omega, by omega⟩, by unfold num; omega⟩
theorem last_of (y : Int) (h1 : 1 ≤ y) (h2 : y ≤ 9999) : Vld y 12 31 ∧ num y 12 31 = dby y - 719162 + 364 + lp y := by
  have hd := dim_dec y
  have hc := cum_dec y
  exact ⟨⟨h1, h2, by omega, by omega, by omega, by omega⟩, by unfold num; omega⟩

set_option maxRecDepth 100000 in
set_option maxHeartbeats 4000000 in
theorem walk (y : Int) (_ : fit y) (w : World) (T : Tabs w) :
    Calls Tryd.prog 6 #[.int .i64 y] w fun e w' => e = .returned (.bool true) ∧ Below w.heap.size w w' := by
  have S := Lib.hid (fun W hb => day.small_true T W hb)
  have B0 : Below w.heap.size w w := Below.refl _ _
  by_cases hy : y < 1 ∨ 9598 < y
  · by_cases h1 : y < 1
    · clear hy T
      go_enter Tryd.func6, Tryd.ntmps6
      go_wp2_with (first
        | (go_at_call 7; (with_reducible refine (S.out _ (by assumption)).mono ?_; rintro e w1 ⟨rfl, hb1⟩)))
      go_ret
      exact ⟨rfl, by assumption⟩
    · have h2 : 9598 < y := by omega
      clear hy T
      go_enter Tryd.func6, Tryd.ntmps6
      go_wp2_with (first
        | (go_at_call 7; (with_reducible refine (S.out _ (by assumption)).mono ?_; rintro e w1 ⟨rfl, hb1⟩)))
      go_ret
      exact ⟨rfl, by assumption⟩
  have h1 : 1 ≤ y := by omega
  have h2 : y ≤ 9598 := by omega
  clear hy
  obtain ⟨v1, n1⟩ := first_of y h1 (by omega)
  obtain ⟨v2, n2⟩ := last_of y h1 (by omega)
  obtain ⟨v3, n3⟩ := first_of (y + 400) (by omega) (by omega)
  rw [dby_400] at n3
  have hb := dby_bd y h1 (by omega)
  have N1 := Lib.hid (fun W hb => day.number_on T W hb y 1 1 _ v1 n1)
  have N2 := Lib.hid (fun W hb => day.number_on T W hb y 12 31 _ v2 n2)
  have N3 := Lib.hid (fun W hb => day.number_on T W hb (y + 400) 1 1 _ v3 n3)
  have Y1 := Lib.hid (fun W hb => day.leap_on T W hb y)
  have Y2 := Lib.hid (fun W hb => day.leap_on T W hb (y + 400))
  have L1 := Lib.hid (fun W hb => day.last_on T W hb y 2 h1 (by omega) (by omega) (by omega))
  rw [dim_feb] at L1
  rw [leapB_400] at Y2
  have W1 := Lib.hid (fun W hb => day.week_on T W hb (dby y - 719162) ((dby y - 719162 + 4) % 7) ⟨by omega, by omega⟩ rfl)
  have W2 := Lib.hid (fun W hb => day.week_on T W hb (dby y + 146097 - 719162) ((dby y - 719162 + 4) % 7) ⟨by omega, by omega⟩ (by omega))
  have r0 : 0 ≤ (dby y - 719162 + 4) % 7 := by omega
  have r1 : (dby y - 719162 + 4) % 7 < 7 := by omega
  generalize (dby y - 719162 + 4) % 7 = r at *
  have a1 : -719162 ≤ dby y - 719162 := by omega
  have a2 : dby y - 719162 ≤ 2932897 := by omega
  rw [show dby y + 146097 - 719162 = dby y - 719162 + 146097 by omega] at N3 W2
  clear v1 v2 v3 n1 n2 n3 T hb
  generalize dby y - 719162 = a at *
  cases hl : leapB y
  · rw [hl] at Y1 Y2
    rw [lp_no hl] at L1 N2
    rw [show (28 : Int) + 0 = 28 from rfl] at L1
    rw [show a + 364 + 0 = a + 364 by omega] at N2
    clear hl
    go_enter Tryd.func6, Tryd.ntmps6
    go_wp2_with (first
      | (go_at_call 7; (with_reducible refine (S.out _ (by assumption)).mono ?_; rintro e w1 ⟨rfl, hb1⟩))
      | (go_at_call 9; (first | (with_reducible refine (N1.out _ (by assumption)).mono ?_; rintro e w2 ⟨rfl, hb2⟩) | (with_reducible refine (N2.out _ (by assumption)).mono ?_; rintro e w3 ⟨rfl, hb3⟩) | (with_reducible refine (N3.out _ (by assumption)).mono ?_; rintro e w4 ⟨rfl, hb4⟩)))
      | (go_at_call 13; (first | (with_reducible refine (Y1.out _ (by assumption)).mono ?_; rintro e w5 ⟨rfl, hb5⟩) | (with_reducible refine (Y2.out _ (by assumption)).mono ?_; rintro e w6 ⟨rfl, hb6⟩)))
      | (go_at_call 10; (with_reducible refine (L1.out _ (by assumption)).mono ?_; rintro e w7 ⟨rfl, hb7⟩))
      | (go_at_call 11; (first | (with_reducible refine (W1.out _ (by assumption)).mono ?_; rintro e w8 ⟨rfl, hb8⟩) | (with_reducible refine (W2.out _ (by assumption)).mono ?_; rintro e w9 ⟨rfl, hb9⟩))))
    all_goals
      go_ret
      refine ⟨day.ret_bool ?_, by assumption⟩
      first | rfl | (simp; done) | (simp; omega) | (exfalso; omega)
  · rw [hl] at Y1 Y2
    rw [lp_yes hl] at L1 N2
    rw [show (28 : Int) + 1 = 29 from rfl] at L1
    rw [show a + 364 + 1 = a + 365 by omega] at N2
    clear hl
    go_enter Tryd.func6, Tryd.ntmps6
    go_wp2_with (first
      | (go_at_call 7; (with_reducible refine (S.out _ (by assumption)).mono ?_; rintro e w1 ⟨rfl, hb1⟩))
      | (go_at_call 9; (first | (with_reducible refine (N1.out _ (by assumption)).mono ?_; rintro e w2 ⟨rfl, hb2⟩) | (with_reducible refine (N2.out _ (by assumption)).mono ?_; rintro e w3 ⟨rfl, hb3⟩) | (with_reducible refine (N3.out _ (by assumption)).mono ?_; rintro e w4 ⟨rfl, hb4⟩)))
      | (go_at_call 13; (first | (with_reducible refine (Y1.out _ (by assumption)).mono ?_; rintro e w5 ⟨rfl, hb5⟩) | (with_reducible refine (Y2.out _ (by assumption)).mono ?_; rintro e w6 ⟨rfl, hb6⟩)))
      | (go_at_call 10; (with_reducible refine (L1.out _ (by assumption)).mono ?_; rintro e w7 ⟨rfl, hb7⟩))
      | (go_at_call 11; (first | (with_reducible refine (W1.out _ (by assumption)).mono ?_; rintro e w8 ⟨rfl, hb8⟩) | (with_reducible refine (W2.out _ (by assumption)).mono ?_; rintro e w9 ⟨rfl, hb9⟩))))
    all_goals
      go_ret
      refine ⟨day.ret_bool ?_, by assumption⟩
      first | rfl | (simp; done) | (simp; omega) | (exfalso; omega)

theorem door_met (os : Os) (args : Array Value) : laidMetH Tryd.prog Rows.dayYearsRow.laid ((World.doorLaid Tryd.prog 400 os).forCall (fun _ _ => 0) ⟨#[], args, []⟩).memory :=
  laidMetH_of_parts3 (fuel := 8) (laidMet_of_run' 8 (by kernel_rfl) (by kernel_rfl)) (by kernel_rfl) (by kernel_rfl)
set_option maxRecDepth 100000 in
theorem lifted (os : Os) (started : os.Started) (H : Type) (enc : TypeId × Value → H) :
    ReturnsInHanded {} Tryd.checked os 6 .any (fun w args => (Rows.dayYearsSpec.pre enc Tryd.prog Tryd.f6 [] false w args ∧ laidMetH Tryd.prog Rows.dayYearsRow.laid w) ∧ sizedMet enc Tryd.prog Tryd.f6 (OpenSpec.ofChange Rows.dayYearsSpec) false w args)
      (Rows.dayYearsSpec.post enc Tryd.prog Tryd.f6 false true false false) := by
  refine returnsInHanded_of_change_and (C := Tryd.checked) (X := fun w _ => laidMetH Tryd.prog Rows.dayYearsRow.laid w) (fun _ _ _ hh h => h.of_heap hh) law.own started (by kernel_rfl) Tryd.func6
    (ChangeSpec.witness_shaped (enc := enc) (C := Tryd.checked) (os := os) (X := fun w _ => laidMetH Tryd.prog Rows.dayYearsRow.laid w) false (World.doorLaid Tryd.prog 400 os) #[.int .i64 0] 8 rfl (World.shaped_of_RefB (by kernel_rfl) (by kernel_rfl)) (by kernel_rfl) (by kernel_rfl) (by kernel_rfl) (door_met os _)) ?_
  intro W base args ds gs before hval0 hW _ _ hL _
  rw [MakeChecks.laidMetH_plain _ _ _ (by kernel_rfl)] at hL
  have T0 := day.tabs_of hL (by first | exact List.Mem.head _ | exact List.Mem.tail _ (List.Mem.head _) | exact List.Mem.tail _ (List.Mem.tail _ (List.Mem.head _)) | exact List.Mem.tail _ (List.Mem.tail _ (List.Mem.tail _ (List.Mem.head _)))) (by first | exact List.Mem.head _ | exact List.Mem.tail _ (List.Mem.head _) | exact List.Mem.tail _ (List.Mem.tail _ (List.Mem.head _)) | exact List.Mem.tail _ (List.Mem.tail _ (List.Mem.tail _ (List.Mem.head _))))
  have hval : ∀ (j : Nat) t v, Tryd.f6.params[j]? = some t → args[j]? = some v → Value.okWide Tryd.prog W .any base t v := hval0
  have hW' := hW
  obtain ⟨p, q, hA0, hV, rfl, hfz, hnd⟩ := hW
  have hA : DataW.TrodAll enc Tryd.prog W 0 (fun _ => true) true Tryd.f6.params.toList args.toList ds p := hA0
  rw [Tryd.params6] at hA hval
  obtain ⟨v0, vs0, d0, ds0, p0, q0, hargs, rfl, rfl, h0, r0⟩ := trodAll_cons hA
  obtain ⟨rfl, rfl, rfl⟩ := trodAll_nil r0
  obtain rfl : args = #[v0] := by cases args; simp_all
  obtain ⟨rfl, rfl⟩ := trodVars_none hV
  clear hA0 hval0
  obtain ⟨a0, rfl, hd0, hp0, w0⟩ := open_int Tryd.underlying3 (hval 0 3 v0 rfl rfl) h0
  refine (Calls.mono (R := fun e w' => e = .returned (.bool true) ∧ Below W.heap.size W w') ?_ fun e W' ⟨he, hb⟩ => ?_)
  · exact walk a0 (bounds_i64 w0) W T0
  · subst he
    exact ⟨_, rfl, law.post law.laidOut (by kernel_rfl) rfl rfl Tryd.underlying4 rfl hW' hb⟩

theorem over : Rows.dayYearsRow.holds Tryd.pinned (OpenSpec.ofChange Rows.dayYearsSpec) :=
  OpenClaim.holds_of_wide 6 Tryd.f6 rfl rfl rfl rfl rfl rfl rfl ⟨rfl, rfl, rfl, rfl, rfl⟩ rfl rfl rfl rfl rfl (by kernel_rfl) Tryd.func6 (by kernel_rfl)
    (of_decide_eq_true (by kernel_rfl)) (by unfold Func.isWrapper; first | (rw [if_pos (by decide +kernel)]; kernel_rfl) | (rw [if_neg (by decide +kernel)]; exact ⟨rfl, rfl⟩))
    (fun os started H enc _ => lifted os started H enc)

theorem proved : Rows.DayYearsCardSaid :=
  Claim7.holds_tied_plain_at .later [] _ _ _ _ over (fun _ h => by cases h) (by kernel_rfl) (fun _ h => by cases h) dayYears_row_tie rfl ⟨rfl, rfl⟩ (by kernel_rfl) rfl
    (fun f fn hf hfn => by
      obtain rfl : f = 6 := Option.some.inj ((show Tryd.prog.funcNamed "epact/epactlaw03.DayYears" = some 6 by kernel_rfl).symm.trans hf) |>.symm
      obtain rfl : fn = Tryd.f6 := (Option.some.inj (Tryd.func6.symm.trans hfn)).symm
      exact ⟨by kernel_rfl, fun j t ht => by
        have hall : (Tryd.f6.params.toList.all fun u => !Tryd.prog.wantsStandIn u) = true := by kernel_rfl
        have hm : t ∈ Tryd.f6.params.toList := by rw [Array.mem_toList_iff]; exact Array.mem_of_getElem? ht
        exact (show Tryd.prog.wantsStandIn t = false by simpa using List.all_eq_true.1 hall t hm)⟩)
    (by kernel_rfl)
end Go.Proofs.YtbommemnmnjcdaaDoor.dayYears
