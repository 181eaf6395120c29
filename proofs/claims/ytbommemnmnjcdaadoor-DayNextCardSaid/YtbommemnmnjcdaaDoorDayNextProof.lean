/-
  Proves that DayNext is true for every number of 64 bits: one day more is the next date. The statement is a tied card: that the two tables of package day hold what their initialisers lay is tied to the program's text by the given tie. No other condition.
-/
import Derived.Test.YtbommemnmnjcdaaDoorDaySmall
import Derived.Test.YtbommemnmnjcdaaDoorDayLaid
import Derived.Test.YtbommemnmnjcdaaDoorCards
import Derived.Test.YtbommemnmnjcdaaDoorTie
namespace Go.Proofs.YtbommemnmnjcdaaDoor.dayNext
open Go.ChangeShapes Go.WideShapes Go.ChangeAt Go.RowKit
open day (Tabs)
open cal
open numDiv (fit)
set_option linter.unusedVariables false

set_option maxRecDepth 100000 in
set_option maxHeartbeats 4000000 in
theorem walk (n : Int) (_ : fit n) (w : World) (T : Tabs w) :
    Calls Tryd.prog 4 #[.int .i64 n] w fun e w' => e = .returned (.bool true) ∧ Below w.heap.size w w' := by
  have S := Lib.hid (fun W hb => day.small_true T W hb)
  have B0 : Below w.heap.size w w := Below.refl _ _
  by_cases hn : n < -719162 ∨ 2932896 ≤ n
  · by_cases h1 : n < -719162
    · clear hn T
      go_enter Tryd.func4, Tryd.ntmps4
      go_wp2_with (first
        | (go_at_call 7; (with_reducible refine (S.out _ (by assumption)).mono ?_; rintro e w1 ⟨rfl, hb1⟩)))
      go_ret
      exact ⟨rfl, by assumption⟩
    · have h2 : 2932896 ≤ n := by omega
      clear hn T
      go_enter Tryd.func4, Tryd.ntmps4
      go_wp2_with (first
        | (go_at_call 7; (with_reducible refine (S.out _ (by assumption)).mono ?_; rintro e w1 ⟨rfl, hb1⟩)))
      go_ret
      exact ⟨rfl, by assumption⟩
  have h1 : -719162 ≤ n := by omega
  have h2 : n < 2932896 := by omega
  clear hn
  obtain ⟨y, m, d, v, e⟩ := day.exists_date n h1 (by omega)
  have D1 := Lib.hid (fun W hb => day.date_on T W hb y m d n v e)
  have L1 := Lib.hid (fun W hb => day.last_on T W hb y m v.1 v.2.1 v.2.2.1 v.2.2.2.1)
  have W1 := Lib.hid (fun W hb => day.week_on T W hb n ((n + 4) % 7) ⟨by omega, by omega⟩ rfl)
  have W2 := Lib.hid (fun W hb => day.week_on T W hb (n + 1) (((n + 4) % 7 + 1) % 7) ⟨by omega, by omega⟩ (by omega))
  have r0 : 0 ≤ (n + 4) % 7 := by omega
  have r1 : (n + 4) % 7 < 7 := by omega
  generalize (n + 4) % 7 = r at *
  have hd := dim_bd y m
  by_cases hl : d < dim y m
  · obtain ⟨v', e'⟩ := next_day v hl
    have D2 := Lib.hid (fun W hb => day.date_on T W hb y m (d + 1) (n + 1) v' (by omega))
    have E1 := Lib.hid (fun W hb => day.end_on T W hb y m d n v e false (by rw [beq_eq_false_iff_ne]; omega))
    obtain ⟨_, _, _, _, d0, _⟩ := v
    clear e v' e' T
    generalize dim y m = L at *
    go_enter Tryd.func4, Tryd.ntmps4
    go_wp2_with (first
      | (go_at_call 7; (with_reducible refine (S.out _ (by assumption)).mono ?_; rintro e w1 ⟨rfl, hb1⟩))
      | (go_at_call 8; (first | (with_reducible refine (D1.out _ (by assumption)).mono ?_; rintro e w2 ⟨rfl, hb2⟩) | (with_reducible refine (D2.out _ (by assumption)).mono ?_; rintro e w3 ⟨rfl, hb3⟩)))
      | (go_at_call 10; (with_reducible refine (L1.out _ (by assumption)).mono ?_; rintro e w4 ⟨rfl, hb4⟩))
      | (go_at_call 12; (with_reducible refine (E1.out _ (by assumption)).mono ?_; rintro e w5 ⟨rfl, hb5⟩))
      | (go_at_call 11; (first | (with_reducible refine (W1.out _ (by assumption)).mono ?_; rintro e w6 ⟨rfl, hb6⟩) | (with_reducible refine (W2.out _ (by assumption)).mono ?_; rintro e w7 ⟨rfl, hb7⟩))))
    all_goals
      go_ret
      refine ⟨day.ret_bool ?_, by assumption⟩
      first | rfl | (simp; done) | (simp; omega) | (exfalso; omega)
  · obtain rfl : d = dim y m := by have := v.2.2.2.2.2; omega
    have E1 := Lib.hid (fun W hb => day.end_on T W hb y m (dim y m) n v e true (by simp))
    by_cases hm : m < 12
    · obtain ⟨v', e'⟩ := next_month v.1 v.2.1 v.2.2.1 hm
      have D2 := Lib.hid (fun W hb => day.date_on T W hb y (m + 1) 1 (n + 1) v' (by omega))
      obtain ⟨_, _, m0, _, _, _⟩ := v
      clear e v' e' T hl
      generalize dim y m = L at *
      go_enter Tryd.func4, Tryd.ntmps4
      go_wp2_with (first
        | (go_at_call 7; (with_reducible refine (S.out _ (by assumption)).mono ?_; rintro e w1 ⟨rfl, hb1⟩))
        | (go_at_call 8; (first | (with_reducible refine (D1.out _ (by assumption)).mono ?_; rintro e w2 ⟨rfl, hb2⟩) | (with_reducible refine (D2.out _ (by assumption)).mono ?_; rintro e w3 ⟨rfl, hb3⟩)))
        | (go_at_call 10; (with_reducible refine (L1.out _ (by assumption)).mono ?_; rintro e w4 ⟨rfl, hb4⟩))
        | (go_at_call 12; (with_reducible refine (E1.out _ (by assumption)).mono ?_; rintro e w5 ⟨rfl, hb5⟩))
        | (go_at_call 11; (first | (with_reducible refine (W1.out _ (by assumption)).mono ?_; rintro e w6 ⟨rfl, hb6⟩) | (with_reducible refine (W2.out _ (by assumption)).mono ?_; rintro e w7 ⟨rfl, hb7⟩))))
      all_goals
        go_ret
        refine ⟨day.ret_bool ?_, by assumption⟩
        first | rfl | (simp; done) | (simp; omega) | (exfalso; omega)
    · obtain rfl : m = 12 := by have := v.2.2.2.1; omega
      have hy : y < 9999 := by
        by_cases hy : y < 9999
        · exact hy
        · exfalso
          obtain rfl : y = 9999 := by have := v.2.1; omega
          have : num 9999 12 (dim 9999 12) = 2932896 := by decide
          omega
      obtain ⟨v', e'⟩ := next_year v.1 hy
      rw [dim_dec] at *
      have D2 := Lib.hid (fun W hb => day.date_on T W hb (y + 1) 1 1 (n + 1) v' (by omega))
      obtain ⟨y0, _, _, _, _, _⟩ := v
      clear e v' e' T hl hm
      go_enter Tryd.func4, Tryd.ntmps4
      go_wp2_with (first
        | (go_at_call 7; (with_reducible refine (S.out _ (by assumption)).mono ?_; rintro e w1 ⟨rfl, hb1⟩))
        | (go_at_call 8; (first | (with_reducible refine (D1.out _ (by assumption)).mono ?_; rintro e w2 ⟨rfl, hb2⟩) | (with_reducible refine (D2.out _ (by assumption)).mono ?_; rintro e w3 ⟨rfl, hb3⟩)))
        | (go_at_call 10; (with_reducible refine (L1.out _ (by assumption)).mono ?_; rintro e w4 ⟨rfl, hb4⟩))
        | (go_at_call 12; (with_reducible refine (E1.out _ (by assumption)).mono ?_; rintro e w5 ⟨rfl, hb5⟩))
        | (go_at_call 11; (first | (with_reducible refine (W1.out _ (by assumption)).mono ?_; rintro e w6 ⟨rfl, hb6⟩) | (with_reducible refine (W2.out _ (by assumption)).mono ?_; rintro e w7 ⟨rfl, hb7⟩))))
      all_goals
        go_ret
        refine ⟨day.ret_bool ?_, by assumption⟩
        first | rfl | (simp; done) | (simp; omega) | (exfalso; omega)

theorem door_met (os : Os) (args : Array Value) : laidMetH Tryd.prog Rows.dayNextRow.laid ((World.doorLaid Tryd.prog 400 os).forCall (fun _ _ => 0) ⟨#[], args, []⟩).memory :=
  laidMetH_of_parts3 (fuel := 8) (laidMet_of_run' 8 (by kernel_rfl) (by kernel_rfl)) (by kernel_rfl) (by kernel_rfl)
set_option maxRecDepth 100000 in
theorem lifted (os : Os) (started : os.Started) (H : Type) (enc : TypeId × Value → H) :
    ReturnsInHanded {} Tryd.checked os 4 .any (fun w args => (Rows.dayNextSpec.pre enc Tryd.prog Tryd.f4 [] false w args ∧ laidMetH Tryd.prog Rows.dayNextRow.laid w) ∧ sizedMet enc Tryd.prog Tryd.f4 (OpenSpec.ofChange Rows.dayNextSpec) false w args)
      (Rows.dayNextSpec.post enc Tryd.prog Tryd.f4 false true false false) := by
  refine returnsInHanded_of_change_and (C := Tryd.checked) (X := fun w _ => laidMetH Tryd.prog Rows.dayNextRow.laid w) (fun _ _ _ hh h => h.of_heap hh) law.own started (by kernel_rfl) Tryd.func4
    (ChangeSpec.witness_shaped (enc := enc) (C := Tryd.checked) (os := os) (X := fun w _ => laidMetH Tryd.prog Rows.dayNextRow.laid w) false (World.doorLaid Tryd.prog 400 os) #[.int .i64 0] 8 rfl (World.shaped_of_RefB (by kernel_rfl) (by kernel_rfl)) (by kernel_rfl) (by kernel_rfl) (by kernel_rfl) (door_met os _)) ?_
  intro W base args ds gs before hval0 hW _ _ hL _
  rw [MakeChecks.laidMetH_plain _ _ _ (by kernel_rfl)] at hL
  have T0 := day.tabs_of hL (by first | exact List.Mem.head _ | exact List.Mem.tail _ (List.Mem.head _) | exact List.Mem.tail _ (List.Mem.tail _ (List.Mem.head _)) | exact List.Mem.tail _ (List.Mem.tail _ (List.Mem.tail _ (List.Mem.head _)))) (by first | exact List.Mem.head _ | exact List.Mem.tail _ (List.Mem.head _) | exact List.Mem.tail _ (List.Mem.tail _ (List.Mem.head _)) | exact List.Mem.tail _ (List.Mem.tail _ (List.Mem.tail _ (List.Mem.head _))))
  have hval : ∀ (j : Nat) t v, Tryd.f4.params[j]? = some t → args[j]? = some v → Value.okWide Tryd.prog W .any base t v := hval0
  have hW' := hW
  obtain ⟨p, q, hA0, hV, rfl, hfz, hnd⟩ := hW
  have hA : DataW.TrodAll enc Tryd.prog W 0 (fun _ => true) true Tryd.f4.params.toList args.toList ds p := hA0
  rw [Tryd.params4] at hA hval
  obtain ⟨v0, vs0, d0, ds0, p0, q0, hargs, rfl, rfl, h0, r0⟩ := trodAll_cons hA
  obtain ⟨rfl, rfl, rfl⟩ := trodAll_nil r0
  obtain rfl : args = #[v0] := by cases args; simp_all
  obtain ⟨rfl, rfl⟩ := trodVars_none hV
  clear hA0 hval0
  obtain ⟨a0, rfl, hd0, hp0, w0⟩ := open_int Tryd.underlying3 (hval 0 3 v0 rfl rfl) h0
  refine (Calls.mono (R := fun e w' => e = .returned (.bool true) ∧ Below W.heap.size W w') ?_ fun e W' ⟨he, hb⟩ => ?_)
  · exact walk a0 (bounds_i64 w0) W T0
  · subst he
    exact ⟨_, rfl, law.post law.laidOut (by kernel_rfl) rfl rfl Tryd.underlying4 rfl hW' hb⟩

theorem over : Rows.dayNextRow.holds Tryd.pinned (OpenSpec.ofChange Rows.dayNextSpec) :=
  OpenClaim.holds_of_wide 4 Tryd.f4 rfl rfl rfl rfl rfl rfl rfl ⟨rfl, rfl, rfl, rfl, rfl⟩ rfl rfl rfl rfl rfl (by kernel_rfl) Tryd.func4 (by kernel_rfl)
    (of_decide_eq_true (by kernel_rfl)) (by unfold Func.isWrapper; first | (rw [if_pos (by decide +kernel)]; kernel_rfl) | (rw [if_neg (by decide +kernel)]; exact ⟨rfl, rfl⟩))
    (fun os started H enc _ => lifted os started H enc)

theorem proved : Rows.DayNextCardSaid :=
  Claim7.holds_tied_plain_at .later [] _ _ _ _ over (fun _ h => by cases h) (by kernel_rfl) (fun _ h => by cases h) dayNext_row_tie rfl ⟨rfl, rfl⟩ (by kernel_rfl) rfl
    (fun f fn hf hfn => by
      obtain rfl : f = 4 := Option.some.inj ((show Tryd.prog.funcNamed "epact/epactlaw03.DayNext" = some 4 by kernel_rfl).symm.trans hf) |>.symm
      obtain rfl : fn = Tryd.f4 := (Option.some.inj (Tryd.func4.symm.trans hfn)).symm
      exact ⟨by kernel_rfl, fun j t ht => by
        have hall : (Tryd.f4.params.toList.all fun u => !Tryd.prog.wantsStandIn u) = true := by kernel_rfl
        have hm : t ∈ Tryd.f4.params.toList := by rw [Array.mem_toList_iff]; exact Array.mem_of_getElem? ht
        exact (show Tryd.prog.wantsStandIn t = false by simpa using List.all_eq_true.1 hall t hm)⟩)
    (by kernel_rfl)
end Go.Proofs.YtbommemnmnjcdaaDoor.dayNext
