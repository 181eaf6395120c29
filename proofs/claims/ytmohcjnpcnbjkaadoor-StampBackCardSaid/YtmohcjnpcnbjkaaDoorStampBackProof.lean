/-
  Proves that StampBack is true for every two numbers of 64 bits and every text: texts and what they say are each other's. The statement is a tied card: that the listed tables hold what their initialisers lay is tied to the program's text by the given tie. No other condition.
-/
import Derived.Test.YtmohcjnpcnbjkaaDoorStampOrd
import Derived.Test.YtmohcjnpcnbjkaaDoorStampLaid
import Derived.Test.YtmohcjnpcnbjkaaDoorCards
import Derived.Test.YtmohcjnpcnbjkaaDoorTie
import Derived.ChangeMaps5
namespace Go.Proofs.YtmohcjnpcnbjkaaDoor.stampBack
open Go.ChangeShapes Go.WideShapes Go.ChangeAt Go.RowKit
open stamp (Tb text_on text_off parse_on parse_off)
open cal stx
set_option linter.unusedVariables false

/-- what a text says: nothing, or a day and a second. -/
theorem says (t : ByteArray) : (∀ y m d h i x : Int, Vld y m d → Clk h i x → t ≠ txt y m d h i x) ∨ ∃ y m d h i x : Int, Vld y m d ∧ Clk h i x ∧ t = txt y m d h i x := by
  by_cases h : ∃ y m d h i x : Int, Vld y m d ∧ Clk h i x ∧ t = txt y m d h i x
  · exact Or.inr h
  · exact Or.inl fun y m d h' i x v c e => h ⟨y, m, d, h', i, x, v, c, e⟩
set_option maxRecDepth 100000 in
set_option maxHeartbeats 4000000 in
theorem walk (d : Int) (_ : -9223372036854775808 ≤ d ∧ d ≤ 9223372036854775807) (k : Int) (_ : -9223372036854775808 ≤ k ∧ k ≤ 9223372036854775807) (t : ByteArray) (ht : t.size ≤ maxLen) (w : World) (T : Tb w) :
    Calls Tryd.prog 4 #[.int .i64 d, .int .i64 k, .string t] w fun e w' => e = .returned (.bool true) ∧ Below w.heap.size w w' := by
  have S := Lib.hid (fun W hb => stamp.small_true T W hb)
  have B0 : Below w.heap.size w w := Below.refl _ _
  unfold maxLen at ht
  by_cases hs : 200 < t.size
  · clear T
    go_enter Tryd.func4, Tryd.ntmps4
    go_wp2_with (first
      | (go_at_call 8; (with_reducible refine (S.out _ (by assumption)).mono ?_; rintro e w1 ⟨rfl, hb1⟩)))
    go_ret
    exact ⟨rfl, by assumption⟩
  have hs : t.size ≤ 200 := by omega
  by_cases h1 : d < -719162 ∨ 2932896 < d ∨ k < 0 ∨ 86400 < k
  · have A := Lib.hid (fun W hb => text_off T W hb d k h1)
    have hd : (decide (-719162 ≤ d) && decide (d ≤ 2932896) && decide (0 ≤ k) && decide (k ≤ 86400)) = false := by simp; omega
    rcases says t with no | ⟨y, m, x, h, i, s, v, c, rfl⟩
    · have P := Lib.hid (fun W hb => parse_off T W hb t (by omega) no)
      clear T no
      go_enter Tryd.func4, Tryd.ntmps4
      go_wp2_with (first
        | (go_at_call 8; (with_reducible refine (S.out _ (by assumption)).mono ?_; rintro e w1 ⟨rfl, hb1⟩))
        | (go_at_call 13; (with_reducible refine (A.out _ (by assumption)).mono ?_; rintro e w2 ⟨rfl, hb2⟩))
        | (go_at_call 15; (with_reducible refine (P.out _ (by assumption)).mono ?_; rintro e w3 ⟨rfl, hb3⟩)))
      all_goals first
        | (exfalso; simp_all; done)
        | (exfalso; simp_all; omega)
        | (go_ret; exact ⟨day.ret_bool (by first | rfl | (simp; done) | (simp; omega)), by assumption⟩)
    · have P := Lib.hid (fun W hb => parse_on T W hb y m x h i s _ _ v rfl c rfl)
      have A2 := Lib.hid (fun W hb => text_on T W hb y m x h i s _ _ v rfl c rfl)
      generalize txt y m x h i s = X at *
      generalize num y m x = n at *
      generalize secN h i s = j at *
      clear T v c
      go_enter Tryd.func4, Tryd.ntmps4
      go_wp2_with (first
        | (go_at_call 8; (with_reducible refine (S.out _ (by assumption)).mono ?_; rintro e w1 ⟨rfl, hb1⟩))
        | (go_at_call 13; (first | (with_reducible refine (A.out _ (by assumption)).mono ?_; rintro e w2 ⟨rfl, hb2⟩) | (with_reducible refine (A2.out _ (by assumption)).mono ?_; rintro e w3 ⟨rfl, hb3⟩)))
        | (go_at_call 15; (with_reducible refine (P.out _ (by assumption)).mono ?_; rintro e w4 ⟨rfl, hb4⟩)))
      all_goals first
        | (exfalso; simp_all; done)
        | (exfalso; simp_all; omega)
        | (go_ret; exact ⟨day.ret_bool (by first | rfl | (simp; done) | (simp; omega)), by assumption⟩)
  · obtain ⟨y', m', x', v', ev'⟩ := day.exists_date d (by omega) (by omega)
    obtain ⟨h', i', s', c', ec'⟩ := exists_clk k (by omega) (by omega)
    have A := Lib.hid (fun W hb => text_on T W hb y' m' x' h' i' s' d k v' ev' c' ec')
    have P0 := Lib.hid (fun W hb => parse_on T W hb y' m' x' h' i' s' d k v' ev' c' ec')
    have z0 := txt_size y' m' x' h' i' s'
    generalize txt y' m' x' h' i' s' = X0 at *
    have g1 : -719162 ≤ d := by omega
    have g2 : d ≤ 2932896 := by omega
    have g3 : 0 ≤ k := by omega
    have g4 : k ≤ 86400 := by omega
    clear h1 v' ev' c' ec'
    rcases says t with no | ⟨y, m, x, h, i, s, v, c, rfl⟩
    · have P := Lib.hid (fun W hb => parse_off T W hb t (by omega) no)
      clear T no
      go_enter Tryd.func4, Tryd.ntmps4
      go_wp2_with (first
        | (go_at_call 8; (with_reducible refine (S.out _ (by assumption)).mono ?_; rintro e w1 ⟨rfl, hb1⟩))
        | (go_at_call 13; (with_reducible refine (A.out _ (by assumption)).mono ?_; rintro e w2 ⟨rfl, hb2⟩))
        | (go_at_call 15; (first | (with_reducible refine (P0.out _ (by assumption)).mono ?_; rintro e w3 ⟨rfl, hb3⟩) | (with_reducible refine (P.out _ (by assumption)).mono ?_; rintro e w4 ⟨rfl, hb4⟩))))
      all_goals
        go_ret
        exact ⟨day.ret_bool (by first | rfl | (simp; done) | (simp; omega)), by assumption⟩
    · have P := Lib.hid (fun W hb => parse_on T W hb y m x h i s _ _ v rfl c rfl)
      have A2 := Lib.hid (fun W hb => text_on T W hb y m x h i s _ _ v rfl c rfl)
      generalize txt y m x h i s = X at *
      generalize num y m x = n at *
      generalize secN h i s = j at *
      clear T v c
      go_enter Tryd.func4, Tryd.ntmps4
      go_wp2_with (first
        | (go_at_call 8; (with_reducible refine (S.out _ (by assumption)).mono ?_; rintro e w1 ⟨rfl, hb1⟩))
        | (go_at_call 13; (first | (with_reducible refine (A.out _ (by assumption)).mono ?_; rintro e w2 ⟨rfl, hb2⟩) | (with_reducible refine (A2.out _ (by assumption)).mono ?_; rintro e w3 ⟨rfl, hb3⟩)))
        | (go_at_call 15; (first | (with_reducible refine (P0.out _ (by assumption)).mono ?_; rintro e w4 ⟨rfl, hb4⟩) | (with_reducible refine (P.out _ (by assumption)).mono ?_; rintro e w5 ⟨rfl, hb5⟩))))
      all_goals
        go_ret
        exact ⟨day.ret_bool (by first | rfl | (simp; done) | (simp; omega)), by assumption⟩

theorem door_met (os : Os) (args : Array Value) : laidMetH Tryd.prog Rows.stampBackRow.laid ((World.doorLaid Tryd.prog 400 os).forCall (fun _ _ => 0) ⟨#[], args, []⟩).memory :=
  laidMetH_of_parts3 (fuel := 8) (laidMet_of_run' 8 (by kernel_rfl) (by kernel_rfl)) (by kernel_rfl) (by kernel_rfl)
set_option maxRecDepth 100000 in
theorem lifted (os : Os) (started : os.Started) (H : Type) (enc : TypeId × Value → H) :
    ReturnsInHanded {} Tryd.checked os 4 .any (fun w args => (Rows.stampBackSpec.pre enc Tryd.prog Tryd.f4 [] false w args ∧ laidMetH Tryd.prog Rows.stampBackRow.laid w) ∧ sizedMet enc Tryd.prog Tryd.f4 (OpenSpec.ofChange Rows.stampBackSpec) false w args)
      (Rows.stampBackSpec.post enc Tryd.prog Tryd.f4 false true false false) := by
  refine returnsInHanded_of_change_and (C := Tryd.checked) (X := fun w _ => laidMetH Tryd.prog Rows.stampBackRow.laid w) (fun _ _ _ hh h => h.of_heap hh) law.own started (by kernel_rfl) Tryd.func4
    (ChangeSpec.witness_shaped (enc := enc) (C := Tryd.checked) (os := os) (X := fun w _ => laidMetH Tryd.prog Rows.stampBackRow.laid w) false (World.doorLaid Tryd.prog 400 os) #[.int .i64 0, .int .i64 0, .string ByteArray.empty] 8 rfl (World.shaped_of_RefB (by kernel_rfl) (by kernel_rfl)) (by kernel_rfl) (by kernel_rfl) (by kernel_rfl) (door_met os _)) ?_
  intro W base args ds gs before hval0 hW _ _ hL _
  rw [MakeChecks.laidMetH_plain _ _ _ (by kernel_rfl)] at hL
  have T0 := stamp.tb_of hL (by repeat first | exact List.Mem.head _ | refine List.Mem.tail _ ?_) (by repeat first | exact List.Mem.head _ | refine List.Mem.tail _ ?_) (by repeat first | exact List.Mem.head _ | refine List.Mem.tail _ ?_)
  have hval : ∀ (j : Nat) t v, Tryd.f4.params[j]? = some t → args[j]? = some v → Value.okWide Tryd.prog W .any base t v := hval0
  have hW' := hW
  obtain ⟨p, q, hA0, hV, rfl, hfz, hnd⟩ := hW
  have hA : DataW.TrodAll enc Tryd.prog W 0 (fun _ => true) true Tryd.f4.params.toList args.toList ds p := hA0
  rw [Tryd.params4] at hA hval
  obtain ⟨v0, vs0, d0, ds0, p0, q0, hargs, rfl, rfl, h0, r0⟩ := trodAll_cons hA
  obtain ⟨v1, vs1, d1, ds1, p1, q1, rfl, rfl, rfl, h1, r1⟩ := trodAll_cons r0
  obtain ⟨v2, vs2, d2, ds2, p2, q2, rfl, rfl, rfl, h2, r2⟩ := trodAll_cons r1
  obtain ⟨rfl, rfl, rfl⟩ := trodAll_nil r2
  obtain rfl : args = #[v0, v1, v2] := by cases args; simp_all
  obtain ⟨rfl, rfl⟩ := trodVars_none hV
  clear hA0 hval0
  obtain ⟨a0, rfl, hd0, hp0, w0⟩ := open_int Tryd.underlying3 (hval 0 3 v0 rfl rfl) h0
  obtain ⟨a1, rfl, hd1, hp1, w1⟩ := open_int Tryd.underlying3 (hval 1 3 v1 rfl rfl) h1
  obtain ⟨a2, rfl, hd2, hp2, w2⟩ := ChangeMaps.open_string Tryd.underlying9 (hval 2 9 v2 rfl rfl) h2
  refine (Calls.mono (R := fun e w' => e = .returned (.bool true) ∧ Below W.heap.size W w') ?_ fun e W' ⟨he, hb⟩ => ?_)
  · exact walk a0 (bounds_i64 w0) a1 (bounds_i64 w1) a2 w2 W T0
  · subst he
    exact ⟨_, rfl, law.post law.laidOut (by kernel_rfl) rfl rfl Tryd.underlying4 rfl hW' hb⟩

theorem over : Rows.stampBackRow.holds Tryd.pinned (OpenSpec.ofChange Rows.stampBackSpec) :=
  OpenClaim.holds_of_wide 4 Tryd.f4 rfl rfl rfl rfl rfl rfl rfl ⟨rfl, rfl, rfl, rfl, rfl⟩ rfl rfl rfl rfl rfl (by kernel_rfl) Tryd.func4 (by kernel_rfl)
    (of_decide_eq_true (by kernel_rfl)) (by unfold Func.isWrapper; first | (rw [if_pos (by decide +kernel)]; kernel_rfl) | (rw [if_neg (by decide +kernel)]; exact ⟨rfl, rfl⟩))
    (fun os started H enc _ => lifted os started H enc)

theorem proved : Rows.StampBackCardSaid :=
  Claim7.holds_tied_plain_at .later [] _ _ _ _ over (fun _ h => by cases h) (by kernel_rfl) (fun _ h => by cases h) stampBack_row_tie rfl ⟨rfl, rfl⟩ (by kernel_rfl) rfl
    (fun f fn hf hfn => by
      obtain rfl : f = 4 := Option.some.inj ((show Tryd.prog.funcNamed "epact/epactlaw04.StampBack" = some 4 by kernel_rfl).symm.trans hf) |>.symm
      obtain rfl : fn = Tryd.f4 := (Option.some.inj (Tryd.func4.symm.trans hfn)).symm
      exact ⟨by kernel_rfl, fun j t ht => by
        have hall : (Tryd.f4.params.toList.all fun u => !Tryd.prog.wantsStandIn u) = true := by kernel_rfl
        have hm : t ∈ Tryd.f4.params.toList := by rw [Array.mem_toList_iff]; exact Array.mem_of_getElem? ht
        exact (show Tryd.prog.wantsStandIn t = false by simpa using List.all_eq_true.1 hall t hm)⟩)
    (by kernel_rfl)
end Go.Proofs.YtmohcjnpcnbjkaaDoor.stampBack
