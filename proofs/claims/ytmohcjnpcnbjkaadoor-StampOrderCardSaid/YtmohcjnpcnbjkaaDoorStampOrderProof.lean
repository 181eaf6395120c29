/-
  Proves that StampOrder is true for every two days and every two seconds, numbers of 64 bits: later seconds have greater texts. The statement is a tied card: that the listed tables hold what their initialisers lay is tied to the program's text by the given tie. No other condition.
-/
import Derived.Test.YtmohcjnpcnbjkaaDoorStampOrd
import Derived.Test.YtmohcjnpcnbjkaaDoorStampLaid
import Derived.Test.YtmohcjnpcnbjkaaDoorCards
import Derived.Test.YtmohcjnpcnbjkaaDoorTie
import Derived.Laws.Cover1
namespace Go.Proofs.YtmohcjnpcnbjkaaDoor.stampOrder
open Go.ChangeShapes Go.WideShapes Go.ChangeAt Go.RowKit
open stamp (Tb text_on text_off)
open cal stx
set_option linter.unusedVariables false

theorem three (d k e l : Int) : (e < d ∨ e = d ∧ l < k) ∨ (e = d ∧ l = k) ∨ (d < e ∨ e = d ∧ k < l) := by omega
set_option maxRecDepth 100000 in
set_option maxHeartbeats 4000000 in
theorem walk (d : Int) (_ : -9223372036854775808 ≤ d ∧ d ≤ 9223372036854775807) (k : Int) (_ : -9223372036854775808 ≤ k ∧ k ≤ 9223372036854775807) (e : Int) (_ : -9223372036854775808 ≤ e ∧ e ≤ 9223372036854775807) (l : Int) (_ : -9223372036854775808 ≤ l ∧ l ≤ 9223372036854775807) (w : World) (T : Tb w) :
    Calls Tryd.prog 6 #[.int .i64 d, .int .i64 k, .int .i64 e, .int .i64 l] w fun e w' => e = .returned (.bool true) ∧ Below w.heap.size w w' := by
  have S := Lib.hid (fun W hb => stamp.small_true T W hb)
  have B0 : Below w.heap.size w w := Below.refl _ _
  by_cases h1 : d < -719162 ∨ 2932896 < d ∨ k < 0 ∨ 86400 < k
  · have A := Lib.hid (fun W hb => text_off T W hb d k h1)
    by_cases h2 : e < -719162 ∨ 2932896 < e ∨ l < 0 ∨ 86400 < l
    · have C := Lib.hid (fun W hb => text_off T W hb e l h2)
      clear T h1 h2
      go_enter Tryd.func6, Tryd.ntmps6
      go_wp2_with (first
        | (go_at_call 8; (with_reducible refine (S.out _ (by assumption)).mono ?_; rintro e w1 ⟨rfl, hb1⟩))
        | (go_at_call 13; (first | (with_reducible refine (A.out _ (by assumption)).mono ?_; rintro e w2 ⟨rfl, hb2⟩) | (with_reducible refine (C.out _ (by assumption)).mono ?_; rintro e w3 ⟨rfl, hb3⟩))))
      go_ret
      exact ⟨rfl, by assumption⟩
    · obtain ⟨y, m, x, v, ev⟩ := day.exists_date e (by omega) (by omega)
      obtain ⟨h, i, s, c, ec⟩ := exists_clk l (by omega) (by omega)
      have C := Lib.hid (fun W hb => text_on T W hb y m x h i s e l v ev c ec)
      generalize txt y m x h i s = Z at *
      clear T h1 h2 v ev c ec
      go_enter Tryd.func6, Tryd.ntmps6
      go_wp2_with (first
        | (go_at_call 8; (with_reducible refine (S.out _ (by assumption)).mono ?_; rintro e w1 ⟨rfl, hb1⟩))
        | (go_at_call 13; (first | (with_reducible refine (A.out _ (by assumption)).mono ?_; rintro e w2 ⟨rfl, hb2⟩) | (with_reducible refine (C.out _ (by assumption)).mono ?_; rintro e w3 ⟨rfl, hb3⟩))))
      go_ret
      exact ⟨rfl, by assumption⟩
  · obtain ⟨y, m, x, v, ev⟩ := day.exists_date d (by omega) (by omega)
    obtain ⟨h, i, s, c, ec⟩ := exists_clk k (by omega) (by omega)
    have A := Lib.hid (fun W hb => text_on T W hb y m x h i s d k v ev c ec)
    by_cases h2 : e < -719162 ∨ 2932896 < e ∨ l < 0 ∨ 86400 < l
    · have C := Lib.hid (fun W hb => text_off T W hb e l h2)
      generalize txt y m x h i s = Z at *
      clear T h1 h2 v ev c ec
      go_enter Tryd.func6, Tryd.ntmps6
      go_wp2_with (first
        | (go_at_call 8; (with_reducible refine (S.out _ (by assumption)).mono ?_; rintro e w1 ⟨rfl, hb1⟩))
        | (go_at_call 13; (first | (with_reducible refine (A.out _ (by assumption)).mono ?_; rintro e w2 ⟨rfl, hb2⟩) | (with_reducible refine (C.out _ (by assumption)).mono ?_; rintro e w3 ⟨rfl, hb3⟩))))
      go_ret
      exact ⟨rfl, by assumption⟩
    · obtain ⟨y', m', x', v', ev'⟩ := day.exists_date e (by omega) (by omega)
      obtain ⟨h', i', s', c', ec'⟩ := exists_clk l (by omega) (by omega)
      have C := Lib.hid (fun W hb => text_on T W hb y' m' x' h' i' s' e l v' ev' c' ec')
      have L := text_less v' c' v c
      have E := text_eq v' c' v c
      have Q := beq_text (txt y' m' x' h' i' s') (txt y m x h i s)
      rw [ev, ev', ec, ec'] at L E
      generalize txt y m x h i s = X at *
      generalize txt y' m' x' h' i' s' = Z at *
      clear T h1 h2 v ev c ec v' ev' c' ec'
      rcases three d k e l with q | q | q
      · have t1 : Op.bytesLess Z.toList X.toList = true := L.2 q
        have t2 : (Z.toList == X.toList) = false := by rw [Q, decide_eq_false_iff_not, E]; omega
        clear L E Q
        go_enter Tryd.func6, Tryd.ntmps6
        go_wp2_with (first
          | (go_at_call 8; (with_reducible refine (S.out _ (by assumption)).mono ?_; rintro e w1 ⟨rfl, hb1⟩))
          | (go_at_call 13; (first | (with_reducible refine (A.out _ (by assumption)).mono ?_; rintro e w2 ⟨rfl, hb2⟩) | (with_reducible refine (C.out _ (by assumption)).mono ?_; rintro e w3 ⟨rfl, hb3⟩))))
        all_goals
          go_ret
          exact ⟨day.ret_bool (by first | rfl | (simp; done) | (simp; omega)), by assumption⟩
      · have t1 : Op.bytesLess Z.toList X.toList = false := by rw [Bool.eq_false_iff]; intro k; rw [L] at k; omega
        have t2 : (Z.toList == X.toList) = true := by rw [Q, decide_eq_true_eq, E]; omega
        obtain ⟨rfl, rfl⟩ := q
        clear L E Q
        go_enter Tryd.func6, Tryd.ntmps6
        go_wp2_with (first
          | (go_at_call 8; (with_reducible refine (S.out _ (by assumption)).mono ?_; rintro e w1 ⟨rfl, hb1⟩))
          | (go_at_call 13; (first | (with_reducible refine (A.out _ (by assumption)).mono ?_; rintro e w2 ⟨rfl, hb2⟩) | (with_reducible refine (C.out _ (by assumption)).mono ?_; rintro e w3 ⟨rfl, hb3⟩))))
        all_goals
          go_ret
          exact ⟨day.ret_bool (by first | rfl | (simp; done) | (simp; omega)), by assumption⟩
      · have t1 : Op.bytesLess Z.toList X.toList = false := by rw [Bool.eq_false_iff]; intro k; rw [L] at k; omega
        have t2 : (Z.toList == X.toList) = false := by rw [Q, decide_eq_false_iff_not, E]; omega
        clear L E Q
        go_enter Tryd.func6, Tryd.ntmps6
        go_wp2_with (first
          | (go_at_call 8; (with_reducible refine (S.out _ (by assumption)).mono ?_; rintro e w1 ⟨rfl, hb1⟩))
          | (go_at_call 13; (first | (with_reducible refine (A.out _ (by assumption)).mono ?_; rintro e w2 ⟨rfl, hb2⟩) | (with_reducible refine (C.out _ (by assumption)).mono ?_; rintro e w3 ⟨rfl, hb3⟩))))
        all_goals
          go_ret
          exact ⟨day.ret_bool (by first | rfl | (simp; done) | (simp; omega)), by assumption⟩

theorem door_met (os : Os) (args : Array Value) : laidMetH Tryd.prog Rows.stampOrderRow.laid ((World.doorLaid Tryd.prog 400 os).forCall (fun _ _ => 0) ⟨#[], args, []⟩).memory :=
  laidMetH_of_parts3 (fuel := 8) (laidMet_of_run' 8 (by kernel_rfl) (by kernel_rfl)) (by kernel_rfl) (by kernel_rfl)
set_option maxRecDepth 100000 in
theorem lifted (os : Os) (started : os.Started) (H : Type) (enc : TypeId × Value → H) :
    ReturnsInHanded {} Tryd.checked os 6 .any (fun w args => (Rows.stampOrderSpec.pre enc Tryd.prog Tryd.f6 [] false w args ∧ laidMetH Tryd.prog Rows.stampOrderRow.laid w) ∧ sizedMet enc Tryd.prog Tryd.f6 (OpenSpec.ofChange Rows.stampOrderSpec) false w args)
      (Rows.stampOrderSpec.post enc Tryd.prog Tryd.f6 false true false false) := by
  refine returnsInHanded_of_change_and (C := Tryd.checked) (X := fun w _ => laidMetH Tryd.prog Rows.stampOrderRow.laid w) (fun _ _ _ hh h => h.of_heap hh) law.own started (by kernel_rfl) Tryd.func6
    (ChangeSpec.witness_shaped (enc := enc) (C := Tryd.checked) (os := os) (X := fun w _ => laidMetH Tryd.prog Rows.stampOrderRow.laid w) false (World.doorLaid Tryd.prog 400 os) #[.int .i64 0, .int .i64 0, .int .i64 0, .int .i64 0] 8 rfl (World.shaped_of_RefB (by kernel_rfl) (by kernel_rfl)) (by kernel_rfl) (by kernel_rfl) (by kernel_rfl) (door_met os _)) ?_
  intro W base args ds gs before hval0 hW _ _ hL _
  rw [MakeChecks.laidMetH_plain _ _ _ (by kernel_rfl)] at hL
  have T0 := stamp.tb_of hL (by repeat first | exact List.Mem.head _ | refine List.Mem.tail _ ?_) (by repeat first | exact List.Mem.head _ | refine List.Mem.tail _ ?_) (by repeat first | exact List.Mem.head _ | refine List.Mem.tail _ ?_)
  have hval : ∀ (j : Nat) t v, Tryd.f6.params[j]? = some t → args[j]? = some v → Value.okWide Tryd.prog W .any base t v := hval0
  have hW' := hW
  obtain ⟨p, q, hA0, hV, rfl, hfz, hnd⟩ := hW
  have hA : DataW.TrodAll enc Tryd.prog W 0 (fun _ => true) true Tryd.f6.params.toList args.toList ds p := hA0
  rw [Tryd.params6] at hA hval
  obtain ⟨v0, vs0, d0, ds0, p0, q0, hargs, rfl, rfl, h0, r0⟩ := trodAll_cons hA
  obtain ⟨v1, vs1, d1, ds1, p1, q1, rfl, rfl, rfl, h1, r1⟩ := trodAll_cons r0
  obtain ⟨v2, vs2, d2, ds2, p2, q2, rfl, rfl, rfl, h2, r2⟩ := trodAll_cons r1
  obtain ⟨v3, vs3, d3, ds3, p3, q3, rfl, rfl, rfl, h3, r3⟩ := trodAll_cons r2
  obtain ⟨rfl, rfl, rfl⟩ := trodAll_nil r3
  obtain rfl : args = #[v0, v1, v2, v3] := by cases args; simp_all
  obtain ⟨rfl, rfl⟩ := trodVars_none hV
  clear hA0 hval0
  obtain ⟨a0, rfl, hd0, hp0, w0⟩ := open_int Tryd.underlying3 (hval 0 3 v0 rfl rfl) h0
  obtain ⟨a1, rfl, hd1, hp1, w1⟩ := open_int Tryd.underlying3 (hval 1 3 v1 rfl rfl) h1
  obtain ⟨a2, rfl, hd2, hp2, w2⟩ := open_int Tryd.underlying3 (hval 2 3 v2 rfl rfl) h2
  obtain ⟨a3, rfl, hd3, hp3, w3⟩ := open_int Tryd.underlying3 (hval 3 3 v3 rfl rfl) h3
  refine (Calls.mono (R := fun e w' => e = .returned (.bool true) ∧ Below W.heap.size W w') ?_ fun e W' ⟨he, hb⟩ => ?_)
  · exact walk a0 (bounds_i64 w0) a1 (bounds_i64 w1) a2 (bounds_i64 w2) a3 (bounds_i64 w3) W T0
  · subst he
    exact ⟨_, rfl, law.post law.laidOut (by kernel_rfl) rfl rfl Tryd.underlying4 rfl hW' hb⟩

theorem over : Rows.stampOrderRow.holds Tryd.pinned (OpenSpec.ofChange Rows.stampOrderSpec) :=
  OpenClaim.holds_of_wide 6 Tryd.f6 rfl rfl rfl rfl rfl rfl rfl ⟨rfl, rfl, rfl, rfl, rfl⟩ rfl rfl rfl rfl rfl (by kernel_rfl) Tryd.func6 (by kernel_rfl)
    (of_decide_eq_true (by kernel_rfl)) (by unfold Func.isWrapper; first | (rw [if_pos (by decide +kernel)]; kernel_rfl) | (rw [if_neg (by decide +kernel)]; exact ⟨rfl, rfl⟩))
    (fun os started H enc _ => lifted os started H enc)

theorem proved : Rows.StampOrderCardSaid :=
  Claim7.holds_tied_plain_at .later [] _ _ _ _ over (fun _ h => by cases h) (by kernel_rfl) (fun _ h => by cases h) stampOrder_row_tie rfl ⟨rfl, rfl⟩ (by kernel_rfl) rfl
    (fun f fn hf hfn => by
      obtain rfl : f = 6 := Option.some.inj ((show Tryd.prog.funcNamed "epact/epactlaw04.StampOrder" = some 6 by kernel_rfl).symm.trans hf) |>.symm
      obtain rfl : fn = Tryd.f6 := (Option.some.inj (Tryd.func6.symm.trans hfn)).symm
      exact ⟨by kernel_rfl, fun j t ht => by
        have hall : (Tryd.f6.params.toList.all fun u => !Tryd.prog.wantsStandIn u) = true := by kernel_rfl
        have hm : t ∈ Tryd.f6.params.toList := by rw [Array.mem_toList_iff]; exact Array.mem_of_getElem? ht
        exact (show Tryd.prog.wantsStandIn t = false by simpa using List.all_eq_true.1 hall t hm)⟩)
    (by kernel_rfl)
end Go.Proofs.YtmohcjnpcnbjkaaDoor.stampOrder
