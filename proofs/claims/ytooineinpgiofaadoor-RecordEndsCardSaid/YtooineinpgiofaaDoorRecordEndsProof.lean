/-
  RecordEnds: an expiry is no leap, without it all sums are the same, for every right row of records, and every second. Condition: the row's own (the listed tables hold what their initialisers lay; the card ties that).
-/
import Derived.Test.YtooineinpgiofaaDoorRecLaw
import Derived.Test.YtooineinpgiofaaDoorCards
import Derived.Test.YtooineinpgiofaaDoorTie
import Derived.SevenTiedAt
namespace Go.Proofs.YtooineinpgiofaaDoor.recordEnds
open Go.ChangeShapes Go.WideShapes Go.ChangeAt Go.RowKit
open rec rm mem
set_option linter.unusedVariables false
set_option maxRecDepth 100000

theorem last_step {l : List Cr} (h : rm.Ok l) (hx : hasX l = false) (h0 : l.length ≠ 0) : sp l (ra l (l.length - 1)) ≠ 0 := by
  have e := nl_no hx
  have hi : l.length - 1 < nl l := by omega
  rw [(sp_at h hi).2]
  have := h.step hi
  omega
set_option maxHeartbeats 4000000 in
theorem walk (w : World) (l : List Cr) (A : Option Addr) (c : Nat) (h : Crs w A l) (hc : l.length ≤ c) (d : Int) (hd : -9223372036854775808 ≤ d ∧ d ≤ 9223372036854775807) (T : day.Tabs w) :
    Calls Tryd.prog 7 #[.slice A l.length c, .int .i64 d] w fun e w' => e = .returned (.bool true) ∧ Below w.heap.size w w' := by
  have hn := h.1.2
  have hA : Below w.heap.size w w := Below.refl _ _
  have SM : Hid (∀ W, Below w.heap.size w W → Calls Tryd.prog 9 #[] W fun e w' => e = .returned (.bool true) ∧ Below W.heap.size W w') := fun W hb => small_at W (T.below hb)
  have RI : Hid (∀ W, Below w.heap.size w W → Calls Tryd.prog 16 #[.slice A l.length c] W fun e w' => e = .returned (.bool (ew l == 0)) ∧ Below W.heap.size W w') := fun W hb => right_at l A c W (h.below hb)
  by_cases g1 : l.length ≤ 300
  · have t1 : decide (300 < (l.length : Int)) = false := by simp; omega
    by_cases g2 : ew l = 0
    · rw [show (ew l == 0) = true by simpa using g2] at RI
      have hO := ew_ok.1 g2
      have XP : Hid (∀ W, Below w.heap.size w W → Calls Tryd.prog 19 #[.slice A l.length c] W fun e w' => e = .returned (.tuple #[.int .i64 (xat l), .bool (hasX l)]) ∧ Below W.heap.size W w') := fun W hb => expiry_at l A c W (h.below hb)
      cases hx : hasX l
      · rw [hx, show xat l = 0 by unfold xat; rw [hx]; rfl] at XP
        by_cases h0 : l.length = 0
        · have t2 : ((l.length : Int) == 0) = true := by simpa using h0
          clear h T g2 hO
          generalize l.length = n at *
          subst h0
          go_enter Tryd.func7, Tryd.ntmps7
          go_wp2_with (first
            | (go_at_call 9; (with_reducible refine (SM.out _ hA).mono ?_; rintro e w1 ⟨rfl, hb1⟩; have hA := btr hA hb1; (try have y0 := YC.out _ hA); (try obtain ⟨y0, y1, y2⟩ := YL.out _ hA)))
            | (go_at_call 16; (with_reducible refine (RI.out _ hA).mono ?_; rintro e w1 ⟨rfl, hb1⟩; have hA := btr hA hb1; (try have y0 := YC.out _ hA); (try obtain ⟨y0, y1, y2⟩ := YL.out _ hA)))
            | (go_at_call 19; (with_reducible refine (XP.out _ hA).mono ?_; rintro e w1 ⟨rfl, hb1⟩; have hA := btr hA hb1; (try have y0 := YC.out _ hA); (try obtain ⟨y0, y1, y2⟩ := YL.out _ hA))))
          go_ret
          exact ⟨ret_bool (by first | rfl | simp), hA⟩
        · have t2 : ((l.length : Int) == 0) = false := by rw [beq_eq_false_iff_ne]; omega
          have hs := last_step hO hx h0
          have ST : Hid (∀ W, Below w.heap.size w W → Calls Tryd.prog 26 #[.slice A l.length c, .int .i64 (ra l (l.length - 1))] W fun e w' => e = .returned (.int .i64 (sp l (ra l (l.length - 1)))) ∧ Below W.heap.size W w') := fun W hb => step_at l A c _ W (h.below hb) hO hc
          have t3 : (sp l (ra l (l.length - 1)) != 0) = true := by simpa using hs
          have hln : (l.length : Int) - 1 = ((l.length - 1 : Nat) : Int) := by omega
          obtain ⟨b, o, rfl, hb0, hcc⟩ := h.2 h0
          have YC : Hid (∀ W, Below w.heap.size w W → W.cell? ⟨b, o + (l.length - 1) * 2, none⟩ = some (.int .i64 (ra l (l.length - 1)))) := fun W hb => (hb.cell (p := ⟨b, o + (l.length - 1) * 2, none⟩) hb0).trans (hcc _ (by omega)).1
          clear h T g2 hO hs hcc hx
          generalize sp l (ra l (l.length - 1)) = S at *
          generalize ra l (l.length - 1) = D at *
          generalize l.length = n at *
          go_enter Tryd.func7, Tryd.ntmps7
          go_wp2_with (first
            | (go_at_call 9; (with_reducible refine (SM.out _ hA).mono ?_; rintro e w1 ⟨rfl, hb1⟩; have hA := btr hA hb1; (try have y0 := YC.out _ hA); (try obtain ⟨y0, y1, y2⟩ := YL.out _ hA)))
            | (go_at_call 16; (with_reducible refine (RI.out _ hA).mono ?_; rintro e w1 ⟨rfl, hb1⟩; have hA := btr hA hb1; (try have y0 := YC.out _ hA); (try obtain ⟨y0, y1, y2⟩ := YL.out _ hA)))
            | (go_at_call 19; (with_reducible refine (XP.out _ hA).mono ?_; rintro e w1 ⟨rfl, hb1⟩; have hA := btr hA hb1; (try have y0 := YC.out _ hA); (try obtain ⟨y0, y1, y2⟩ := YL.out _ hA)))
            | (go_at_call 26; (with_reducible refine (ST.out _ hA).mono ?_; rintro e w1 ⟨rfl, hb1⟩; have hA := btr hA hb1; (try have y0 := YC.out _ hA); (try obtain ⟨y0, y1, y2⟩ := YL.out _ hA))))
          go_ret
          exact ⟨ret_bool (by first | rfl | simp), hA⟩
      · have hy := nl_yes hx
        have h0 : l.length ≠ 0 := by omega
        have hnl := nl_le l
        have ex : xat l = ra l (nl l) := by unfold xat; rw [hx, if_pos rfl, ← hy, Nat.add_sub_cancel]
        rw [hx, ex] at XP
        have hO2 : rm.Ok (lvs l) := hO.take hnl
        have LV : ∀ W, Below w.heap.size w W → Crs W A (lvs l) := fun W hb => (h.below hb).take (nl l) hnl
        have X2 : Hid (∀ W, Below w.heap.size w W → Calls Tryd.prog 19 #[.slice A (nl l) c] W fun e w' => e = .returned (.tuple #[.int .i64 (xat (lvs l)), .bool false]) ∧ Below W.heap.size W w') := fun W hb => by
          have := expiry_at (lvs l) A c W (LV W hb)
          rw [lvs_len, hasX_lvs hO] at this
          exact this
        have R2 : Hid (∀ W, Below w.heap.size w W → Calls Tryd.prog 16 #[.slice A (nl l) c] W fun e w' => e = .returned (.bool true) ∧ Below W.heap.size W w') := fun W hb => by
          have := right_at (lvs l) A c W (LV W hb)
          rw [lvs_len, show (ew (lvs l) == 0) = true by rw [ew_ok.2 hO2]; rfl] at this
          exact this
        have S1 : Hid (∀ W, Below w.heap.size w W → Calls Tryd.prog 24 #[.slice A l.length c, .int .i64 d] W fun e w' => e = .returned (.int .i64 (rm.sm l d)) ∧ Below W.heap.size W w') := fun W hb => sum_at l A c d W (h.below hb) hO hc
        have S2 : Hid (∀ W, Below w.heap.size w W → Calls Tryd.prog 24 #[.slice A (nl l) c, .int .i64 d] W fun e w' => e = .returned (.int .i64 (rm.sm l d)) ∧ Below W.heap.size W w') := fun W hb => by
          have := sum_at (lvs l) A c d W (LV W hb) hO2 (by rw [lvs_len]; omega)
          rw [lvs_len, sm_lvs hO] at this
          exact this
        have P1 : Hid (∀ W, Below w.heap.size w W → Calls Tryd.prog 26 #[.slice A l.length c, .int .i64 d] W fun e w' => e = .returned (.int .i64 (sp l d)) ∧ Below W.heap.size W w') := fun W hb => step_at l A c d W (h.below hb) hO hc
        have P2 : Hid (∀ W, Below w.heap.size w W → Calls Tryd.prog 26 #[.slice A (nl l) c, .int .i64 d] W fun e w' => e = .returned (.int .i64 (sp l d)) ∧ Below W.heap.size W w') := fun W hb => by
          have := step_at (lvs l) A c d W (LV W hb) hO2 (by rw [lvs_len]; omega)
          rw [lvs_len, sp_lvs hO] at this
          exact this
        have t2 : decide ((l.length : Int) < 1) = false := by simp; omega
        have q := fun W => cutR A l.length c (nl l) (by omega) W
        have hln : (l.length : Int) - 1 = ((nl l : Nat) : Int) := by omega
        obtain ⟨b, o, rfl, hb0, hcc⟩ := h.2 h0
        have YC : Hid (∀ W, Below w.heap.size w W → W.cell? ⟨b, o + nl l * 2, none⟩ = some (.int .i64 (ra l (nl l)))) := fun W hb => (hb.cell (p := ⟨b, o + nl l * 2, none⟩) hb0).trans (hcc _ (by omega)).1
        clear h T g2 hO hcc hx hO2 LV ex
        generalize rm.sm l d = S at *
        generalize sp l d = P at *
        generalize ra l (nl l) = D at *
        generalize xat (lvs l) = X at *
        generalize nl l = m at *
        generalize l.length = n at *
        go_enter Tryd.func7, Tryd.ntmps7
        go_wp2_with (first
          | (go_at_call 9; (with_reducible refine (SM.out _ hA).mono ?_; rintro e w1 ⟨rfl, hb1⟩; have hA := btr hA hb1; (try have y0 := YC.out _ hA); (try obtain ⟨y0, y1, y2⟩ := YL.out _ hA)))
          | (go_at_call 16; (first | (with_reducible refine (RI.out _ hA).mono ?_; rintro e w1 ⟨rfl, hb1⟩; have hA := btr hA hb1; (try have y0 := YC.out _ hA); (try obtain ⟨y0, y1, y2⟩ := YL.out _ hA)) | (with_reducible refine (R2.out _ hA).mono ?_; rintro e w1 ⟨rfl, hb1⟩; have hA := btr hA hb1; (try have y0 := YC.out _ hA); (try obtain ⟨y0, y1, y2⟩ := YL.out _ hA))))
          | (go_at_call 19; (first | (with_reducible refine (XP.out _ hA).mono ?_; rintro e w1 ⟨rfl, hb1⟩; have hA := btr hA hb1; (try have y0 := YC.out _ hA); (try obtain ⟨y0, y1, y2⟩ := YL.out _ hA)) | (with_reducible refine (X2.out _ hA).mono ?_; rintro e w1 ⟨rfl, hb1⟩; have hA := btr hA hb1; (try have y0 := YC.out _ hA); (try obtain ⟨y0, y1, y2⟩ := YL.out _ hA))))
          | (go_at_call 24; (first | (with_reducible refine (S1.out _ hA).mono ?_; rintro e w1 ⟨rfl, hb1⟩; have hA := btr hA hb1; (try have y0 := YC.out _ hA); (try obtain ⟨y0, y1, y2⟩ := YL.out _ hA)) | (with_reducible refine (S2.out _ hA).mono ?_; rintro e w1 ⟨rfl, hb1⟩; have hA := btr hA hb1; (try have y0 := YC.out _ hA); (try obtain ⟨y0, y1, y2⟩ := YL.out _ hA))))
          | (go_at_call 26; (first | (with_reducible refine (P1.out _ hA).mono ?_; rintro e w1 ⟨rfl, hb1⟩; have hA := btr hA hb1; (try have y0 := YC.out _ hA); (try obtain ⟨y0, y1, y2⟩ := YL.out _ hA)) | (with_reducible refine (P2.out _ hA).mono ?_; rintro e w1 ⟨rfl, hb1⟩; have hA := btr hA hb1; (try have y0 := YC.out _ hA); (try obtain ⟨y0, y1, y2⟩ := YL.out _ hA)))))
        go_ret
        exact ⟨ret_bool (by first | rfl | simp), hA⟩
    · rw [show (ew l == 0) = false by simpa using g2] at RI
      clear h T g2
      generalize l.length = n at *
      go_enter Tryd.func7, Tryd.ntmps7
      go_wp2_with (first
        | (go_at_call 9; (with_reducible refine (SM.out _ hA).mono ?_; rintro e w1 ⟨rfl, hb1⟩; have hA := btr hA hb1; (try have y0 := YC.out _ hA); (try obtain ⟨y0, y1, y2⟩ := YL.out _ hA)))
        | (go_at_call 16; (with_reducible refine (RI.out _ hA).mono ?_; rintro e w1 ⟨rfl, hb1⟩; have hA := btr hA hb1; (try have y0 := YC.out _ hA); (try obtain ⟨y0, y1, y2⟩ := YL.out _ hA))))
      go_ret
      exact ⟨rfl, hA⟩
  · have t1 : decide (300 < (l.length : Int)) = true := by simp; omega
    clear h T g1 RI
    generalize l.length = n at *
    go_enter Tryd.func7, Tryd.ntmps7
    go_wp2_with (first
      | (go_at_call 9; (with_reducible refine (SM.out _ hA).mono ?_; rintro e w1 ⟨rfl, hb1⟩; have hA := btr hA hb1; (try have y0 := YC.out _ hA); (try obtain ⟨y0, y1, y2⟩ := YL.out _ hA))))
    go_ret
    exact ⟨rfl, hA⟩
theorem door_met (os : Os) (args : Array Value) : laidMetH Tryd.prog Rows.recordEndsRow.laid ((World.doorLaid Tryd.prog 400 os).forCall (fun _ _ => 0) ⟨#[], args, []⟩).memory :=
  laidMetH_of_parts3 (fuel := 8) (laidMet_of_run' 8 (by kernel_rfl) (by kernel_rfl)) (by kernel_rfl) (by kernel_rfl)
set_option maxRecDepth 100000 in
theorem lifted (os : Os) (started : os.Started) (H : Type) (enc : TypeId × Value → H) :
    ReturnsInHanded {} Tryd.checked os 7 .any (fun w args => (Rows.recordEndsSpec.pre enc Tryd.prog Tryd.f7 [] false w args ∧ laidMetH Tryd.prog Rows.recordEndsRow.laid w) ∧ sizedMet enc Tryd.prog Tryd.f7 (OpenSpec.ofChange Rows.recordEndsSpec) false w args)
      (Rows.recordEndsSpec.post enc Tryd.prog Tryd.f7 false true false false) := by
  refine returnsInHanded_of_change_and (C := Tryd.checked) (X := fun w _ => laidMetH Tryd.prog Rows.recordEndsRow.laid w) (fun _ _ _ hh h => h.of_heap hh) law.own started (by kernel_rfl) Tryd.func7
    (ChangeSpec.witness_shaped (enc := enc) (C := Tryd.checked) (os := os) (X := fun w _ => laidMetH Tryd.prog Rows.recordEndsRow.laid w) false (World.doorLaid Tryd.prog 400 os) #[.slice none 0 0, .int .i64 0] 8 rfl (World.shaped_of_RefB (by kernel_rfl) (by kernel_rfl)) (by kernel_rfl) (by kernel_rfl) (by kernel_rfl) (door_met os _)) ?_
  intro W base args ds gs before hval0 hW _ _ hL _
  rw [MakeChecks.laidMetH_plain _ _ _ (by kernel_rfl)] at hL
  have T0 := day.tabs_of hL (by repeat first | exact List.Mem.head _ | refine List.Mem.tail _ ?_) (by repeat first | exact List.Mem.head _ | refine List.Mem.tail _ ?_)
  have hval : ∀ (j : Nat) t v, Tryd.f7.params[j]? = some t → args[j]? = some v → Value.okWide Tryd.prog W .any base t v := hval0
  have hW' := hW
  obtain ⟨p, q, hA0, hV, rfl, hfz, hnd⟩ := hW
  have hA : DataW.TrodAll enc Tryd.prog W 0 (fun _ => true) true Tryd.f7.params.toList args.toList ds p := hA0
  rw [Tryd.params7] at hA hval
  obtain ⟨v0, vs0, d0, ds0, p0, q0, hargs, rfl, rfl, h0, r0⟩ := trodAll_cons hA
  obtain ⟨v1, vs1, d1, ds1, p1, q1, rfl, rfl, rfl, h1, r1⟩ := trodAll_cons r0
  obtain ⟨rfl, rfl, rfl⟩ := trodAll_nil r1
  obtain rfl : args = #[v0, v1] := by cases args; simp_all
  obtain ⟨rfl, rfl⟩ := trodVars_none hV
  clear hA0 hval0
  obtain ⟨A0_, k0_, l0_, rfl, q0_, n0_⟩ := rec.open_corrs (hval 0 25 v0 rfl rfl) h0
  obtain ⟨a1, rfl, hd1, hp1, w1⟩ := open_int Tryd.underlying3 (hval 1 3 v1 rfl rfl) h1
  refine (Calls.mono (R := fun e w' => e = .returned (.bool true) ∧ Below W.heap.size W w') ?_ fun e W' ⟨he, hb⟩ => ?_)
  · exact walk W l0_ A0_ k0_ q0_ n0_ a1 (bounds_i64 w1) T0
  · subst he
    exact ⟨_, rfl, law.post law.laidOut (by kernel_rfl) rfl rfl Tryd.underlying4 rfl hW' hb⟩

theorem over : Rows.recordEndsRow.holds Tryd.pinned (OpenSpec.ofChange Rows.recordEndsSpec) :=
  OpenClaim.holds_of_wide 7 Tryd.f7 rfl rfl rfl rfl rfl rfl rfl ⟨rfl, rfl, rfl, rfl, rfl⟩ rfl rfl rfl rfl rfl (by kernel_rfl) Tryd.func7 (by kernel_rfl)
    (of_decide_eq_true (by kernel_rfl)) (by unfold Func.isWrapper; first | (rw [if_pos (by decide +kernel)]; kernel_rfl) | (rw [if_neg (by decide +kernel)]; exact ⟨rfl, rfl⟩))
    (fun os started H enc _ => lifted os started H enc)

theorem proved : Rows.RecordEndsCardSaid :=
  Claim7.holds_tied_plain_at .later [] _ _ _ _ over (fun _ h => by cases h) (by kernel_rfl) (fun _ h => by cases h) recordEnds_row_tie rfl ⟨rfl, rfl⟩ (by kernel_rfl) rfl
    (fun f fn hf hfn => by
      obtain rfl : f = 7 := Option.some.inj ((show Tryd.prog.funcNamed "epact/epactlaw12.RecordEnds" = some 7 by kernel_rfl).symm.trans hf) |>.symm
      obtain rfl : fn = Tryd.f7 := (Option.some.inj (Tryd.func7.symm.trans hfn)).symm
      exact ⟨by kernel_rfl, fun j t ht => by
        have hall : (Tryd.f7.params.toList.all fun u => !Tryd.prog.wantsStandIn u) = true := by kernel_rfl
        have hm : t ∈ Tryd.f7.params.toList := by rw [Array.mem_toList_iff]; exact Array.mem_of_getElem? ht
        exact (show Tryd.prog.wantsStandIn t = false by simpa using List.all_eq_true.1 hall t hm)⟩)
    (by kernel_rfl)
end Go.Proofs.YtooineinpgiofaaDoor.recordEnds
