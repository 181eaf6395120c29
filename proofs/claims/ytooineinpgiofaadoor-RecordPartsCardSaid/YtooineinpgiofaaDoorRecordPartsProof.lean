/-
  RecordParts: the beginnings of right records are right, and what is wrong of a beginning is wrong of the whole, but of an expiry, for every row of records, cut anywhere. Condition: the row's own (the listed tables hold what their initialisers lay; the card ties that).
-/
import Derived.Test.YtooineinpgiofaaDoorRecLaw
import Derived.Test.YtooineinpgiofaaDoorCards
import Derived.Test.YtooineinpgiofaaDoorTie
import Derived.SevenTiedAt
namespace Go.Proofs.YtooineinpgiofaaDoor.recordParts
open Go.ChangeShapes Go.WideShapes Go.ChangeAt Go.RowKit
open rec rm mem
set_option linter.unusedVariables false
set_option maxRecDepth 100000

set_option maxHeartbeats 4000000 in
theorem walk (w : World) (l : List Cr) (A : Option Addr) (c : Nat) (h : Crs w A l) (hc : l.length ≤ c) (p : Int) (hp : -9223372036854775808 ≤ p ∧ p ≤ 9223372036854775807) (T : day.Tabs w) :
    Calls Tryd.prog 8 #[.slice A l.length c, .int .i64 p] w fun e w' => e = .returned (.bool true) ∧ Below w.heap.size w w' := by
  have hn := h.1.2
  have hA : Below w.heap.size w w := Below.refl _ _
  have SM : Hid (∀ W, Below w.heap.size w W → Calls Tryd.prog 9 #[] W fun e w' => e = .returned (.bool true) ∧ Below W.heap.size W w') := fun W hb => small_at W (T.below hb)
  by_cases g1 : l.length ≤ 300
  · have t1 : decide (300 < (l.length : Int)) = false := by simp; omega
    by_cases g2 : p < 0
    · have t : decide (p < 0) = true := by simpa using g2
      clear h T g2
      generalize l.length = n at *
      go_enter Tryd.func8, Tryd.ntmps8
      go_wp2_with (first
        | (go_at_call 9; (with_reducible refine (SM.out _ hA).mono ?_; rintro e w1 ⟨rfl, hb1⟩; have hA := btr hA hb1; (try have y0 := YC.out _ hA); (try obtain ⟨y0, y1, y2⟩ := YL.out _ hA))))
      go_ret
      exact ⟨rfl, hA⟩
    · have t : decide (p < 0) = false := by simp; omega
      by_cases g3 : (l.length : Int) < p
      · have t2 : decide ((l.length : Int) < p) = true := by simpa using g3
        clear h T
        generalize l.length = n at *
        go_enter Tryd.func8, Tryd.ntmps8
        go_wp2_with (first
          | (go_at_call 9; (with_reducible refine (SM.out _ hA).mono ?_; rintro e w1 ⟨rfl, hb1⟩; have hA := btr hA hb1; (try have y0 := YC.out _ hA); (try obtain ⟨y0, y1, y2⟩ := YL.out _ hA))))
        go_ret
        exact ⟨rfl, hA⟩
      · have t2 : decide ((l.length : Int) < p) = false := by simp; omega
        obtain ⟨k, rfl⟩ : ∃ k : Nat, p = (k : Nat) := ⟨p.toNat, by omega⟩
        have hk : k ≤ l.length := by omega
        have hkl : (l.take k).length = k := by simp; omega
        have t3 : decide (l.length < k) = false := by simp; omega
        have q := fun W => cutR A l.length c k (by omega) W
        have CA : Hid (∀ W, Below w.heap.size w W → Calls Tryd.prog 13 #[.slice A l.length c] W fun e w' => e = .returned (.tuple #[.int .i64 (pw l : Nat), .int .i64 (ew l)]) ∧ Below W.heap.size W w') := fun W hb => check_at l A c W (h.below hb)
        have CP : Hid (∀ W, Below w.heap.size w W → Calls Tryd.prog 13 #[.slice A k c] W fun e w' => e = .returned (.tuple #[.int .i64 (pw (l.take k) : Nat), .int .i64 (ew (l.take k))]) ∧ Below W.heap.size W w') := fun W hb => by
          have := check_at (l.take k) A c W ((h.below hb).take k hk)
          unfold Checked at this
          rw [hkl] at this
          exact this
        clear h T
        by_cases h2 : ew l = 0
        · obtain ⟨e1, e2, e3⟩ := part_yes hk h2
          rw [h2, e1] at CA
          rw [e2, e3] at CP
          clear e1 e2 e3 h2
          generalize l.length = n at *
          go_enter Tryd.func8, Tryd.ntmps8
          go_wp2_with (first
            | (go_at_call 9; (with_reducible refine (SM.out _ hA).mono ?_; rintro e w1 ⟨rfl, hb1⟩; have hA := btr hA hb1; (try have y0 := YC.out _ hA); (try obtain ⟨y0, y1, y2⟩ := YL.out _ hA)))
            | (go_at_call 13; (first | (with_reducible refine (CA.out _ hA).mono ?_; rintro e w1 ⟨rfl, hb1⟩; have hA := btr hA hb1; (try have y0 := YC.out _ hA); (try obtain ⟨y0, y1, y2⟩ := YL.out _ hA)) | (with_reducible refine (CP.out _ hA).mono ?_; rintro e w1 ⟨rfl, hb1⟩; have hA := btr hA hb1; (try have y0 := YC.out _ hA); (try obtain ⟨y0, y1, y2⟩ := YL.out _ hA)))))
          go_ret
          exact ⟨ret_bool (by first | rfl | simp), hA⟩
        · have s2 : (ew l == 0) = false := by simpa using h2
          by_cases h1 : ew (l.take k) = 0
          · obtain ⟨e1, e2⟩ := part_half hk h1
            have s4 : decide ((k : Int) - 1 ≤ (pw l : Int)) = true := by simp; omega
            rw [h1, e1] at CP
            clear h1 e1 h2
            generalize ew l = E at *
            generalize pw l = P at *
            generalize l.length = n at *
            go_enter Tryd.func8, Tryd.ntmps8
            go_wp2_with (first
              | (go_at_call 9; (with_reducible refine (SM.out _ hA).mono ?_; rintro e w1 ⟨rfl, hb1⟩; have hA := btr hA hb1; (try have y0 := YC.out _ hA); (try obtain ⟨y0, y1, y2⟩ := YL.out _ hA)))
              | (go_at_call 13; (first | (with_reducible refine (CA.out _ hA).mono ?_; rintro e w1 ⟨rfl, hb1⟩; have hA := btr hA hb1; (try have y0 := YC.out _ hA); (try obtain ⟨y0, y1, y2⟩ := YL.out _ hA)) | (with_reducible refine (CP.out _ hA).mono ?_; rintro e w1 ⟨rfl, hb1⟩; have hA := btr hA hb1; (try have y0 := YC.out _ hA); (try obtain ⟨y0, y1, y2⟩ := YL.out _ hA)))))
            go_ret
            exact ⟨ret_bool (by first | rfl | simp), hA⟩
          · obtain ⟨e1, e2⟩ := part_no hk h1
            have s3 : (ew (l.take k) != 0) = true := by simpa using h1
            have s4 : decide ((pw (l.take k) : Int) < (k : Int)) = true := by simp; omega
            have s5 : decide ((pw l : Int) ≤ (pw (l.take k) : Int)) = true := by simp; omega
            have s6 : decide (pw (l.take k) < k) = true := by simp; omega
            have s7 : decide (pw l ≤ pw (l.take k)) = true := by simp; omega
            clear h1 e1 e2 h2
            generalize ew (l.take k) = E2 at *
            generalize pw (l.take k) = P2 at *
            generalize ew l = E at *
            generalize pw l = P at *
            generalize l.length = n at *
            go_enter Tryd.func8, Tryd.ntmps8
            go_wp2_with (first
              | (go_at_call 9; (with_reducible refine (SM.out _ hA).mono ?_; rintro e w1 ⟨rfl, hb1⟩; have hA := btr hA hb1; (try have y0 := YC.out _ hA); (try obtain ⟨y0, y1, y2⟩ := YL.out _ hA)))
              | (go_at_call 13; (first | (with_reducible refine (CA.out _ hA).mono ?_; rintro e w1 ⟨rfl, hb1⟩; have hA := btr hA hb1; (try have y0 := YC.out _ hA); (try obtain ⟨y0, y1, y2⟩ := YL.out _ hA)) | (with_reducible refine (CP.out _ hA).mono ?_; rintro e w1 ⟨rfl, hb1⟩; have hA := btr hA hb1; (try have y0 := YC.out _ hA); (try obtain ⟨y0, y1, y2⟩ := YL.out _ hA)))))
            go_ret
            exact ⟨ret_bool (by first | rfl | simp), hA⟩
  · have t1 : decide (300 < (l.length : Int)) = true := by simp; omega
    clear h T g1
    generalize l.length = n at *
    go_enter Tryd.func8, Tryd.ntmps8
    go_wp2_with (first
      | (go_at_call 9; (with_reducible refine (SM.out _ hA).mono ?_; rintro e w1 ⟨rfl, hb1⟩; have hA := btr hA hb1; (try have y0 := YC.out _ hA); (try obtain ⟨y0, y1, y2⟩ := YL.out _ hA))))
    go_ret
    exact ⟨rfl, hA⟩
theorem door_met (os : Os) (args : Array Value) : laidMetH Tryd.prog Rows.recordPartsRow.laid ((World.doorLaid Tryd.prog 400 os).forCall (fun _ _ => 0) ⟨#[], args, []⟩).memory :=
  laidMetH_of_parts3 (fuel := 8) (laidMet_of_run' 8 (by kernel_rfl) (by kernel_rfl)) (by kernel_rfl) (by kernel_rfl)
set_option maxRecDepth 100000 in
theorem lifted (os : Os) (started : os.Started) (H : Type) (enc : TypeId × Value → H) :
    ReturnsInHanded {} Tryd.checked os 8 .any (fun w args => (Rows.recordPartsSpec.pre enc Tryd.prog Tryd.f8 [] false w args ∧ laidMetH Tryd.prog Rows.recordPartsRow.laid w) ∧ sizedMet enc Tryd.prog Tryd.f8 (OpenSpec.ofChange Rows.recordPartsSpec) false w args)
      (Rows.recordPartsSpec.post enc Tryd.prog Tryd.f8 false true false false) := by
  refine returnsInHanded_of_change_and (C := Tryd.checked) (X := fun w _ => laidMetH Tryd.prog Rows.recordPartsRow.laid w) (fun _ _ _ hh h => h.of_heap hh) law.own started (by kernel_rfl) Tryd.func8
    (ChangeSpec.witness_shaped (enc := enc) (C := Tryd.checked) (os := os) (X := fun w _ => laidMetH Tryd.prog Rows.recordPartsRow.laid w) false (World.doorLaid Tryd.prog 400 os) #[.slice none 0 0, .int .i64 0] 8 rfl (World.shaped_of_RefB (by kernel_rfl) (by kernel_rfl)) (by kernel_rfl) (by kernel_rfl) (by kernel_rfl) (door_met os _)) ?_
  intro W base args ds gs before hval0 hW _ _ hL _
  rw [MakeChecks.laidMetH_plain _ _ _ (by kernel_rfl)] at hL
  have T0 := day.tabs_of hL (by repeat first | exact List.Mem.head _ | refine List.Mem.tail _ ?_) (by repeat first | exact List.Mem.head _ | refine List.Mem.tail _ ?_)
  have hval : ∀ (j : Nat) t v, Tryd.f8.params[j]? = some t → args[j]? = some v → Value.okWide Tryd.prog W .any base t v := hval0
  have hW' := hW
  obtain ⟨p, q, hA0, hV, rfl, hfz, hnd⟩ := hW
  have hA : DataW.TrodAll enc Tryd.prog W 0 (fun _ => true) true Tryd.f8.params.toList args.toList ds p := hA0
  rw [Tryd.params8] at hA hval
  obtain ⟨v0, vs0, d0, ds0, p0, q0, hargs, rfl, rfl, h0, r0⟩ := trodAll_cons hA
  obtain ⟨v1, vs1, d1, ds1, p1, q1, rfl, rfl, rfl, h1, r1⟩ := trodAll_cons r0
  obtain ⟨rfl, rfl, rfl⟩ := trodAll_nil r1
  obtain rfl : args = #[v0, v1] := by cases args; simp_all
  obtain ⟨rfl, rfl⟩ := trodVars_none hV
  clear hA0 hval0
  obtain ⟨A0_, k0_, l0_, rfl, q0_, n0_⟩ := rec.open_corrs (hval 0 25 v0 rfl rfl) h0
  obtain ⟨a1, rfl, hd1, hp1, w1⟩ := open_int Tryd.underlying3 (hval 1 3 v1 rfl rfl) h1
  refine (Calls.mono (R := fun e w' => e = .returned (.bool true) ∧ Below W.heap.size W w') ?_ fun e W' ⟨he, hb⟩ => ?_)
  · exact walk W l0_ A0_ k0_ q0_ n0_ a1 (bounds_i64 w1) T0
  · subst he
    exact ⟨_, rfl, law.post law.laidOut (by kernel_rfl) rfl rfl Tryd.underlying4 rfl hW' hb⟩

theorem over : Rows.recordPartsRow.holds Tryd.pinned (OpenSpec.ofChange Rows.recordPartsSpec) :=
  OpenClaim.holds_of_wide 8 Tryd.f8 rfl rfl rfl rfl rfl rfl rfl ⟨rfl, rfl, rfl, rfl, rfl⟩ rfl rfl rfl rfl rfl (by kernel_rfl) Tryd.func8 (by kernel_rfl)
    (of_decide_eq_true (by kernel_rfl)) (by unfold Func.isWrapper; first | (rw [if_pos (by decide +kernel)]; kernel_rfl) | (rw [if_neg (by decide +kernel)]; exact ⟨rfl, rfl⟩))
    (fun os started H enc _ => lifted os started H enc)

theorem proved : Rows.RecordPartsCardSaid :=
  Claim7.holds_tied_plain_at .later [] _ _ _ _ over (fun _ h => by cases h) (by kernel_rfl) (fun _ h => by cases h) recordParts_row_tie rfl ⟨rfl, rfl⟩ (by kernel_rfl) rfl
    (fun f fn hf hfn => by
      obtain rfl : f = 8 := Option.some.inj ((show Tryd.prog.funcNamed "epact/epactlaw12.RecordParts" = some 8 by kernel_rfl).symm.trans hf) |>.symm
      obtain rfl : fn = Tryd.f8 := (Option.some.inj (Tryd.func8.symm.trans hfn)).symm
      exact ⟨by kernel_rfl, fun j t ht => by
        have hall : (Tryd.f8.params.toList.all fun u => !Tryd.prog.wantsStandIn u) = true := by kernel_rfl
        have hm : t ∈ Tryd.f8.params.toList := by rw [Array.mem_toList_iff]; exact Array.mem_of_getElem? ht
        exact (show Tryd.prog.wantsStandIn t = false by simpa using List.all_eq_true.1 hall t hm)⟩)
    (by kernel_rfl)
end Go.Proofs.YtooineinpgiofaaDoor.recordParts
