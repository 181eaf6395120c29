/-
  LeapParts: a table is right just if its beginnings are, and what is wrong of it is wrong of each longer one at the same place, for every table without an expiry, cut anywhere. Condition: the row's own (the listed tables hold what their initialisers lay; the card ties that).
-/
import Derived.Test.YtefnlnehdogiaaaDoorLeapSmall
import Derived.Test.YtefnlnehdogiaaaDoorLeapLaw
import Derived.Test.YtefnlnehdogiaaaDoorCards
import Derived.Test.YtefnlnehdogiaaaDoorTie
import Derived.SevenTiedAt
namespace Go.Proofs.YtefnlnehdogiaaaDoor.leapParts
open Go.ChangeShapes Go.WideShapes Go.ChangeAt Go.RowKit
open leap lm mem
set_option linter.unusedVariables false

theorem wr_take (l : List Lp) (k i : Nat) (h : i < k) : lm.wr (l.take k) i = lm.wr l i := by
  have e : ∀ j, j < k → (l.take k).getD j z3 = l.getD j z3 := fun j hj => by
    rw [List.getD_eq_getElem?_getD, List.getD_eq_getElem?_getD, List.getElem?_take_of_lt hj]
  unfold lm.wr dy lm.st
  rw [e i h, e (i - 1) (by omega)]
theorem xp_none (l : List Lp) : xp l false 0 = 0 := by unfold xp; simp
/-- the first part wrong: so is the whole, at the same place. -/
theorem part_wrong {l : List Lp} {k : Nat} (hk : k ≤ l.length) (h : ce (l.take k) false 0 ≠ 0) : cp l = cp (l.take k) ∧ ce l false 0 = ce (l.take k) false 0 := by
  have hl : (l.take k).length = k := by simp; omega
  have hc : cp (l.take k) < k := by
    rcases Nat.lt_or_ge (cp (l.take k)) k with g | g
    · exact g
    · exfalso
      refine h (ce_ok.2 ⟨fun i hi => cp_ok _ (by omega), xp_none _⟩)
  have hw := cp_wrong (l.take k) (by omega)
  have e1 : cp l = cp (l.take k) := cp_is l _ (fun i hi => by rw [← wr_take l k i (by omega)]; exact cp_ok _ hi) (by omega) (fun _ => by rw [← wr_take l k _ hc]; exact hw)
  refine ⟨e1, ?_⟩
  unfold ce
  rw [if_pos (by omega), e1, if_pos (by omega), wr_take l k _ hc]
theorem part_right {l : List Lp} {k : Nat} (hk : k ≤ l.length) (h : ce (l.take k) false 0 = 0) : cp (l.take k) = k ∧ k ≤ cp l ∧ (ce l false 0 = 0 → cp l = l.length) := by
  have hl : (l.take k).length = k := by simp; omega
  have g := (ce_ok.1 h).1
  rw [hl] at g
  refine ⟨(ce_end (l := l.take k) (has := false) (x := 0) (by rw [hl]; exact g)).1.trans hl, ?_, fun h0 => (ce_end (has := false) (x := 0) (ce_ok.1 h0).1).1⟩
  rcases Nat.lt_or_ge (cp l) k with g2 | g2
  · have := cp_wrong l (by omega)
    rw [← wr_take l k _ g2] at this
    exact absurd (g _ g2) this
  · exact g2
theorem take_lps {w : World} {A : Option Addr} {l : List Lp} (h : Lps w A l) (k : Nat) (hk : k ≤ l.length) : Lps w A (l.take k) := by
  have hl : (l.take k).length = k := by simp; omega
  intro h0
  obtain ⟨b, o, e, hb, hc⟩ := h (by omega)
  refine ⟨b, o, e, hb, fun j hj => ?_⟩
  have ej : (l.take k).getD j z3 = l.getD j z3 := by
    rw [List.getD_eq_getElem?_getD, List.getD_eq_getElem?_getD, List.getElem?_take_of_lt (by omega)]
  have := hc j (by omega)
  unfold dy lm.st rl at this ⊢
  rw [ej]
  exact this
set_option maxHeartbeats 4000000 in
set_option maxRecDepth 100000 in
theorem walk (w : World) (l : List Lp) (A : Option Addr) (c : Nat) (has : Bool) (x : Int) (hl : Lps w A l) (hn : l.length ≤ 9223372036854775807) (hc : l.length ≤ c) (hx : -9223372036854775808 ≤ x ∧ x ≤ 9223372036854775807) (p : Int) (hp : -9223372036854775808 ≤ p ∧ p ≤ 9223372036854775807) (T : day.Tabs w) :
    Calls Tryd.prog 6 #[.agg #[.slice A l.length c, .bool has, .int .i64 x], .int .i64 p] w fun e w' => e = .returned (.bool true) ∧ Below w.heap.size w w' := by
  have hw0 : Below w.heap.size w (w.alloc (.cells #[.slice A l.length c, .bool has, .int .i64 x] 24)) := bal (Below.refl _ _) _
  have box : (w.alloc (.cells #[.slice A l.length c, .bool has, .int .i64 x] 24)).heap[w.heap.size]? = some (.cells (tcs A l.length c has x) 24) := hp_new w _
  have hl0 := hl.below hw0
  have T0 : day.Tabs _ := T.below hw0
  go_enter Tryd.func6, Tryd.ntmps6
  go_wp2_with fail
  generalize w.alloc (.cells #[.slice A l.length c, .bool has, .int .i64 x] 24) = W0 at *
  have HW := Lib.hid hw0
  clear hw0 hl T
  generalize hN : w.heap.size = N at *
  have hA : Below W0.heap.size W0 W0 := Below.refl _ _
  have SM : Hid (∀ W, Below W0.heap.size W0 W → Calls Tryd.prog 9 #[] W fun e w' => e = .returned (.bool true) ∧ Below W.heap.size W w') := fun W hb => small_at W (T0.below hb)
  have FE : Hid (∀ W, Below W0.heap.size W0 W → Calls Tryd.prog 10 #[.agg #[.slice A l.length c, .bool has, .int .i64 x]] W fun e w' => e = .returned (.bool (decide (l.length ≤ 300))) ∧ Below W.heap.size W w') := fun W hb => few_at A l.length c has x W hn
  have RI : Hid (∀ W, Below W0.heap.size W0 W → Calls Tryd.prog 13 #[.agg #[.slice A l.length c, .bool has, .int .i64 x]] W fun e w' => e = .returned (.bool (ce l has x == 0)) ∧ Below W.heap.size W w') := fun W hb => right_at l A c has x W (T0.below hb) (hl0.below hb) hn
  have TC := Lib.hid (fun W (hb : Below W0.heap.size W0 W) => tcs_cells (kept box hb))
  have EX : Hid (∀ W, Below W0.heap.size W0 W → Below w.heap.size w W) := fun W hb => by rw [hN]; exact HW.out.trans (hb.mono (by have := HW.out.size; rw [hN] at this; exact this))
  obtain ⟨c0, c1, c2⟩ := TC.out _ hA
  by_cases g1 : l.length ≤ 300
  · rw [decide_eq_true g1] at FE
    by_cases g2 : p < 0
    · have t : decide (p < 0) = true := by simpa using g2
      clear T0 hl0 box g2 RI
      generalize l.length = n at *
      go_wp2_with (first
        | (go_at_call 9; (with_reducible refine (SM.out _ hA).mono ?_; rintro e w1 ⟨rfl, hb1⟩; have hA := btr hA hb1; clear c0 c1 c2; obtain ⟨c0, c1, c2⟩ := TC.out _ hA; (try have y0 := YC.out _ hA)))
        | (go_at_call 10; (with_reducible refine (FE.out _ hA).mono ?_; rintro e w1 ⟨rfl, hb1⟩; have hA := btr hA hb1; clear c0 c1 c2; obtain ⟨c0, c1, c2⟩ := TC.out _ hA; (try have y0 := YC.out _ hA))))
      go_ret
      exact ⟨rfl, EX.out _ hA⟩
    · have t : decide (p < 0) = false := by simp; omega
      by_cases g3 : (l.length : Int) < p
      · have t2 : decide ((l.length : Int) < p) = true := by simpa using g3
        clear T0 hl0 box RI
        generalize l.length = n at *
        go_wp2_with (first
          | (go_at_call 9; (with_reducible refine (SM.out _ hA).mono ?_; rintro e w1 ⟨rfl, hb1⟩; have hA := btr hA hb1; clear c0 c1 c2; obtain ⟨c0, c1, c2⟩ := TC.out _ hA; (try have y0 := YC.out _ hA)))
          | (go_at_call 10; (with_reducible refine (FE.out _ hA).mono ?_; rintro e w1 ⟨rfl, hb1⟩; have hA := btr hA hb1; clear c0 c1 c2; obtain ⟨c0, c1, c2⟩ := TC.out _ hA; (try have y0 := YC.out _ hA))))
        go_ret
        exact ⟨rfl, EX.out _ hA⟩
      · have t2 : decide ((l.length : Int) < p) = false := by simp; omega
        obtain ⟨k, rfl⟩ : ∃ k : Nat, p = (k : Nat) := ⟨p.toNat, by omega⟩
        have hk : k ≤ l.length := by omega
        have hkl : (l.take k).length = k := by simp; omega
        have t3 : decide (l.length < k) = false := by simp; omega
        have q := fun W => cutL A l.length c k (by omega) W
        have CA : Hid (∀ W, Below W0.heap.size W0 W → Calls Tryd.prog 11 #[.agg #[.slice A l.length c, .bool false, .int .i64 0]] W fun e w' => e = .returned (.tuple #[.int .i64 (cp l : Nat), .int .i64 (ce l false 0)]) ∧ Below W.heap.size W w') := fun W hb => check_at l A c false 0 W (T0.below hb) (hl0.below hb) hn
        have CP : Hid (∀ W, Below W0.heap.size W0 W → Calls Tryd.prog 11 #[.agg #[.slice A k c, .bool false, .int .i64 0]] W fun e w' => e = .returned (.tuple #[.int .i64 (cp (l.take k) : Nat), .int .i64 (ce (l.take k) false 0)]) ∧ Below W.heap.size W w') := fun W hb => by
          have := check_at (l.take k) A c false 0 W (T0.below hb) (take_lps (hl0.below hb) k hk) (by omega)
          unfold Checked at this
          rw [hkl] at this
          exact this
        clear T0 hl0 box RI
        by_cases h1 : ce (l.take k) false 0 = 0
        · obtain ⟨e1, e2, e3⟩ := part_right hk h1
          rw [e1, h1] at CP
          have s1 : ((k : Int) == (k : Int)) = true := by simp
          by_cases h2 : ce l false 0 = 0
          · rw [h2, e3 h2] at CA
            clear e1 e2 e3 h1 h2
            generalize l.length = n at *
            go_wp2_with (first
              | (go_at_call 9; (with_reducible refine (SM.out _ hA).mono ?_; rintro e w1 ⟨rfl, hb1⟩; have hA := btr hA hb1; clear c0 c1 c2; obtain ⟨c0, c1, c2⟩ := TC.out _ hA))
              | (go_at_call 10; (with_reducible refine (FE.out _ hA).mono ?_; rintro e w1 ⟨rfl, hb1⟩; have hA := btr hA hb1; clear c0 c1 c2; obtain ⟨c0, c1, c2⟩ := TC.out _ hA; have cA := fun ob => (TC.out _ (bal hA ob)).1))
              | (go_at_call 11; first
                | (with_reducible refine (CA.out _ (bal (bal hA _) _)).mono ?_; rintro e w2 ⟨rfl, hb2⟩; have hpp : ((w1.alloc (.cells #[.slice A n c, .bool false, .int .i64 0] 24)).alloc (.cells #[.slice A k c, .bool false, .int .i64 0] 24)).heap[w1.heap.size + 1]? = some (.cells (tcs A k c false 0) 24) := hp_new1 w1 _ _; obtain ⟨p0, p1, p2⟩ := tcs_cells (kept hpp hb2); have hA := btr (bal (bal hA _) _) hb2; clear c0 c1 c2; obtain ⟨c0, c1, c2⟩ := TC.out _ hA)
                | (with_reducible refine (CP.out _ hA).mono ?_; rintro e w3 ⟨rfl, hb3⟩; have hA := btr hA hb3; clear c0 c1 c2; obtain ⟨c0, c1, c2⟩ := TC.out _ hA)))
            go_ret
            exact ⟨ret_bool (by first | rfl | simp), EX.out _ hA⟩
          · have s2 : (ce l false 0 == 0) = false := by simpa using h2
            have s3 : (ce l false 0 != 0) = true := by simpa using h2
            have s4 : decide ((k : Int) ≤ (cp l : Int)) = true := by simp; omega
            have s5 : decide (k ≤ cp l) = true := by simp; omega
            clear e1 e3 h1 h2
            generalize ce l false 0 = E at *
            generalize cp l = P at *
            generalize l.length = n at *
            go_wp2_with (first
              | (go_at_call 9; (with_reducible refine (SM.out _ hA).mono ?_; rintro e w1 ⟨rfl, hb1⟩; have hA := btr hA hb1; clear c0 c1 c2; obtain ⟨c0, c1, c2⟩ := TC.out _ hA))
              | (go_at_call 10; (with_reducible refine (FE.out _ hA).mono ?_; rintro e w1 ⟨rfl, hb1⟩; have hA := btr hA hb1; clear c0 c1 c2; obtain ⟨c0, c1, c2⟩ := TC.out _ hA; have cA := fun ob => (TC.out _ (bal hA ob)).1))
              | (go_at_call 11; first
                | (with_reducible refine (CA.out _ (bal (bal hA _) _)).mono ?_; rintro e w2 ⟨rfl, hb2⟩; have hpp : ((w1.alloc (.cells #[.slice A n c, .bool false, .int .i64 0] 24)).alloc (.cells #[.slice A k c, .bool false, .int .i64 0] 24)).heap[w1.heap.size + 1]? = some (.cells (tcs A k c false 0) 24) := hp_new1 w1 _ _; obtain ⟨p0, p1, p2⟩ := tcs_cells (kept hpp hb2); have hA := btr (bal (bal hA _) _) hb2; clear c0 c1 c2; obtain ⟨c0, c1, c2⟩ := TC.out _ hA)
                | (with_reducible refine (CP.out _ hA).mono ?_; rintro e w3 ⟨rfl, hb3⟩; have hA := btr hA hb3; clear c0 c1 c2; obtain ⟨c0, c1, c2⟩ := TC.out _ hA)))
            go_ret
            exact ⟨ret_bool (by first | rfl | simp), EX.out _ hA⟩
        · obtain ⟨e1, e2⟩ := part_wrong hk h1
          rw [← e1, ← e2] at CP
          have s2 : (ce l false 0 != 0) = true := by rw [e2]; simpa using h1
          clear e1 e2 h1
          generalize ce l false 0 = E at *
          generalize cp l = P at *
          generalize l.length = n at *
          go_wp2_with (first
            | (go_at_call 9; (with_reducible refine (SM.out _ hA).mono ?_; rintro e w1 ⟨rfl, hb1⟩; have hA := btr hA hb1; clear c0 c1 c2; obtain ⟨c0, c1, c2⟩ := TC.out _ hA))
            | (go_at_call 10; (with_reducible refine (FE.out _ hA).mono ?_; rintro e w1 ⟨rfl, hb1⟩; have hA := btr hA hb1; clear c0 c1 c2; obtain ⟨c0, c1, c2⟩ := TC.out _ hA; have cA := fun ob => (TC.out _ (bal hA ob)).1))
            | (go_at_call 11; first
              | (with_reducible refine (CA.out _ (bal (bal hA _) _)).mono ?_; rintro e w2 ⟨rfl, hb2⟩; have hpp : ((w1.alloc (.cells #[.slice A n c, .bool false, .int .i64 0] 24)).alloc (.cells #[.slice A k c, .bool false, .int .i64 0] 24)).heap[w1.heap.size + 1]? = some (.cells (tcs A k c false 0) 24) := hp_new1 w1 _ _; obtain ⟨p0, p1, p2⟩ := tcs_cells (kept hpp hb2); have hA := btr (bal (bal hA _) _) hb2; clear c0 c1 c2; obtain ⟨c0, c1, c2⟩ := TC.out _ hA)
              | (with_reducible refine (CP.out _ hA).mono ?_; rintro e w3 ⟨rfl, hb3⟩; have hA := btr hA hb3; clear c0 c1 c2; obtain ⟨c0, c1, c2⟩ := TC.out _ hA)))
          go_ret
          exact ⟨ret_bool (by first | rfl | simp), EX.out _ hA⟩
  · rw [decide_eq_false g1] at FE
    clear T0 hl0 box RI g1
    generalize l.length = n at *
    go_wp2_with (first
      | (go_at_call 9; (with_reducible refine (SM.out _ hA).mono ?_; rintro e w1 ⟨rfl, hb1⟩; have hA := btr hA hb1; clear c0 c1 c2; obtain ⟨c0, c1, c2⟩ := TC.out _ hA; (try have y0 := YC.out _ hA)))
      | (go_at_call 10; (with_reducible refine (FE.out _ hA).mono ?_; rintro e w1 ⟨rfl, hb1⟩; have hA := btr hA hb1; clear c0 c1 c2; obtain ⟨c0, c1, c2⟩ := TC.out _ hA; (try have y0 := YC.out _ hA))))
    go_ret
    exact ⟨rfl, EX.out _ hA⟩
theorem door_met (os : Os) (args : Array Value) : laidMetH Tryd.prog Rows.leapPartsRow.laid ((World.doorLaid Tryd.prog 400 os).forCall (fun _ _ => 0) ⟨#[], args, []⟩).memory :=
  laidMetH_of_parts3 (fuel := 8) (laidMet_of_run' 8 (by kernel_rfl) (by kernel_rfl)) (by kernel_rfl) (by kernel_rfl)
set_option maxRecDepth 100000 in
theorem lifted (os : Os) (started : os.Started) (H : Type) (enc : TypeId × Value → H) :
    ReturnsInHanded {} Tryd.checked os 6 .any (fun w args => (Rows.leapPartsSpec.pre enc Tryd.prog Tryd.f6 [] false w args ∧ laidMetH Tryd.prog Rows.leapPartsRow.laid w) ∧ sizedMet enc Tryd.prog Tryd.f6 (OpenSpec.ofChange Rows.leapPartsSpec) false w args)
      (Rows.leapPartsSpec.post enc Tryd.prog Tryd.f6 false true false false) := by
  refine returnsInHanded_of_change_and (C := Tryd.checked) (X := fun w _ => laidMetH Tryd.prog Rows.leapPartsRow.laid w) (fun _ _ _ hh h => h.of_heap hh) law.own started (by kernel_rfl) Tryd.func6
    (ChangeSpec.witness_shaped (enc := enc) (C := Tryd.checked) (os := os) (X := fun w _ => laidMetH Tryd.prog Rows.leapPartsRow.laid w) false (World.doorLaid Tryd.prog 400 os) #[.agg #[.slice none 0 0, .bool false, .int .i64 0], .int .i64 0] 8 rfl (World.shaped_of_RefB (by kernel_rfl) (by kernel_rfl)) (by kernel_rfl) (by kernel_rfl) (by kernel_rfl) (door_met os _)) ?_
  intro W base args ds gs before hval0 hW _ _ hL _
  rw [MakeChecks.laidMetH_plain _ _ _ (by kernel_rfl)] at hL
  have T0 := day.tabs_of hL (by repeat first | exact List.Mem.head _ | refine List.Mem.tail _ ?_) (by repeat first | exact List.Mem.head _ | refine List.Mem.tail _ ?_)
  have hval : ∀ (j : Nat) t v, Tryd.f6.params[j]? = some t → args[j]? = some v → Value.okWide Tryd.prog W .any base t v := hval0
  have hW' := hW
  obtain ⟨p, q, hA0, hV, rfl, hfz, hnd⟩ := hW
  have hA : DataW.TrodAll enc Tryd.prog W 0 (fun _ => true) true Tryd.f6.params.toList args.toList ds p := hA0
  rw [Tryd.params6] at hA hval
  obtain ⟨v0, vs0, d0, ds0, p0, q0, hargs, rfl, rfl, h0, r0⟩ := trodAll_cons hA
  obtain ⟨v1, vs1, d1, ds1, p1, q1, rfl, rfl, rfl, h1, r1⟩ := trodAll_cons r0
  obtain ⟨rfl, rfl, rfl⟩ := trodAll_nil r1
  obtain rfl : args = #[v0, v1] := by cases args; simp_all
  obtain ⟨rfl, rfl⟩ := trodVars_none hV
  clear hA0 hval0
  obtain ⟨A0_, k0_, l0_, b0_, x0_, rfl, q0_, n0_, m0_, w0_⟩ := leap.open_table (hval 0 24 v0 rfl rfl) h0
  obtain ⟨a1, rfl, hd1, hp1, w1⟩ := open_int Tryd.underlying3 (hval 1 3 v1 rfl rfl) h1
  refine (Calls.mono (R := fun e w' => e = .returned (.bool true) ∧ Below W.heap.size W w') ?_ fun e W' ⟨he, hb⟩ => ?_)
  · exact walk W l0_ A0_ k0_ b0_ x0_ q0_ n0_ m0_ w0_ a1 (bounds_i64 w1) T0
  · subst he
    exact ⟨_, rfl, law.post law.laidOut (by kernel_rfl) rfl rfl Tryd.underlying4 rfl hW' hb⟩

theorem over : Rows.leapPartsRow.holds Tryd.pinned (OpenSpec.ofChange Rows.leapPartsSpec) :=
  OpenClaim.holds_of_wide 6 Tryd.f6 rfl rfl rfl rfl rfl rfl rfl ⟨rfl, rfl, rfl, rfl, rfl⟩ rfl rfl rfl rfl rfl (by kernel_rfl) Tryd.func6 (by kernel_rfl)
    (of_decide_eq_true (by kernel_rfl)) (by unfold Func.isWrapper; first | (rw [if_pos (by decide +kernel)]; kernel_rfl) | (rw [if_neg (by decide +kernel)]; exact ⟨rfl, rfl⟩))
    (fun os started H enc _ => lifted os started H enc)

theorem proved : Rows.LeapPartsCardSaid :=
  Claim7.holds_tied_plain_at .later [] _ _ _ _ over (fun _ h => by cases h) (by kernel_rfl) (fun _ h => by cases h) leapParts_row_tie rfl ⟨rfl, rfl⟩ (by kernel_rfl) rfl
    (fun f fn hf hfn => by
      obtain rfl : f = 6 := Option.some.inj ((show Tryd.prog.funcNamed "epact/epactlaw09.LeapParts" = some 6 by kernel_rfl).symm.trans hf) |>.symm
      obtain rfl : fn = Tryd.f6 := (Option.some.inj (Tryd.func6.symm.trans hfn)).symm
      exact ⟨by kernel_rfl, fun j t ht => by
        have hall : (Tryd.f6.params.toList.all fun u => !Tryd.prog.wantsStandIn u) = true := by kernel_rfl
        have hm : t ∈ Tryd.f6.params.toList := by rw [Array.mem_toList_iff]; exact Array.mem_of_getElem? ht
        exact (show Tryd.prog.wantsStandIn t = false by simpa using List.all_eq_true.1 hall t hm)⟩)
    (by kernel_rfl)
end Go.Proofs.YtefnlnehdogiaaaDoor.leapParts
