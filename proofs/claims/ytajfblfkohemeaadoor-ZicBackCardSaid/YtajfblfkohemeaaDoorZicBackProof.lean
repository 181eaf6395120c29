/-
  ZicBack (the stage's theorem): what was written is read as it was, for every table of at most 300 leaps. Condition: the row's own (the listed tables hold what their initialisers lay; the card ties that).
-/
import Derived.Test.YtajfblfkohemeaaDoorZicLaw
import Derived.Test.YtajfblfkohemeaaDoorCards
import Derived.Test.YtajfblfkohemeaaDoorTie
import Derived.SevenTiedAt
namespace Go.Proofs.YtajfblfkohemeaaDoor.zicBack
open Go.ChangeShapes Go.WideShapes Go.ChangeAt Go.RowKit
open zic leap lm mem lx
open zs (full txw)
set_option linter.unusedVariables false
set_option maxRecDepth 100000

set_option maxHeartbeats 4000000 in
theorem walk (w : World) (l : List Lp) (A : Option Addr) (c : Nat) (has : Bool) (x : Int) (hl : Lps w A l) (hn : l.length ≤ 9223372036854775807) (hc : l.length ≤ c) (hx : -9223372036854775808 ≤ x ∧ x ≤ 9223372036854775807) (T : zic.All w) :
    Calls Tryd.prog 3 #[.agg #[.slice A l.length c, .bool has, .int .i64 x]] w fun e w' => e = .returned (.bool true) ∧ Below w.heap.size w w' := by
  have hw0 : Below w.heap.size w (w.alloc (.cells #[.slice A l.length c, .bool has, .int .i64 x] 24)) := bal (Below.refl _ _) _
  have box : (w.alloc (.cells #[.slice A l.length c, .bool has, .int .i64 x] 24)).heap[w.heap.size]? = some (.cells (tcs A l.length c has x) 24) := hp_new w _
  have hl0 := hl.below hw0
  have T0 := T.below hw0
  go_enter Tryd.func3, Tryd.ntmps3
  go_wp2_with fail
  generalize w.alloc (.cells #[.slice A l.length c, .bool has, .int .i64 x] 24) = W0 at *
  have HW := Lib.hid hw0
  clear hw0 hl T
  generalize hN : w.heap.size = N at *
  have hA : Below W0.heap.size W0 W0 := Below.refl _ _
  have SM : Hid (∀ W, Below W0.heap.size W0 W → Calls Tryd.prog 7 #[] W fun e w' => e = .returned (.bool true) ∧ Below W.heap.size W w') := fun W hb => small_at W (T0.below hb)
  have FE : Hid (∀ W, Below W0.heap.size W0 W → Calls Tryd.prog 8 #[.agg #[.slice A l.length c, .bool has, .int .i64 x]] W fun e w' => e = .returned (.bool (decide (l.length ≤ 300))) ∧ Below W.heap.size W w') := fun W hb => few_at A l.length c has x W hn
  have RI : Hid (∀ W, Below W0.heap.size W0 W → Calls Tryd.prog 10 #[.agg #[.slice A l.length c, .bool has, .int .i64 x]] W fun e w' => e = .returned (.bool (ce l has x == 0)) ∧ Below W.heap.size W w') := fun W hb => right_at l A c has x W (T0.below hb).tabs (hl0.below hb) hn
  have TC := Lib.hid (fun W (hb : Below W0.heap.size W0 W) => tcs_cells (kept box hb))
  have EX : Hid (∀ W, Below W0.heap.size W0 W → Below w.heap.size w W) := fun W hb => by rw [hN]; exact HW.out.trans (hb.mono (by have := HW.out.size; rw [hN] at this; exact this))
  have HL := Lib.hid (fun W (hb : Below W0.heap.size W0 W) => hl0.below hb)
  obtain ⟨c0, c1, c2⟩ := TC.out _ hA
  by_cases g1 : l.length ≤ 300
  · rw [decide_eq_true g1] at FE
    by_cases g2 : ce l has x = 0
    · have TX : Hid (∀ W, Below W0.heap.size W0 W → Calls Tryd.prog 9 #[.agg #[.slice A l.length c, .bool has, .int .i64 x]] W fun e w' => e = .returned (.tuple #[.string (B (txw (full l has x))), .bool true]) ∧ Below W.heap.size W w') := fun W hb => by
        exact text_yes T0 l has x g2 A c W hb (hl0.below hb)
      have PT := Lib.hid (fun W hb => parse_text T0 l has x g2 W hb)
      have SA : Hid (∀ A' c' W, Lps W A' l → Below W0.heap.size W0 W → Calls Tryd.prog 12 #[.agg #[.slice A' l.length c', .bool has, .int .i64 x], .agg #[.slice A l.length c, .bool has, .int .i64 x]] W fun e w' => e = .returned (.bool true) ∧ Below W.heap.size W w') := fun A' c' W h hb => by
        have := ref09.same_at l l A' A c' c has has x x W h (hl0.below hb) hn hn
        rw [sm_self] at this
        exact this
      have hr : (ce l has x == 0) = true := by simpa using g2
      rw [hr] at RI
      have E1 := fun W => eqF 0 0 0 0 W
      obtain ⟨SS, hSS⟩ : ∃ SS, B (txw (full l has x)) = SS := ⟨_, rfl⟩
      rw [hSS] at TX
      simp only [hSS] at PT
      clear hSS g2 T0 hl0 box hr
      generalize l.length = n at *
      go_wp2_with (first
        | (go_at_call 7; with_reducible refine (SM.out _ hA).mono ?_; rintro e w1 ⟨rfl, hb1⟩; have hA := btr hA hb1; clear c0 c1 c2; obtain ⟨c0, c1, c2⟩ := TC.out _ hA)
        | (go_at_call 8; with_reducible refine (FE.out _ hA).mono ?_; rintro e w1 ⟨rfl, hb1⟩; have hA := btr hA hb1; clear c0 c1 c2; obtain ⟨c0, c1, c2⟩ := TC.out _ hA)
        | (go_at_call 9; with_reducible refine (TX.out _ hA).mono ?_; rintro e w1 ⟨rfl, hb1⟩; have hA := btr hA hb1; clear c0 c1 c2; obtain ⟨c0, c1, c2⟩ := TC.out _ hA)
        | (go_at_call 11; with_reducible refine (PT.out _ hA).mono ?_; rintro e w2 ⟨A', c', rfl, hl2, _, hb2⟩; have hA2 := Lib.hid (btr hA hb2); have BX := Lib.hid (fun a b => bx_two (bx_nil w2) a b); have LU := Lib.hid (fun a b => hl2.below (b2 w2 a b)); have HA3 := Lib.hid (fun a b => btr (btr hA hb2) (b2 w2 a b)); clear c0 c1 c2 hl2; have c0 := fun a b => (TC.out _ (HA3.out a b)).1; have c1 := fun a b => (TC.out _ (HA3.out a b)).2.1; have c2 := fun a b => (TC.out _ (HA3.out a b)).2.2)
        | (go_at_call 12; with_reducible refine (SA.out _ _ _ (LU.out _ _) (HA3.out _ _)).mono ?_; rintro e w3 ⟨rfl, hb3⟩; have hA := btr (HA3.out _ _) hb3; clear c0 c1 c2; obtain ⟨c0, c1, c2⟩ := TC.out _ hA)
        | (go_at_call 10; with_reducible refine (RI.out _ hA).mono ?_; rintro e w4 ⟨rfl, hb4⟩; have hA := btr hA hb4))
      go_ret
      exact ⟨rfl, EX.out _ hA⟩
    · have TX : Hid (∀ W, Below W0.heap.size W0 W → Calls Tryd.prog 9 #[.agg #[.slice A l.length c, .bool has, .int .i64 x]] W fun e w' => e = .returned (.tuple #[.string ⟨#[]⟩, .bool false]) ∧ Below W.heap.size W w') := fun W hb => by
        refine (text_at l A c has x W (T0.below hb) (hl0.below hb) hn).mono ?_
        rintro e w' ⟨hb', ⟨h, _⟩ | ⟨_, he⟩⟩
        · exact absurd h g2
        · exact ⟨he, hb'⟩
      have hr : (ce l has x == 0) = false := by simpa using g2
      rw [hr] at RI
      clear g2 T0 hl0 box
      generalize l.length = n at *
      go_wp2_with (first
        | (go_at_call 7; with_reducible refine (SM.out _ hA).mono ?_; rintro e w1 ⟨rfl, hb1⟩; have hA := btr hA hb1; clear c0 c1 c2; obtain ⟨c0, c1, c2⟩ := TC.out _ hA)
        | (go_at_call 8; with_reducible refine (FE.out _ hA).mono ?_; rintro e w1 ⟨rfl, hb1⟩; have hA := btr hA hb1; clear c0 c1 c2; obtain ⟨c0, c1, c2⟩ := TC.out _ hA)
        | (go_at_call 9; with_reducible refine (TX.out _ hA).mono ?_; rintro e w1 ⟨rfl, hb1⟩; have hA := btr hA hb1; clear c0 c1 c2; obtain ⟨c0, c1, c2⟩ := TC.out _ hA)
        | (go_at_call 10; with_reducible refine (RI.out _ hA).mono ?_; rintro e w4 ⟨rfl, hb4⟩; have hA := btr hA hb4))
      go_ret
      exact ⟨rfl, EX.out _ hA⟩
  · rw [decide_eq_false g1] at FE
    clear T0 hl0 box
    generalize l.length = n at *
    go_wp2_with (first
      | (go_at_call 7; with_reducible refine (SM.out _ hA).mono ?_; rintro e w1 ⟨rfl, hb1⟩; have hA := btr hA hb1; clear c0 c1 c2; obtain ⟨c0, c1, c2⟩ := TC.out _ hA)
      | (go_at_call 8; with_reducible refine (FE.out _ hA).mono ?_; rintro e w1 ⟨rfl, hb1⟩; have hA := btr hA hb1; clear c0 c1 c2; obtain ⟨c0, c1, c2⟩ := TC.out _ hA))
    go_ret
    exact ⟨rfl, EX.out _ hA⟩
set_option maxRecDepth 100000 in
theorem lifted (os : Os) (started : os.Started) (H : Type) (enc : TypeId × Value → H) :
    ReturnsInHanded {} Tryd.checked os 3 .any (fun w args => (Rows.zicBackSpec.pre enc Tryd.prog Tryd.f3 [] false w args ∧ laidMetH Tryd.prog Rows.zicBackRow.laid w) ∧ sizedMet enc Tryd.prog Tryd.f3 (OpenSpec.ofChange Rows.zicBackSpec) false w args)
      (Rows.zicBackSpec.post enc Tryd.prog Tryd.f3 false true false false) := by
  refine both.handed_both (C := Tryd.checked) (X := fun w _ => laidMetH Tryd.prog Rows.zicBackRow.laid w) (fun _ _ _ hh h => h.of_heap hh) law.own started (by kernel_rfl) Tryd.func3
    (ChangeSpec.witness_shaped (enc := enc) (C := Tryd.checked) (os := os) (X := fun w _ => laidMetH Tryd.prog Rows.zicBackRow.laid w) false (World.laidAll Tryd.prog os Rows.zicBackRow.laid) #[.agg #[.slice none 0 0, .bool false, .int .i64 0]] 8 (World.laidAll_os _ _ _) (World.shaped_of_ZipB (by kernel_rfl) (by kernel_rfl)) (by kernel_rfl) (by kernel_rfl) (by kernel_rfl) (by rw [MakeChecks.laidMetH_plain _ _ _ (by kernel_rfl)]; exact laidMet_laidAll _ (by kernel_rfl) (by kernel_rfl))) ?_
  intro W base args ds gs before hval0 hW _ _ hL hsh _
  rw [MakeChecks.laidMetH_plain _ _ _ (by kernel_rfl)] at hL
  have T0 := zic.all_of hL (by repeat first | exact List.Mem.head _ | refine List.Mem.tail _ ?_) (by repeat first | exact List.Mem.head _ | refine List.Mem.tail _ ?_) (by repeat first | exact List.Mem.head _ | refine List.Mem.tail _ ?_) (by repeat first | exact List.Mem.head _ | refine List.Mem.tail _ ?_) hsh
  have hval : ∀ (j : Nat) t v, Tryd.f3.params[j]? = some t → args[j]? = some v → Value.okWide Tryd.prog W .any base t v := hval0
  have hW' := hW
  obtain ⟨p, q, hA0, hV, rfl, hfz, hnd⟩ := hW
  have hA : DataW.TrodAll enc Tryd.prog W 0 (fun _ => true) true Tryd.f3.params.toList args.toList ds p := hA0
  rw [Tryd.params3] at hA hval
  obtain ⟨v0, vs0, d0, ds0, p0, q0, hargs, rfl, rfl, h0, r0⟩ := trodAll_cons hA
  obtain ⟨rfl, rfl, rfl⟩ := trodAll_nil r0
  obtain rfl : args = #[v0] := by cases args; simp_all
  obtain ⟨rfl, rfl⟩ := trodVars_none hV
  clear hA0 hval0
  obtain ⟨A0_, k0_, l0_, b0_, x0_, rfl, q0_, n0_, m0_, w0_⟩ := leap.open_table (hval 0 24 v0 rfl rfl) h0
  refine (Calls.mono (R := fun e w' => e = .returned (.bool true) ∧ Below W.heap.size W w') ?_ fun e W' ⟨he, hb⟩ => ?_)
  · exact walk W l0_ A0_ k0_ b0_ x0_ q0_ n0_ m0_ w0_ T0
  · subst he
    exact ⟨_, rfl, law.post law.laidOut (by kernel_rfl) rfl rfl Tryd.underlying4 rfl hW' hb⟩

theorem over : Rows.zicBackRow.holds Tryd.pinned (OpenSpec.ofChange Rows.zicBackSpec) :=
  OpenClaim.holds_of_wide 3 Tryd.f3 rfl rfl rfl rfl rfl rfl rfl ⟨rfl, rfl, rfl, rfl, rfl⟩ rfl rfl rfl rfl rfl (by kernel_rfl) Tryd.func3 (by kernel_rfl)
    (of_decide_eq_true (by kernel_rfl)) (by unfold Func.isWrapper; first | (rw [if_pos (by decide +kernel)]; kernel_rfl) | (rw [if_neg (by decide +kernel)]; exact ⟨rfl, rfl⟩))
    (fun os started H enc _ => lifted os started H enc)

theorem proved : Rows.ZicBackCardSaid :=
  Claim7.holds_tied_plain_at .later [] _ _ _ _ over (fun _ h => by cases h) (by kernel_rfl) (fun _ h => by cases h) zicBack_row_tie rfl ⟨rfl, rfl⟩ (by kernel_rfl) rfl
    (fun f fn hf hfn => by
      obtain rfl : f = 3 := Option.some.inj ((show Tryd.prog.funcNamed "epact/epactlaw11.ZicBack" = some 3 by kernel_rfl).symm.trans hf) |>.symm
      obtain rfl : fn = Tryd.f3 := (Option.some.inj (Tryd.func3.symm.trans hfn)).symm
      exact ⟨by kernel_rfl, fun j t ht => by
        have hall : (Tryd.f3.params.toList.all fun u => !Tryd.prog.wantsStandIn u) = true := by kernel_rfl
        have hm : t ∈ Tryd.f3.params.toList := by rw [Array.mem_toList_iff]; exact Array.mem_of_getElem? ht
        exact (show Tryd.prog.wantsStandIn t = false by simpa using List.all_eq_true.1 hall t hm)⟩)
    (by kernel_rfl)
end Go.Proofs.YtajfblfkohemeaaDoor.zicBack
