/-
  ZicLists: a list of leap seconds, and lines of a source, that say the same are read as the same table, and what the one can say the other one can, for every table of at most 300 leaps and every stamp. Condition: the row's own (the listed tables hold what their initialisers lay; the card ties that).
-/
import Derived.Test.YtpkohihnocblfaaGreatDoorG18
import Derived.Test.YtpkohihnocblfaaGreatDoorG33
import Derived.Test.YtpkohihnocblfaaGreatDoorCards
import Derived.Test.YtpkohihnocblfaaGreatDoorTie
import Derived.SevenTiedAt
namespace Go.Proofs.YtpkohihnocblfaaGreatDoor.zicLists
open Go.ChangeShapes Go.WideShapes Go.ChangeAt Go.RowKit
open zic leap lm mem lx
open ls (TOK)
set_option linter.unusedVariables false
set_option maxRecDepth 100000

theorem bx_at3 {W : World} {x0 x1 x2 x3 : Nat × Obj} {l : List (Nat × Obj)} (h : Bx W (x0 :: x1 :: x2 :: x3 :: l)) : W.heap[x3.1]? = some x3.2 := h 3 _ rfl
set_option maxHeartbeats 4000000 in
theorem walk (w : World) (l : List Lp) (A : Option Addr) (c : Nat) (has : Bool) (x : Int) (hl : Lps w A l) (hn : l.length ≤ 9223372036854775807) (hc : l.length ≤ c) (hx : -9223372036854775808 ≤ x ∧ x ≤ 9223372036854775807) (d : Int) (hd : -9223372036854775808 ≤ d ∧ d ≤ 9223372036854775807) (T : zic.All w) (V : list.All w) :
    Calls Tryz.prog 3 #[.agg #[.slice A l.length c, .bool has, .int .i64 x], .int .i64 d] w fun e w' => e = .returned (.bool true) ∧ Below w.heap.size w w' := by
  have hw0 : Below w.heap.size w (w.alloc (.cells #[.slice A l.length c, .bool has, .int .i64 x] 24)) := bal (Below.refl _ _) _
  have box : (w.alloc (.cells #[.slice A l.length c, .bool has, .int .i64 x] 24)).heap[w.heap.size]? = some (.cells (tcs A l.length c has x) 24) := hp_new w _
  have hl0 := hl.below hw0
  have T0 := T.below hw0
  have V0 := V.below hw0
  go_enter Tryz.func3, Tryz.ntmps3
  go_wp2_with fail
  generalize w.alloc (.cells #[.slice A l.length c, .bool has, .int .i64 x] 24) = W0 at *
  have HW := Lib.hid hw0
  clear hw0 hl T V
  generalize hN : w.heap.size = N at *
  have hA : Below W0.heap.size W0 W0 := Below.refl _ _
  have SM : Hid (∀ W, Below W0.heap.size W0 W → Calls Tryz.prog 4 #[] W fun e w' => e = .returned (.bool true) ∧ Below W.heap.size W w') := fun W hb => small_at W (T0.below hb)
  have FE : Hid (∀ W, Below W0.heap.size W0 W → Calls Tryz.prog 5 #[.agg #[.slice A l.length c, .bool has, .int .i64 x]] W fun e w' => e = .returned (.bool (decide (l.length ≤ 300))) ∧ Below W.heap.size W w') := fun W hb => few_at A l.length c has x W hn
  have RI : Hid (∀ W, Below W0.heap.size W0 W → Calls Tryz.prog 13 #[.agg #[.slice A l.length c, .bool has, .int .i64 x]] W fun e w' => e = .returned (.bool (ce l has x == 0)) ∧ Below W.heap.size W w') := fun W hb => right_at l A c has x W (T0.below hb).tabs (hl0.below hb) hn
  have TC := Lib.hid (fun W (hb : Below W0.heap.size W0 W) => tcs_cells (kept box hb))
  have EX : Hid (∀ W, Below W0.heap.size W0 W → Below w.heap.size w W) := fun W hb => by rw [hN]; exact HW.out.trans (hb.mono (by have := HW.out.size; rw [hN] at this; exact this))
  have HL := Lib.hid (fun W (hb : Below W0.heap.size W0 W) => hl0.below hb)
  obtain ⟨c0, c1, c2⟩ := TC.out _ hA
  by_cases g1 : l.length ≤ 300
  · rw [decide_eq_true g1] at FE
    by_cases g0 : d < 0
    · clear T0 V0 hl0 box RI
      generalize l.length = n at *
      go_wp2_with (first
        | (go_at_call 4; with_reducible refine (SM.out _ hA).mono ?_; rintro e w1 ⟨rfl, hb1⟩; have hA := btr hA hb1; clear c0 c1 c2; obtain ⟨c0, c1, c2⟩ := TC.out _ hA)
        | (go_at_call 5; with_reducible refine (FE.out _ hA).mono ?_; rintro e w1 ⟨rfl, hb1⟩; have hA := btr hA hb1; clear c0 c1 c2; obtain ⟨c0, c1, c2⟩ := TC.out _ hA))
      go_ret
      exact ⟨rfl, EX.out _ hA⟩
    by_cases g2 : TOK l has x d
    · have TX : Hid (∀ W, Below W0.heap.size W0 W → Calls Tryz.prog 6 #[.agg #[.slice A l.length c, .bool has, .int .i64 x], .int .i64 d] W fun e w' => e = .returned (.tuple #[.string (B (ls.byl (ls.full l has x d))), .bool true]) ∧ Below W.heap.size W w') := fun W hb => by
        have T' := V0.below hb
        refine (list.text_at l A c has x d W T'.tabs T'.ml T'.st T'.pw T'.tz (hl0.below hb) hn hd).mono ?_
        rintro e w' ⟨hb', ⟨_, he⟩ | ⟨h, _⟩⟩
        · exact ⟨he, hb'⟩
        · exact absurd g2 h
      have PT := Lib.hid (fun W hb => list.parse_text V0 l has x d g2 hd.2 W hb)
      have TZ : Hid (∀ W, Below W0.heap.size W0 W → Calls Tryz.prog 7 #[.agg #[.slice A l.length c, .bool has, .int .i64 x]] W fun e w' => e = .returned (.tuple #[.string (B (zs.txw (zs.full l has x))), .bool true]) ∧ Below W.heap.size W w') := fun W hb => zic.text_yes T0 l has x g2.2.1 A c W hb (hl0.below hb)
      have PZ := Lib.hid (fun W hb => zic.parse_text T0 l has x g2.2.1 W hb)
      have SA : Hid (∀ A' c' A'' c'' W, Lps W A' l → Lps W A'' l → Calls Tryz.prog 10 #[.agg #[.slice A' l.length c', .bool has, .int .i64 x], .agg #[.slice A'' l.length c'', .bool has, .int .i64 x]] W fun e w' => e = .returned (.bool true) ∧ Below W.heap.size W w') := fun A' c' A'' c'' W h h' => by
        have := ref09.same_at l l A' A'' c' c'' has has x x W h h' hn hn
        rw [sm_self] at this
        exact this
      obtain ⟨SS, hSS⟩ : ∃ SS, B (ls.byl (ls.full l has x d)) = SS := ⟨_, rfl⟩
      obtain ⟨ZZ, hZZ⟩ : ∃ ZZ, B (zs.txw (zs.full l has x)) = ZZ := ⟨_, rfl⟩
      rw [hSS] at TX
      simp only [hSS] at PT
      rw [hZZ] at TZ
      simp only [hZZ] at PZ
      clear hSS hZZ g2 T0 V0 hl0 box RI
      generalize l.length = n at *
      go_wp2_with (first
        | (go_at_call 4; with_reducible refine (SM.out _ hA).mono ?_; rintro e w1 ⟨rfl, hb1⟩; have hA := btr hA hb1; clear c0 c1 c2; obtain ⟨c0, c1, c2⟩ := TC.out _ hA)
        | (go_at_call 5; with_reducible refine (FE.out _ hA).mono ?_; rintro e w1 ⟨rfl, hb1⟩; have hA := btr hA hb1; clear c0 c1 c2; obtain ⟨c0, c1, c2⟩ := TC.out _ hA)
        | (go_at_call 6; with_reducible refine (TX.out _ hA).mono ?_; rintro e w1 ⟨rfl, hb1⟩; have hA := btr hA hb1; clear c0 c1 c2; obtain ⟨c0, c1, c2⟩ := TC.out _ hA)
        | (go_at_call 7; with_reducible refine (TZ.out _ hA).mono ?_; rintro e w1 ⟨rfl, hb1⟩; have hA := btr hA hb1; clear c0 c1 c2; obtain ⟨c0, c1, c2⟩ := TC.out _ hA)
        | (go_at_call 8; with_reducible refine (PT.out _ hA).mono ?_; rintro e w2 ⟨A1, k1, rfl, hl1, hb2⟩; have X2 := Lib.hid (fun a b => bx_two (bx_nil w2) a b); have B2 := Lib.hid (fun a b => bal (bal (btr hA hb2) a) b); have K2 := Lib.hid (fun a b => hl1.below (b2 w2 a b)); clear hA hl1 c0 c1 c2)
        | (go_at_call 9; with_reducible refine (PZ.out _ (B2.out _ _)).mono ?_; rintro e w3 ⟨A2, k2, rfl, hl2, _, hb3⟩; have X3 := Lib.hid (fun a b => bx_two (bx_below (X2.out _ _) hb3) a b); have B3 := Lib.hid (fun a b => bal (bal (btr (B2.out _ _) hb3) a) b); have K3 := Lib.hid (fun a b => ((K2.out _ _).below hb3).below (b2 w3 a b)); have J3 := Lib.hid (fun a b => hl2.below (b2 w3 a b)); clear hl2; have f1 := fun a b => (flt_cells (bx_at2 (X3.out a b))).2; have g0' := fun a b => (tab_cells (bx_at3 (X3.out a b))).1; have g1' := fun a b => (tab_cells (bx_at3 (X3.out a b))).2.1; have g2' := fun a b => (tab_cells (bx_at3 (X3.out a b))).2.2)
        | (go_at_call 10; with_reducible refine (SA.out _ _ _ _ _ (K3.out _ _) (J3.out _ _)).mono ?_; rintro e w4 ⟨rfl, hb4⟩; have B4 := Lib.hid (btr (B3.out _ _) hb4)))
      go_ret
      exact ⟨rfl, EX.out _ B4.out⟩
    · have TX : Hid (∀ W, Below W0.heap.size W0 W → Calls Tryz.prog 6 #[.agg #[.slice A l.length c, .bool has, .int .i64 x], .int .i64 d] W fun e w' => e = .returned (.tuple #[.string ⟨#[]⟩, .bool false]) ∧ Below W.heap.size W w') := fun W hb => by
        have T' := V0.below hb
        refine (list.text_at l A c has x d W T'.tabs T'.ml T'.st T'.pw T'.tz (hl0.below hb) hn hd).mono ?_
        rintro e w' ⟨hb', ⟨h, _⟩ | ⟨_, he⟩⟩
        · exact absurd h g2
        · exact ⟨he, hb'⟩
      have TZ : Hid (∀ W, Below W0.heap.size W0 W → Calls Tryz.prog 7 #[.agg #[.slice A l.length c, .bool has, .int .i64 x]] W fun e w' => ∃ S b, e = .returned (.tuple #[.string S, .bool b]) ∧ Below W.heap.size W w') := fun W hb => by
        refine (zic.text_at l A c has x W (T0.below hb) (hl0.below hb) hn).mono ?_
        rintro e w' ⟨hb', ⟨_, he⟩ | ⟨_, he⟩⟩
        · exact ⟨_, _, he, hb'⟩
        · exact ⟨_, _, he, hb'⟩
      clear g2 T0 V0 hl0 box RI
      generalize l.length = n at *
      go_wp2_with (first
        | (go_at_call 4; with_reducible refine (SM.out _ hA).mono ?_; rintro e w1 ⟨rfl, hb1⟩; have hA := btr hA hb1; clear c0 c1 c2; obtain ⟨c0, c1, c2⟩ := TC.out _ hA)
        | (go_at_call 5; with_reducible refine (FE.out _ hA).mono ?_; rintro e w1 ⟨rfl, hb1⟩; have hA := btr hA hb1; clear c0 c1 c2; obtain ⟨c0, c1, c2⟩ := TC.out _ hA)
        | (go_at_call 6; with_reducible refine (TX.out _ hA).mono ?_; rintro e w1 ⟨rfl, hb1⟩; have hA := btr hA hb1; clear c0 c1 c2; obtain ⟨c0, c1, c2⟩ := TC.out _ hA)
        | (go_at_call 7; with_reducible refine (TZ.out _ hA).mono ?_; rintro e w1 ⟨S1, b1, rfl, hb1⟩; have hA := btr hA hb1; clear c0 c1 c2; obtain ⟨c0, c1, c2⟩ := TC.out _ hA))
      go_ret
      exact ⟨rfl, EX.out _ hA⟩
  · rw [decide_eq_false g1] at FE
    clear T0 V0 hl0 box RI
    generalize l.length = n at *
    go_wp2_with (first
      | (go_at_call 4; with_reducible refine (SM.out _ hA).mono ?_; rintro e w1 ⟨rfl, hb1⟩; have hA := btr hA hb1; clear c0 c1 c2; obtain ⟨c0, c1, c2⟩ := TC.out _ hA)
      | (go_at_call 5; with_reducible refine (FE.out _ hA).mono ?_; rintro e w1 ⟨rfl, hb1⟩; have hA := btr hA hb1; clear c0 c1 c2; obtain ⟨c0, c1, c2⟩ := TC.out _ hA))
    go_ret
    exact ⟨rfl, EX.out _ hA⟩
set_option maxRecDepth 100000 in
theorem lifted (os : Os) (started : os.Started) (H : Type) (enc : TypeId × Value → H) :
    ReturnsInHanded {} Tryz.checked os 3 .any (fun w args => (Rows.zicListsSpec.pre enc Tryz.prog Tryz.f3 [] false w args ∧ laidMetH Tryz.prog Rows.zicListsRow.laid w) ∧ sizedMet enc Tryz.prog Tryz.f3 (OpenSpec.ofChange Rows.zicListsSpec) false w args)
      (Rows.zicListsSpec.post enc Tryz.prog Tryz.f3 false true false false) := by
  refine both.handed_both (C := Tryz.checked) (X := fun w _ => laidMetH Tryz.prog Rows.zicListsRow.laid w) (fun _ _ _ hh h => h.of_heap hh) law.own started (by kernel_rfl) Tryz.func3
    (ChangeSpec.witness_shaped (enc := enc) (C := Tryz.checked) (os := os) (X := fun w _ => laidMetH Tryz.prog Rows.zicListsRow.laid w) false (World.laidAll Tryz.prog os Rows.zicListsRow.laid) #[.agg #[.slice none 0 0, .bool false, .int .i64 0], .int .i64 0] 8 (World.laidAll_os _ _ _) (World.shaped_of_ZipB (by kernel_rfl) (by kernel_rfl)) (by kernel_rfl) (by kernel_rfl) (by kernel_rfl) (by rw [MakeChecks.laidMetH_plain _ _ _ (by kernel_rfl)]; exact laidMet_laidAll _ (by kernel_rfl) (by kernel_rfl))) ?_
  intro W base args ds gs before hval0 hW _ _ hL hsh _
  rw [MakeChecks.laidMetH_plain _ _ _ (by kernel_rfl)] at hL
  have T0 := zic.all_of hL (by repeat first | exact List.Mem.head _ | refine List.Mem.tail _ ?_) (by repeat first | exact List.Mem.head _ | refine List.Mem.tail _ ?_) (by repeat first | exact List.Mem.head _ | refine List.Mem.tail _ ?_) (by repeat first | exact List.Mem.head _ | refine List.Mem.tail _ ?_) hsh
  have T1 := list.all_of hL (by repeat first | exact List.Mem.head _ | refine List.Mem.tail _ ?_) (by repeat first | exact List.Mem.head _ | refine List.Mem.tail _ ?_) (by repeat first | exact List.Mem.head _ | refine List.Mem.tail _ ?_) (by repeat first | exact List.Mem.head _ | refine List.Mem.tail _ ?_) (by repeat first | exact List.Mem.head _ | refine List.Mem.tail _ ?_) hsh
  have hval : ∀ (j : Nat) t v, Tryz.f3.params[j]? = some t → args[j]? = some v → Value.okWide Tryz.prog W .any base t v := hval0
  have hW' := hW
  obtain ⟨p, q, hA0, hV, rfl, hfz, hnd⟩ := hW
  have hA : DataW.TrodAll enc Tryz.prog W 0 (fun _ => true) true Tryz.f3.params.toList args.toList ds p := hA0
  rw [Tryz.params3] at hA hval
  obtain ⟨v0, vs0, d0, ds0, p0, q0, hargs, rfl, rfl, h0, r0⟩ := trodAll_cons hA
  obtain ⟨v1, vs1, d1, ds1, p1, q1, rfl, rfl, rfl, h1, r1⟩ := trodAll_cons r0
  obtain ⟨rfl, rfl, rfl⟩ := trodAll_nil r1
  obtain rfl : args = #[v0, v1] := by cases args; simp_all
  obtain ⟨rfl, rfl⟩ := trodVars_none hV
  clear hA0 hval0
  obtain ⟨A0_, k0_, l0_, b0_, x0_, rfl, q0_, n0_, m0_, w0_⟩ := leap.open_table (hval 0 24 v0 rfl rfl) h0
  obtain ⟨a1, rfl, hd1, hp1, w1⟩ := open_int Tryz.underlying3 (hval 1 3 v1 rfl rfl) h1
  refine (Calls.mono (R := fun e w' => e = .returned (.bool true) ∧ Below W.heap.size W w') ?_ fun e W' ⟨he, hb⟩ => ?_)
  · exact walk W l0_ A0_ k0_ b0_ x0_ q0_ n0_ m0_ w0_ a1 (bounds_i64 w1) T0 T1
  · subst he
    exact ⟨_, rfl, law.post law.laidOut (by kernel_rfl) rfl rfl Tryz.underlying4 rfl hW' hb⟩

theorem over : Rows.zicListsRow.holds Tryz.pinned (OpenSpec.ofChange Rows.zicListsSpec) :=
  OpenClaim.holds_of_wide 3 Tryz.f3 rfl rfl rfl rfl rfl rfl rfl ⟨rfl, rfl, rfl, rfl, rfl⟩ rfl rfl rfl rfl rfl (by kernel_rfl) Tryz.func3 (by kernel_rfl)
    (of_decide_eq_true (by kernel_rfl)) (by unfold Func.isWrapper; first | (rw [if_pos (by decide +kernel)]; kernel_rfl) | (rw [if_neg (by decide +kernel)]; exact ⟨rfl, rfl⟩))
    (fun os started H enc _ => lifted os started H enc)

theorem proved : Rows.ZicListsCardSaid :=
  Claim7.holds_tied_plain_at .later [] _ _ _ _ over (fun _ h => by cases h) (by kernel_rfl) (fun _ h => by cases h) zicLists_row_tie rfl ⟨rfl, rfl⟩ (by kernel_rfl) rfl
    (fun f fn hf hfn => by
      obtain rfl : f = 3 := Option.some.inj ((show Tryz.prog.funcNamed "epact/epactlaw11.ZicLists" = some 3 by kernel_rfl).symm.trans hf) |>.symm
      obtain rfl : fn = Tryz.f3 := (Option.some.inj (Tryz.func3.symm.trans hfn)).symm
      exact ⟨by kernel_rfl, fun j t ht => by
        have hall : (Tryz.f3.params.toList.all fun u => !Tryz.prog.wantsStandIn u) = true := by kernel_rfl
        have hm : t ∈ Tryz.f3.params.toList := by rw [Array.mem_toList_iff]; exact Array.mem_of_getElem? ht
        exact (show Tryz.prog.wantsStandIn t = false by simpa using List.all_eq_true.1 hall t hm)⟩)
    (by kernel_rfl)
end Go.Proofs.YtpkohihnocblfaaGreatDoor.zicLists
