/-
  ListTells: Parse, Text and Hash answer as the document's own do, for every text of at most 3000 bytes, every table of at most 300 leaps and every stamp. Condition: the row's own (the listed tables hold what their initialisers lay; the card ties that).
-/
import Derived.Test.YtldieebiicblbaaGreatDoorG25
import Derived.Test.YtldieebiicblbaaGreatDoorG26
import Derived.Test.YtldieebiicblbaaGreatDoorG34
import Derived.Test.YtldieebiicblbaaGreatDoorG35
import Derived.Test.YtldieebiicblbaaGreatDoorG37
import Derived.Test.YtldieebiicblbaaGreatDoorCards
import Derived.Test.YtldieebiicblbaaGreatDoorTie
import Derived.SevenTiedAt
namespace Go.Proofs.YtldieebiicblbaaGreatDoor.listTells
open Go.ChangeShapes Go.WideShapes Go.ChangeAt Go.RowKit
open list leap lm mem lx
open ls (parse TOK)
set_option linter.unusedVariables false
set_option maxRecDepth 100000

theorem bx_at3 {W : World} {x0 x1 x2 x3 : Nat × Obj} {l : List (Nat × Obj)} (h : Bx W (x0 :: x1 :: x2 :: x3 :: l)) : W.heap[x3.1]? = some x3.2 := h 3 _ rfl
theorem eqS (a b : Int) (W : World) : (Op.equalIn 10000 29 (.agg #[.int .i64 a, .int .i64 b]) (.agg #[.int .i64 a, .int .i64 b])).run Tryz.prog W = .ok true W := by
  have := eqF a b a b W
  simpa using this
set_option maxHeartbeats 8000000 in
theorem walk (w : World) (s : ByteArray) (hs : s.size ≤ maxLen) (l : List Lp) (A : Option Addr) (c : Nat) (has : Bool) (x : Int) (hl : Lps w A l) (hn : l.length ≤ 9223372036854775807) (hc : l.length ≤ c) (hx : -9223372036854775808 ≤ x ∧ x ≤ 9223372036854775807) (d : Int) (hd : -9223372036854775808 ≤ d ∧ d ≤ 9223372036854775807) (T : list.All w) :
    Calls Tryz.prog 3 #[.string s, .agg #[.slice A l.length c, .bool has, .int .i64 x], .int .i64 d] w fun e w' => e = .returned (.bool true) ∧ Below w.heap.size w w' := by
  have hw0 : Below w.heap.size w (w.alloc (.cells #[.slice A l.length c, .bool has, .int .i64 x] 24)) := bal (Below.refl _ _) _
  have box : (w.alloc (.cells #[.slice A l.length c, .bool has, .int .i64 x] 24)).heap[w.heap.size]? = some (.cells (tcs A l.length c has x) 24) := hp_new w _
  have hl0 := hl.below hw0
  have T0 := T.below hw0
  go_enter Tryz.func3, Tryz.ntmps3
  go_wp2_with fail
  generalize w.alloc (.cells #[.slice A l.length c, .bool has, .int .i64 x] 24) = W0 at *
  have HW := Lib.hid hw0
  clear hw0 hl T
  generalize hN : w.heap.size = N at *
  have hA : Below W0.heap.size W0 W0 := Below.refl _ _
  have SM : Hid (∀ W, Below W0.heap.size W0 W → Calls Tryz.prog 4 #[] W fun e w' => e = .returned (.bool true) ∧ Below W.heap.size W w') := fun W hb => small_at W (T0.below hb)
  have FE : Hid (∀ W, Below W0.heap.size W0 W → Calls Tryz.prog 5 #[.agg #[.slice A l.length c, .bool has, .int .i64 x]] W fun e w' => e = .returned (.bool (decide (l.length ≤ 300))) ∧ Below W.heap.size W w') := fun W hb => few_at A l.length c has x W hn
  have RI : Hid (∀ W, Below W0.heap.size W0 W → Calls Tryz.prog 16 #[.agg #[.slice A l.length c, .bool has, .int .i64 x]] W fun e w' => e = .returned (.bool (ce l has x == 0)) ∧ Below W.heap.size W w') := fun W hb => right_at l A c has x W (T0.below hb).tabs (hl0.below hb) hn
  have TC := Lib.hid (fun W (hb : Below W0.heap.size W0 W) => tcs_cells (kept box hb))
  have EX : Hid (∀ W, Below W0.heap.size W0 W → Below w.heap.size w W) := fun W hb => by rw [hN]; exact HW.out.trans (hb.mono (by have := HW.out.size; rw [hN] at this; exact this))
  have HL := Lib.hid (fun W (hb : Below W0.heap.size W0 W) => hl0.below hb)
  obtain ⟨c0, c1, c2⟩ := TC.out _ hA
  by_cases g1 : l.length ≤ 300
  · rw [decide_eq_true g1] at FE
    by_cases g2 : 3000 < s.size
    · have t1 : decide ((s.size : Int) > 3000) = true := by simp; omega
      have t2 : decide (3000 < (s.size : Int)) = true := by simp; omega
      have t3 : decide (3000 < s.size) = true := by simp; omega
      clear T0 hl0 box RI
      generalize l.length = n at *
      go_wp2_with (first
        | (go_at_call 4; with_reducible refine (SM.out _ hA).mono ?_; rintro e w1 ⟨rfl, hb1⟩; have hA := btr hA hb1; clear c0 c1 c2; obtain ⟨c0, c1, c2⟩ := TC.out _ hA)
        | (go_at_call 5; with_reducible refine (FE.out _ hA).mono ?_; rintro e w1 ⟨rfl, hb1⟩; have hA := btr hA hb1; clear c0 c1 c2; obtain ⟨c0, c1, c2⟩ := TC.out _ hA))
      go_ret
      exact ⟨rfl, by first | exact EX.out _ hA | (rw [← hN]; exact EX.out _ hA)⟩
    have t1 : decide (3000 < s.size) = false := by simp; omega
    have t3 : decide (3000 < (s.size : Int)) = false := by simp; omega
    have t5 : ¬ 3000 < (s.size : Int) := by omega
    obtain ⟨S, b, TZ, TR⟩ : ∃ (S : ByteArray) (b : Bool), Hid (∀ W, Below W0.heap.size W0 W → Calls Tryz.prog 8 #[.agg #[.slice A l.length c, .bool has, .int .i64 x], .int .i64 d] W fun e w' => e = .returned (.tuple #[.string S, .bool b]) ∧ Below W.heap.size W w') ∧
        Hid (∀ W, Below W0.heap.size W0 W → Calls Tryz.prog 9 #[.agg #[.slice A l.length c, .bool has, .int .i64 x], .int .i64 d] W fun e w' => e = .returned (.tuple #[.string S, .bool b]) ∧ Below W.heap.size W w') := by
      by_cases hk : TOK l has x d
      · refine ⟨B (ls.byl (ls.full l has x d)), true, fun W hb => ?_, fun W hb => ?_⟩
        · have T' := T0.below hb
          refine (list.text_at l A c has x d W T'.tabs T'.ml T'.st T'.pw T'.tz (hl0.below hb) hn hd).mono ?_
          rintro e w' ⟨hb', ⟨_, he⟩ | ⟨h, _⟩⟩
          · exact ⟨he, hb'⟩
          · exact absurd hk h
        · refine (ref10.text_at ref06.block_any l A c has x d W (hl0.below hb) hn hd).mono ?_
          rintro e w' ⟨hb', ⟨_, he⟩ | ⟨h, _⟩⟩
          · exact ⟨he, hb'⟩
          · exact absurd hk h
      · refine ⟨⟨#[]⟩, false, fun W hb => ?_, fun W hb => ?_⟩
        · have T' := T0.below hb
          refine (list.text_at l A c has x d W T'.tabs T'.ml T'.st T'.pw T'.tz (hl0.below hb) hn hd).mono ?_
          rintro e w' ⟨hb', ⟨h, _⟩ | ⟨_, he⟩⟩
          · exact absurd h hk
          · exact ⟨he, hb'⟩
        · refine (ref10.text_at ref06.block_any l A c has x d W (hl0.below hb) hn hd).mono ?_
          rintro e w' ⟨hb', ⟨h, _⟩ | ⟨_, he⟩⟩
          · exact absurd h hk
          · exact ⟨he, hb'⟩
    have PZ : Hid (∀ W, Below W0.heap.size W0 W → Calls Tryz.prog 6 #[.string s] W (list.PTold (parse ((splitS s).map L)) W)) := fun W hb => by
      have T' := T0.below hb
      exact list.parse_at s W T'.tabs T'.ml T'.st (by omega)
    have PR : Hid (∀ W, Calls Tryz.prog 7 #[.string s] W (ref10.QTold (parse ((splitS s).map L)) W)) := fun W => ref10.parse_at ref06.block_any s W (by omega)
    unfold list.PTold tcs list.fcs at PZ
    unfold ref10.QTold tcs list.fcs at PR
    have HZ : Hid (∀ W, Below W0.heap.size W0 W → Calls Tryz.prog 11 #[.string s] W fun e w' => e = .returned (.agg (sx.cs .u8 (sx.dig (sx.sumV (sha.nats (ls.hsh ((splitS s).map L))))) 20)) ∧ Below W.heap.size W w') := fun W hb => list.hash_at s W (T0.below hb).ml (T0.below hb).st (by omega)
    have HR : Hid (∀ W, Calls Tryz.prog 12 #[.string s] W fun e w' => e = .returned (.agg (sx.cs .u8 (sx.dig (sx.sumV (sha.nats (ls.hsh ((splitS s).map L))))) 20)) ∧ Below W.heap.size W w') := fun W => ref10.hash_at ref06.block_any s W (by omega)
    have EQ := fun W => sha.eq20 (sx.dig (sx.sumV (sha.nats (ls.hsh ((splitS s).map L))))) (sx.dig (sx.sumV (sha.nats (ls.hsh ((splitS s).map L))))) W
    simp only [sha.same_self] at EQ
    generalize sx.cs .u8 (sx.dig (sx.sumV (sha.nats (ls.hsh ((splitS s).map L))))) 20 = DG at *
    have LN : (parse ((splitS s).map L)).lv.length ≤ 200 := by
      rcases ls.parse_right ((splitS s).map L) with ⟨_, _, _, h⟩ | ⟨_, _, _, _, h, _⟩
      · exact (lm.good_of h).len
      · rw [h]; simp
    generalize parse ((splitS s).map L) = o at *
    obtain ⟨ln, cd, lv, hs2, x2'⟩ := o
    simp only at PZ PR LN
    have SA : Hid (∀ A' c' A'' c'' W, Lps W A' lv → Lps W A'' lv → Calls Tryz.prog 10 #[.agg #[.slice A' lv.length c', .bool hs2, .int .i64 x2'], .agg #[.slice A'' lv.length c'', .bool hs2, .int .i64 x2']] W fun e w' => e = .returned (.bool true) ∧ Below W.heap.size W w') := fun A' c' A'' c'' W h h' => by
      have := ref09.same_at lv lv A' A'' c' c'' hs2 hs2 x2' x2' W h h' (by omega) (by omega)
      rw [sm_self] at this
      exact this
    have EF := fun W => eqS (ln : Int) cd W
    clear T0 hl0 box RI g1 g2
    generalize l.length = n at *
    go_wp2_with (first
      | (go_at_call 4; with_reducible refine (SM.out _ hA).mono ?_; rintro e w1 ⟨rfl, hb1⟩; have hA := btr hA hb1; clear c0 c1 c2; obtain ⟨c0, c1, c2⟩ := TC.out _ hA)
      | (go_at_call 5; with_reducible refine (FE.out _ hA).mono ?_; rintro e w1 ⟨rfl, hb1⟩; have hA := btr hA hb1; clear c0 c1 c2; obtain ⟨c0, c1, c2⟩ := TC.out _ hA)
      | (go_at_call 6; (with_reducible refine (PZ.out _ hA).mono ?_); rintro e w2 ⟨A1, k1, rfl, hl1, _, hb2⟩; have X2 := Lib.hid (fun a b => bx_two (bx_nil w2) a b); have B2 := Lib.hid (fun a b => bal (bal (btr hA hb2) a) b); have K2 := Lib.hid (fun a b => hl1.below (b2 w2 a b)); clear hA hl1 c0 c1 c2)
      | (go_at_call 7; (with_reducible refine (PR.out _).mono ?_); rintro e w3 ⟨A2, k2, rfl, hl2, hb3⟩; have X3 := Lib.hid (fun a b => bx_two (bx_below (X2.out _ _) hb3) a b); have B3 := Lib.hid (fun a b => bal (bal (btr (B2.out _ _) hb3) a) b); have K3 := Lib.hid (fun a b => ((K2.out _ _).below hb3).below (b2 w3 a b)); have J3 := Lib.hid (fun a b => hl2.below (b2 w3 a b)); clear hl2; have c0 := fun a b => (TC.out _ (B3.out a b)).1; have c1 := fun a b => (TC.out _ (B3.out a b)).2.1; have c2 := fun a b => (TC.out _ (B3.out a b)).2.2)
      | (go_at_call 8; (with_reducible refine (TZ.out _ (B3.out _ _)).mono ?_); rintro e w4 ⟨rfl, hb⟩; have hA := btr (B3.out _ _) hb; have X := Lib.hid (bx_below (X3.out _ _) hb); have KA := Lib.hid ((K3.out _ _).below hb); have JA := Lib.hid ((J3.out _ _).below hb); clear c0 c1 c2; obtain ⟨c0, c1, c2⟩ := TC.out _ hA)
      | (go_at_call 9; (with_reducible refine (TR.out _ hA).mono ?_); rintro e w4 ⟨rfl, hb⟩; have hA := btr hA hb; have X := Lib.hid (bx_below X.out hb); have KA := Lib.hid (KA.out.below hb); have JA := Lib.hid (JA.out.below hb); clear c0 c1 c2; obtain ⟨c0, c1, c2⟩ := TC.out _ hA; have x0 := (tab_cells (bx_at3 X.out)).1; have x1 := (tab_cells (bx_at3 X.out)).2.1; have x2 := (tab_cells (bx_at3 X.out)).2.2; have y0 := (tab_cells (bx_at1 X.out)).1; have y1 := (tab_cells (bx_at1 X.out)).2.1; have y2 := (tab_cells (bx_at1 X.out)).2.2)
      | (go_at_call 10; (with_reducible refine (SA.out _ _ _ _ _ KA.out JA.out).mono ?_); rintro e w9 ⟨rfl, hb⟩; have hA := btr hA hb; have X := Lib.hid (bx_below X.out hb); obtain ⟨p0, p1⟩ := flt_cells (bx_at2 X.out); obtain ⟨q0, q1⟩ := flt_cells (bx_at0 X.out))
      | (go_at_call 11; (with_reducible refine (HZ.out _ hA).mono ?_); rintro e w10 ⟨rfl, hb⟩; have hA := btr hA hb)
      | (go_at_call 12; (with_reducible refine (HR.out _).mono ?_); rintro e w11 ⟨rfl, hb⟩; have hA := btr hA hb))
    go_ret
    exact ⟨rfl, by first | exact EX.out _ hA | (rw [← hN]; exact EX.out _ hA)⟩
  · rw [decide_eq_false g1] at FE
    clear T0 hl0 box RI g1
    generalize l.length = n at *
    go_wp2_with (first
      | (go_at_call 4; with_reducible refine (SM.out _ hA).mono ?_; rintro e w1 ⟨rfl, hb1⟩; have hA := btr hA hb1; clear c0 c1 c2; obtain ⟨c0, c1, c2⟩ := TC.out _ hA)
      | (go_at_call 5; with_reducible refine (FE.out _ hA).mono ?_; rintro e w1 ⟨rfl, hb1⟩; have hA := btr hA hb1; clear c0 c1 c2; obtain ⟨c0, c1, c2⟩ := TC.out _ hA))
    all_goals
      go_ret
      exact ⟨rfl, by first | exact EX.out _ hA | (rw [← hN]; exact EX.out _ hA)⟩
theorem door_met (os : Os) (args : Array Value) : laidMetH Tryz.prog Rows.listTellsRow.laid ((World.doorLaid Tryz.prog 400 os).forCall (fun _ _ => 0) ⟨#[], args, []⟩).memory :=
  laidMetH_of_parts3 (fuel := 8) (laidMet_of_run' 8 (by kernel_rfl) (by kernel_rfl)) (by kernel_rfl) (by kernel_rfl)
set_option maxRecDepth 100000 in
theorem lifted (os : Os) (started : os.Started) (H : Type) (enc : TypeId × Value → H) :
    ReturnsInHanded {} Tryz.checked os 3 .any (fun w args => (Rows.listTellsSpec.pre enc Tryz.prog Tryz.f3 [] false w args ∧ laidMetH Tryz.prog Rows.listTellsRow.laid w) ∧ sizedMet enc Tryz.prog Tryz.f3 (OpenSpec.ofChange Rows.listTellsSpec) false w args)
      (Rows.listTellsSpec.post enc Tryz.prog Tryz.f3 false true false false) := by
  refine list.handed_both (C := Tryz.checked) (X := fun w _ => laidMetH Tryz.prog Rows.listTellsRow.laid w) (fun _ _ _ hh h => h.of_heap hh) law.own started (by kernel_rfl) Tryz.func3
    (ChangeSpec.witness_shaped (enc := enc) (C := Tryz.checked) (os := os) (X := fun w _ => laidMetH Tryz.prog Rows.listTellsRow.laid w) false (World.doorLaid Tryz.prog 400 os) #[.string ByteArray.empty, .agg #[.slice none 0 0, .bool false, .int .i64 0], .int .i64 0] 8 rfl (World.shaped_of_RefB (by kernel_rfl) (by kernel_rfl)) (by kernel_rfl) (by kernel_rfl) (by kernel_rfl) (door_met os _)) ?_
  intro W base args ds gs before hval0 hW _ _ hL hsh _
  rw [MakeChecks.laidMetH_plain _ _ _ (by kernel_rfl)] at hL
  have T0 := list.all_of hL (by repeat first | exact List.Mem.head _ | refine List.Mem.tail _ ?_) (by repeat first | exact List.Mem.head _ | refine List.Mem.tail _ ?_) (by repeat first | exact List.Mem.head _ | refine List.Mem.tail _ ?_) (by repeat first | exact List.Mem.head _ | refine List.Mem.tail _ ?_) (by repeat first | exact List.Mem.head _ | refine List.Mem.tail _ ?_) hsh
  have hval : ∀ (j : Nat) t v, Tryz.f3.params[j]? = some t → args[j]? = some v → Value.okWide Tryz.prog W .any base t v := hval0
  have hW' := hW
  obtain ⟨p, q, hA0, hV, rfl, hfz, hnd⟩ := hW
  have hA : DataW.TrodAll enc Tryz.prog W 0 (fun _ => true) true Tryz.f3.params.toList args.toList ds p := hA0
  rw [Tryz.params3] at hA hval
  obtain ⟨v0, vs0, d0, ds0, p0, q0, hargs, rfl, rfl, h0, r0⟩ := trodAll_cons hA
  obtain ⟨v1, vs1, d1, ds1, p1, q1, rfl, rfl, rfl, h1, r1⟩ := trodAll_cons r0
  obtain ⟨v2, vs2, d2, ds2, p2, q2, rfl, rfl, rfl, h2, r2⟩ := trodAll_cons r1
  obtain ⟨rfl, rfl, rfl⟩ := trodAll_nil r2
  obtain rfl : args = #[v0, v1, v2] := by cases args; simp_all
  obtain ⟨rfl, rfl⟩ := trodVars_none hV
  clear hA0 hval0
  obtain ⟨a0, rfl, hd0, hp0, w0⟩ := ChangeMaps.open_string Tryz.underlying9 (hval 0 9 v0 rfl rfl) h0
  obtain ⟨A1_, k1_, l1_, b1_, x1_, rfl, q1_, n1_, m1_, w1_⟩ := leap.open_table (hval 1 24 v1 rfl rfl) h1
  obtain ⟨a2, rfl, hd2, hp2, w2⟩ := open_int Tryz.underlying3 (hval 2 3 v2 rfl rfl) h2
  refine (Calls.mono (R := fun e w' => e = .returned (.bool true) ∧ Below W.heap.size W w') ?_ fun e W' ⟨he, hb⟩ => ?_)
  · exact walk W a0 w0 l1_ A1_ k1_ b1_ x1_ q1_ n1_ m1_ w1_ a2 (bounds_i64 w2) T0
  · subst he
    exact ⟨_, rfl, law.post law.laidOut (by kernel_rfl) rfl rfl Tryz.underlying4 rfl hW' hb⟩

theorem over : Rows.listTellsRow.holds Tryz.pinned (OpenSpec.ofChange Rows.listTellsSpec) :=
  OpenClaim.holds_of_wide 3 Tryz.f3 rfl rfl rfl rfl rfl rfl rfl ⟨rfl, rfl, rfl, rfl, rfl⟩ rfl rfl rfl rfl rfl (by kernel_rfl) Tryz.func3 (by kernel_rfl)
    (of_decide_eq_true (by kernel_rfl)) (by unfold Func.isWrapper; first | (rw [if_pos (by decide +kernel)]; kernel_rfl) | (rw [if_neg (by decide +kernel)]; exact ⟨rfl, rfl⟩))
    (fun os started H enc _ => lifted os started H enc)

theorem proved : Rows.ListTellsCardSaid :=
  Claim7.holds_tied_plain_at .later [] _ _ _ _ over (fun _ h => by cases h) (by kernel_rfl) (fun _ h => by cases h) listTells_row_tie rfl ⟨rfl, rfl⟩ (by kernel_rfl) rfl
    (fun f fn hf hfn => by
      obtain rfl : f = 3 := Option.some.inj ((show Tryz.prog.funcNamed "epact/epactlaw10.ListTells" = some 3 by kernel_rfl).symm.trans hf) |>.symm
      obtain rfl : fn = Tryz.f3 := (Option.some.inj (Tryz.func3.symm.trans hfn)).symm
      exact ⟨by kernel_rfl, fun j t ht => by
        have hall : (Tryz.f3.params.toList.all fun u => !Tryz.prog.wantsStandIn u) = true := by kernel_rfl
        have hm : t ∈ Tryz.f3.params.toList := by rw [Array.mem_toList_iff]; exact Array.mem_of_getElem? ht
        exact (show Tryz.prog.wantsStandIn t = false by simpa using List.all_eq_true.1 hall t hm)⟩)
    (by kernel_rfl)
end Go.Proofs.YtldieebiicblbaaGreatDoor.listTells
