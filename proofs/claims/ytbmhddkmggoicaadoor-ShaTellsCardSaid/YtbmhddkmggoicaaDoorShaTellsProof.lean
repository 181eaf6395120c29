/-
  ShaTells: package sha answers as the document's own answers do, for any bytes and any digest. Condition: the row's own (package sha's variable start holds what its initialiser lays; the card ties that).
-/
import Derived.Test.YtbmhddkmggoicaaDoorShaApp
import Derived.Test.YtbmhddkmggoicaaDoorRef06Hex
import Derived.Test.YtbmhddkmggoicaaDoorRef06Sum
import Derived.Test.YtbmhddkmggoicaaDoorRef06Block
import Derived.Test.YtbmhddkmggoicaaDoorCards
import Derived.Test.YtbmhddkmggoicaaDoorTie
import Derived.SevenTiedAt
import Derived.Lib.QuietBelow
namespace Go.Proofs.YtbmhddkmggoicaaDoor.shaTells
open Go.ChangeShapes Go.WideShapes Go.ChangeAt Go.RowKit
open sx sha
set_option linter.unusedVariables false

set_option maxHeartbeats 4000000 in
theorem walk0 (HB : ref06.BlockOk) (w : World) (v : Value) (l : List Nat) (hr : RdW w v l) (hby : Bys l) (hln : l.length ≤ 9223372036854775807) (f : Nat → Nat) (hf : Byt f 20) (T : St w) : Calls Tryd.prog 3 #[v, .agg (cs .u8 f 20)] w fun e w' => e = .returned (.bool true) ∧ Below w.heap.size w w' := by
  have hb0 : Below w.heap.size w (w.alloc (.cells (cs .u8 f 20) 23)) := bal (Below.refl _ _) _
  have SM := Lib.hid (small_true _ (T.below hb0))
  have HR := Lib.hid hr
  obtain ⟨A, cap, rfl, _⟩ := hr
  by_cases h5 : 500 < l.length
  · go_enter Tryd.func3, Tryd.ntmps3
    go_wp2_with (go_at_call 7; (with_reducible refine SM.out.mono ?_); rintro e w1 ⟨rfl, hb1⟩)
    go_ret
    exact ⟨rfl, btr hb0 hb1⟩
  · have h5' : l.length ≤ 500 := by omega
    obtain ⟨s, hs, HX⟩ := hex_as f hf
    have CH := Lib.hid (fun w d os => below_of HX w d os)
    have CR := Lib.hid (fun w d os => below_of (fun W => ref06.hex_any f W hf s hs) w d os)
    have CW := Lib.hid (fun w d os => below_of (fun W => words_any f W hf) w d os)
    have CV := Lib.hid (fun w d os => below_of (fun W => refwords_any f W hf) w d os)
    have E5 : ∀ W, (Op.equalIn 10000 28 (.agg #[.int .u32 (word f 0 : Nat), .int .u32 (word f 1 : Nat), .int .u32 (word f 2 : Nat), .int .u32 (word f 3 : Nat), .int .u32 (word f 4 : Nat)]) (.agg #[.int .u32 (word f 0 : Nat), .int .u32 (word f 1 : Nat), .int .u32 (word f 2 : Nat), .int .u32 (word f 3 : Nat), .int .u32 (word f 4 : Nat)])).run Tryd.prog W = .ok (same (word f) (word f) 5) W := fun W => eq5 (word f) (word f) W
    rw [same_self] at E5
    obtain ⟨D, hD⟩ : ∃ D, D = dig (sumV l) := ⟨_, rfl⟩
    have EQ := fun W => eq20 D D W
    simp only [same_self] at EQ
    have HDD := Lib.hid hD
    clear hs HX hD
    go_enter Tryd.func3, Tryd.ntmps3
    go_wp2_with (go_at_call 7; (with_reducible refine SM.out.mono ?_); rintro e w1 ⟨rfl, hb1⟩; clear SM; have G1 := Lib.hid (kept (hp_new w _) hb1); have B1 := btr hb0 hb1)
    have R1 := HR.out.below B1
    have S7 := Lib.hid (sum_one T (W := w1.drew) B1.drew (R1.below ((Below.refl _ _).drew)) hby (by omega))
    rw [← HDD.out] at S7
    have R1' := Lib.hid R1
    clear R1
    refine wp_region_any (by kernel_rfl) ?_
    change wpAny _ _ _ _ _ _ _ w1.drew
    refine wpAny_take (i := 0) (v := ?_) rfl (by kernel_rfl) (by kernel_rfl) (by kernel_rfl) (fun _ _ _ h => h) (Or.inl ⟨by rfl, by (intro w; go_simp; try with_reducible rfl)⟩) ?_
    simp only [List.getElem_toArray, List.getElem_cons_zero]
    refine wpAny_take (i := 1) (v := ?_) rfl (by kernel_rfl) (by kernel_rfl) (by kernel_rfl) (fun _ _ _ h => h) (Or.inl ⟨by rfl, by (intro w; go_simp; try with_reducible rfl)⟩) ?_
    simp only [List.getElem_toArray, List.getElem_cons_zero, List.getElem_cons_succ]
    refine wpAny_take (i := 2) (v := ?_) rfl (by kernel_rfl) (by kernel_rfl) (by kernel_rfl) (fun _ _ _ h => h) (Or.inl ⟨by rfl, by (intro w; go_simp; try with_reducible rfl)⟩) ?_
    simp only [List.getElem_toArray, List.getElem_cons_zero, List.getElem_cons_succ]
    refine wpAny_take (i := 5) (v := ?_) rfl (by kernel_rfl) (by kernel_rfl) (by kernel_rfl) (fun _ _ _ h => h) (Or.inl ⟨by rfl, by (intro w; go_simp; try with_reducible rfl)⟩) ?_
    simp only [List.getElem_toArray, List.getElem_cons_zero, List.getElem_cons_succ]
    refine wpAny_all (rs := [3]) (by kernel_rfl) (by simp) (fun i hi => ?_)
    obtain rfl : i = 3 := by simpa using hi
    refine op_any rfl (by rfl) (fun K' hK' => ?_)
    go_simp
    refine hK' _ _ ?_
    refine wpAny_all (rs := [4]) (by kernel_rfl) (by simp) (fun i hi => ?_)
    obtain rfl : i = 4 := by simpa using hi
    refine op_any rfl (by rfl) (fun K' hK' => ?_)
    go_simp
    go_at_call 8
    refine S7.out.mono ?_
    rintro e w7 ⟨rfl, hb7'⟩
    have hb7 : Below w1.heap.size w1 w7 := (Below.refl _ w1).drew.trans hb7'
    refine hK' _ _ ?_
    have S8 := Lib.hid (ref06.sum_any HB l _ w7 (R1'.out.below hb7) hby (by omega))
    rw [← HDD.out] at S8
    refine wpAny_all (rs := [6]) (by kernel_rfl) (by simp) (fun i hi => ?_)
    obtain rfl : i = 6 := by simpa using hi
    refine op_any rfl (by rfl) (fun K' hK' => ?_)
    go_simp
    go_at_call 9
    refine S8.out.mono ?_
    rintro e w8 ⟨rfl, hb8'⟩
    have hb8 : Below w1.heap.size w1 w8 := btr hb7 hb8'
    refine hK' _ _ ?_
    have G8 := Lib.hid (kept G1.out hb8)
    have B8 := btr B1 hb8
    refine wpAny_all (rs := [7]) (by kernel_rfl) (by simp) (fun i hi => ?_)
    obtain rfl : i = 7 := by simpa using hi
    refine op_any rfl (by rfl) (fun K' hK' => ?_)
    go_simp
    refine hK' _ _ ?_
    refine wpAny_all (rs := [8]) (by kernel_rfl) (by simp) (fun i hi => ?_)
    obtain rfl : i = 8 := by simpa using hi
    refine op_any rfl (by rfl) (fun K' hK' => ?_)
    go_simp
    refine hK' _ _ ?_
    refine wpAny_all (rs := [9]) (by kernel_rfl) (by simp) (fun i hi => ?_)
    obtain rfl : i = 9 := by simpa using hi
    refine op_any rfl (by rfl) (fun K' hK' => ?_)
    go_simp
    refine hK' _ _ ?_
    refine quiet_from (C := fun w' => ∃ p : Regrown, w' = Sort.grow (redrawn w8 p.d) p.os) 10 rfl (by kernel_rfl) (by kernel_rfl) ⟨⟨w8.drawn, #[]⟩, by rw [Sort.grow_empty]; rfl⟩ ?_
    simp only [List.drop_succ_cons, List.drop_zero]
    refine qload (by rfl) 23 (.tmp 3) rfl ⟨w.heap.size, 0, none⟩ rfl _ (regrown20 G8.out) ?_
    quiet_step ((go_at_call 10; with_reducible exact CW.out _ _ _))
    refine qload (by rfl) 23 (.tmp 3) rfl ⟨w.heap.size, 0, none⟩ rfl _ (regrown20 G8.out) ?_
    quiet_step ((go_at_call 11; with_reducible exact CV.out _ _ _))
    repeat quiet_step (fail)
    refine qload (by rfl) 23 (.tmp 3) rfl ⟨w.heap.size, 0, none⟩ rfl _ (regrown20 G8.out) ?_
    quiet_step ((go_at_call 12; with_reducible exact CH.out _ _ _))
    refine qload (by rfl) 23 (.tmp 3) rfl ⟨w.heap.size, 0, none⟩ rfl _ (regrown20 G8.out) ?_
    quiet_step ((go_at_call 13; with_reducible exact CR.out _ _ _))
    repeat quiet_step (fail)
    refine wpQuiet_nil ?_
    intro _ hw'
    obtain ⟨⟨dq, osq⟩, hw''⟩ := hw'
    subst hw''
    have hb3 : Below w.heap.size w (Sort.grow (redrawn w8 dq) osq) := btr B8 (below_regrown w8 dq osq)
    generalize Sort.grow (redrawn w8 dq) osq = W3 at *
    clear EQ E5
    go_wp2
    go_ret
    exact ⟨ret_bool (by first | rfl | simp), hb3⟩
theorem walk (w : World) (v : Value) (l : List Nat) (hr : RdW w v l) (hby : Bys l) (hln : l.length ≤ 9223372036854775807) (f : Nat → Nat) (hf : Byt f 20) (T : St w) : Calls Tryd.prog 3 #[v, .agg (cs .u8 f 20)] w fun e w' => e = .returned (.bool true) ∧ Below w.heap.size w w' :=
  walk0 ref06.block_any w v l hr hby hln f hf T
theorem door_met (os : Os) (args : Array Value) : laidMetH Tryd.prog Rows.shaTellsRow.laid ((World.doorLaid Tryd.prog 400 os).forCall (fun _ _ => 0) ⟨#[], args, []⟩).memory :=
  laidMetH_of_parts3 (fuel := 8) (laidMet_of_run' 8 (by kernel_rfl) (by kernel_rfl)) (by kernel_rfl) (by kernel_rfl)
set_option maxRecDepth 100000 in
theorem lifted (os : Os) (started : os.Started) (H : Type) (enc : TypeId × Value → H) :
    ReturnsInHanded {} Tryd.checked os 3 .any (fun w args => (Rows.shaTellsSpec.pre enc Tryd.prog Tryd.f3 [] false w args ∧ laidMetH Tryd.prog Rows.shaTellsRow.laid w) ∧ sizedMet enc Tryd.prog Tryd.f3 (OpenSpec.ofChange Rows.shaTellsSpec) false w args)
      (Rows.shaTellsSpec.post enc Tryd.prog Tryd.f3 false true false false) := by
  refine returnsInHanded_of_change_and (C := Tryd.checked) (X := fun w _ => laidMetH Tryd.prog Rows.shaTellsRow.laid w) (fun _ _ _ hh h => h.of_heap hh) law.own started (by kernel_rfl) Tryd.func3
    (ChangeSpec.witness_shaped (enc := enc) (C := Tryd.checked) (os := os) (X := fun w _ => laidMetH Tryd.prog Rows.shaTellsRow.laid w) false (World.doorLaid Tryd.prog 400 os) #[.slice none 0 0, .agg #[.int .u8 0, .int .u8 0, .int .u8 0, .int .u8 0, .int .u8 0, .int .u8 0, .int .u8 0, .int .u8 0, .int .u8 0, .int .u8 0, .int .u8 0, .int .u8 0, .int .u8 0, .int .u8 0, .int .u8 0, .int .u8 0, .int .u8 0, .int .u8 0, .int .u8 0, .int .u8 0]] 8 rfl (World.shaped_of_RefB (by kernel_rfl) (by kernel_rfl)) (by kernel_rfl) (by kernel_rfl) (by kernel_rfl) (door_met os _)) ?_
  intro W base args ds gs before hval0 hW _ _ hL _
  rw [MakeChecks.laidMetH_plain _ _ _ (by kernel_rfl)] at hL
  have T0 := sha.st_of hL (by repeat first | exact List.Mem.head _ | refine List.Mem.tail _ ?_)
  have hval : ∀ (j : Nat) t v, Tryd.f3.params[j]? = some t → args[j]? = some v → Value.okWide Tryd.prog W .any base t v := hval0
  have hW' := hW
  obtain ⟨p, q, hA0, hV, rfl, hfz, hnd⟩ := hW
  have hA : DataW.TrodAll enc Tryd.prog W 0 (fun _ => true) true Tryd.f3.params.toList args.toList ds p := hA0
  rw [Tryd.params3] at hA hval
  obtain ⟨v0, vs0, d0, ds0, p0, q0, hargs, rfl, rfl, h0, r0⟩ := trodAll_cons hA
  obtain ⟨v1, vs1, d1, ds1, p1, q1, rfl, rfl, rfl, h1, r1⟩ := trodAll_cons r0
  obtain ⟨rfl, rfl, rfl⟩ := trodAll_nil r1
  obtain rfl : args = #[v0, v1] := by cases args; simp_all
  obtain ⟨rfl, rfl⟩ := trodVars_none hV
  clear hA0 hval0
  refine (Calls.mono (R := fun e w' => e = .returned (.bool true) ∧ Below W.heap.size W w') ?_ fun e W' ⟨he, hb⟩ => ?_)
  · obtain ⟨l0_, r0_, s0_, u0_⟩ := sha.open_bytes (hval 0 22 v0 rfl rfl) h0
    obtain ⟨f1_, rfl, s1_⟩ := sha.open_digest (hval 1 23 v1 rfl rfl) h1
    exact walk W _ _ r0_ s0_ u0_ _ s1_ T0
  · subst he
    exact ⟨_, rfl, law.post law.laidOut (by kernel_rfl) rfl rfl Tryd.underlying4 rfl hW' hb⟩

theorem over : Rows.shaTellsRow.holds Tryd.pinned (OpenSpec.ofChange Rows.shaTellsSpec) :=
  OpenClaim.holds_of_wide 3 Tryd.f3 rfl rfl rfl rfl rfl rfl rfl ⟨rfl, rfl, rfl, rfl, rfl⟩ rfl rfl rfl rfl rfl (by kernel_rfl) Tryd.func3 (by kernel_rfl)
    (of_decide_eq_true (by kernel_rfl)) (by unfold Func.isWrapper; first | (rw [if_pos (by decide +kernel)]; kernel_rfl) | (rw [if_neg (by decide +kernel)]; exact ⟨rfl, rfl⟩))
    (fun os started H enc _ => lifted os started H enc)

theorem proved : Rows.ShaTellsCardSaid :=
  Claim7.holds_tied_plain_at .later [] _ _ _ _ over (fun _ h => by cases h) (by kernel_rfl) (fun _ h => by cases h) shaTells_row_tie rfl ⟨rfl, rfl⟩ (by kernel_rfl) rfl
    (fun f fn hf hfn => by
      obtain rfl : f = 3 := Option.some.inj ((show Tryd.prog.funcNamed "epact/epactlaw06.ShaTells" = some 3 by kernel_rfl).symm.trans hf) |>.symm
      obtain rfl : fn = Tryd.f3 := (Option.some.inj (Tryd.func3.symm.trans hfn)).symm
      exact ⟨by kernel_rfl, fun j t ht => by
        have hall : (Tryd.f3.params.toList.all fun u => !Tryd.prog.wantsStandIn u) = true := by kernel_rfl
        have hm : t ∈ Tryd.f3.params.toList := by rw [Array.mem_toList_iff]; exact Array.mem_of_getElem? ht
        exact (show Tryd.prog.wantsStandIn t = false by simpa using List.all_eq_true.1 hall t hm)⟩)
    (by kernel_rfl)
end Go.Proofs.YtbmhddkmggoicaaDoor.shaTells
