/-
  ShaWords: a digest's words are its bytes, four of each, the highest one first, for every digest. Condition: the row's own (package sha's variable start holds what its initialiser lays; the card ties that).
-/
import Derived.Test.YtbmhddkmggoicaaDoorShaLaw
import Derived.Test.YtbmhddkmggoicaaDoorCards
import Derived.Test.YtbmhddkmggoicaaDoorTie
import Derived.SevenTiedAt
namespace Go.Proofs.YtbmhddkmggoicaaDoor.shaWords
open Go.ChangeShapes Go.WideShapes Go.ChangeAt Go.RowKit
open sx sha
set_option linter.unusedVariables false

theorem hd_nought (n : Nat) (hn : n < 16) : (((hd n).toNat : Int) != 48) = decide (0 < n) := by
  rcases (show n = 0 ∨ n = 1 ∨ n = 2 ∨ n = 3 ∨ n = 4 ∨ n = 5 ∨ n = 6 ∨ n = 7 ∨ n = 8 ∨ n = 9 ∨ n = 10 ∨ n = 11 ∨ n = 12 ∨ n = 13 ∨ n = 14 ∨ n = 15 by omega) with rfl | rfl | rfl | rfl | rfl | rfl | rfl | rfl | rfl | rfl | rfl | rfl | rfl | rfl | rfl | rfl <;> decide
set_option maxHeartbeats 4000000 in
theorem walk (w : World) (f : Nat → Nat) (hf : Byt f 20) (T : St w) : Calls Tryd.prog 6 #[.agg (cs .u8 f 20)] w fun e w' => e = .returned (.bool true) ∧ Below w.heap.size w w' := by
  have hb0 : Below w.heap.size w (w.alloc (.cells (cs .u8 f 20) 23)) := bal (Below.refl _ _) _
  have SM := Lib.hid (small_true _ (T.below hb0))
  have WD := Lib.hid (fun W => words_any f W hf)
  obtain ⟨s, hs, HX⟩ := hex_as f hf
  have HS := Lib.hid hs
  have HX' := Lib.hid HX
  clear HX hs
  go_enter Tryd.func6, Tryd.ntmps6
  go_wp2_with (first
    | (go_at_call 7; (with_reducible refine SM.out.mono ?_); rintro e w1 ⟨rfl, hb1⟩; clear SM; have G1 := Lib.hid (kept (hp_new w _) hb1); have B1 := btr hb0 hb1)
    | (refine wpList_load_row rfl 23 (.tmp 1) rfl w.heap.size rfl _ _ _ _ G1.out Tryd.underlying23 rfl (szc sz20 _ _) ?_)
    | (go_at_call 10; (with_reducible refine (WD.out _).mono ?_); rintro e w2 ⟨rfl, hb2⟩; clear WD; have G2 := Lib.hid (kept G1.out hb2); have B2 := btr B1 hb2)
    | (refine wpList_load_row rfl 23 (.tmp 1) rfl w.heap.size rfl _ _ _ _ (hp_old G2.out _) Tryd.underlying23 rfl (szc sz20 _ _) ?_)
    | (go_at_call 12; (with_reducible refine (HX'.out _).mono ?_); rintro e w3 ⟨rfl, hb3⟩; clear HX'; have G3 := Lib.hid (kept (hp_old G2.out _) hb3); have B3 := btr (bal B2 _) hb3; have GW : Hid (w3.heap[w2.heap.size]? = some (.cells (cs .u32 (word f) 5) 28)) := kept (hp_new _ _) hb3))
  have z3 : w2.heap.size < w3.heap.size := (Array.getElem?_eq_some_iff.1 GW.out).1
  have z1 : w.heap.size < w3.heap.size := (Array.getElem?_eq_some_iff.1 G3.out).1
  go_loopw [7] (fun t W => ∃ k : Nat, k ≤ 20 ∧ t = .int .i64 k ∧ W = w3.alloc (.cells (cs .u8 (upto f k) 20) 23)) (fun t _ => 20 - (intOf t).toNat)
  case atStart => exact ⟨0, by omega, rfl, by rw [upto_zero]; rfl⟩
  case round =>
    obtain ⟨k, hk, rfl, rfl⟩ := hrel
    by_cases hlt : k < 20
    · have c1 := row_cell GW.out (k / 4) _ (cs_get .u32 (word f) 5 (k / 4) (by omega))
      have c2 := cs_get .u8 (upto f k) 20 k hlt
      have hd : ((word f (k / 4) : Nat) : Int) / 2 ^ (24 - 8 * (k % 4)) % 256 = (f k : Nat) := by
        rw [← word_byte f 20 hf k (by omega), Int.natCast_emod, Int.natCast_ediv, Int.natCast_pow]; rfl
      have ST := Lib.hid (upto_set .u8 f k 20 (.int .u8 (f k : Nat)) rfl)
      have sl := word_lt f 20 (k / 4) hf (by omega)
      generalize word f (k / 4) = X at *
      go_wp2
      rw [ST.out]
      go_roundw
      case rel => exact ⟨k + 1, by omega, by go_num, rfl⟩
      case measure => simp [intOf]; omega
    · obtain rfl : k = 20 := by omega
      rw [upto_all]
      have c0 := row_cell G3.out 0 _ (cs_get .u8 f 20 0 (by omega))
      have EQ := fun W => eq20 f f W
      simp only [same_self] at EQ
      have hsz := hexS_len HS.out
      have h0 := fun h => congrArg UInt8.toNat (hexS_at f s HS.out 0 h (by omega))
      rw [show dg f 0 = f 0 / 16 from rfl] at h0
      have f0 := hf 0 (by omega)
      have hn := hd_nought (f 0 / 16) (by omega)
      go_wp2
      refine still_region (by kernel_rfl) (by kernel_rfl) ?_
      still_step
      still_step
      refine sload (by rfl) 23 (.tmp 6) rfl ⟨w3.heap.size, 0, none⟩ rfl _ (load20 (hp_new w3 _)) ?_
      refine sload (by rfl) 23 (.tmp 1) rfl ⟨w.heap.size, 0, none⟩ rfl _ (load20 (hp_old G3.out _)) ?_
      repeat still_step
      refine wpStill_nil ?_
      clear hn h0 EQ
      go_wp2
      go_ret
      exact ⟨ret_bool (by simp; omega), (bal B3 _).drew⟩
theorem door_met (os : Os) (args : Array Value) : laidMetH Tryd.prog Rows.shaWordsRow.laid ((World.doorLaid Tryd.prog 400 os).forCall (fun _ _ => 0) ⟨#[], args, []⟩).memory :=
  laidMetH_of_parts3 (fuel := 8) (laidMet_of_run' 8 (by kernel_rfl) (by kernel_rfl)) (by kernel_rfl) (by kernel_rfl)
set_option maxRecDepth 100000 in
theorem lifted (os : Os) (started : os.Started) (H : Type) (enc : TypeId × Value → H) :
    ReturnsInHanded {} Tryd.checked os 6 .any (fun w args => (Rows.shaWordsSpec.pre enc Tryd.prog Tryd.f6 [] false w args ∧ laidMetH Tryd.prog Rows.shaWordsRow.laid w) ∧ sizedMet enc Tryd.prog Tryd.f6 (OpenSpec.ofChange Rows.shaWordsSpec) false w args)
      (Rows.shaWordsSpec.post enc Tryd.prog Tryd.f6 false true false false) := by
  refine returnsInHanded_of_change_and (C := Tryd.checked) (X := fun w _ => laidMetH Tryd.prog Rows.shaWordsRow.laid w) (fun _ _ _ hh h => h.of_heap hh) law.own started (by kernel_rfl) Tryd.func6
    (ChangeSpec.witness_shaped (enc := enc) (C := Tryd.checked) (os := os) (X := fun w _ => laidMetH Tryd.prog Rows.shaWordsRow.laid w) false (World.doorLaid Tryd.prog 400 os) #[.agg #[.int .u8 0, .int .u8 0, .int .u8 0, .int .u8 0, .int .u8 0, .int .u8 0, .int .u8 0, .int .u8 0, .int .u8 0, .int .u8 0, .int .u8 0, .int .u8 0, .int .u8 0, .int .u8 0, .int .u8 0, .int .u8 0, .int .u8 0, .int .u8 0, .int .u8 0, .int .u8 0]] 8 rfl (World.shaped_of_RefB (by kernel_rfl) (by kernel_rfl)) (by kernel_rfl) (by kernel_rfl) (by kernel_rfl) (door_met os _)) ?_
  intro W base args ds gs before hval0 hW _ _ hL _
  rw [MakeChecks.laidMetH_plain _ _ _ (by kernel_rfl)] at hL
  have T0 := sha.st_of hL (by repeat first | exact List.Mem.head _ | refine List.Mem.tail _ ?_)
  have hval : ∀ (j : Nat) t v, Tryd.f6.params[j]? = some t → args[j]? = some v → Value.okWide Tryd.prog W .any base t v := hval0
  have hW' := hW
  obtain ⟨p, q, hA0, hV, rfl, hfz, hnd⟩ := hW
  have hA : DataW.TrodAll enc Tryd.prog W 0 (fun _ => true) true Tryd.f6.params.toList args.toList ds p := hA0
  rw [Tryd.params6] at hA hval
  obtain ⟨v0, vs0, d0, ds0, p0, q0, hargs, rfl, rfl, h0, r0⟩ := trodAll_cons hA
  obtain ⟨rfl, rfl, rfl⟩ := trodAll_nil r0
  obtain rfl : args = #[v0] := by cases args; simp_all
  obtain ⟨rfl, rfl⟩ := trodVars_none hV
  clear hA0 hval0
  refine (Calls.mono (R := fun e w' => e = .returned (.bool true) ∧ Below W.heap.size W w') ?_ fun e W' ⟨he, hb⟩ => ?_)
  · obtain ⟨f0_, rfl, s0_⟩ := sha.open_digest (hval 0 23 v0 rfl rfl) h0
    exact walk W _ s0_ T0
  · subst he
    exact ⟨_, rfl, law.post law.laidOut (by kernel_rfl) rfl rfl Tryd.underlying4 rfl hW' hb⟩

theorem over : Rows.shaWordsRow.holds Tryd.pinned (OpenSpec.ofChange Rows.shaWordsSpec) :=
  OpenClaim.holds_of_wide 6 Tryd.f6 rfl rfl rfl rfl rfl rfl rfl ⟨rfl, rfl, rfl, rfl, rfl⟩ rfl rfl rfl rfl rfl (by kernel_rfl) Tryd.func6 (by kernel_rfl)
    (of_decide_eq_true (by kernel_rfl)) (by unfold Func.isWrapper; first | (rw [if_pos (by decide +kernel)]; kernel_rfl) | (rw [if_neg (by decide +kernel)]; exact ⟨rfl, rfl⟩))
    (fun os started H enc _ => lifted os started H enc)

theorem proved : Rows.ShaWordsCardSaid :=
  Claim7.holds_tied_plain_at .later [] _ _ _ _ over (fun _ h => by cases h) (by kernel_rfl) (fun _ h => by cases h) shaWords_row_tie rfl ⟨rfl, rfl⟩ (by kernel_rfl) rfl
    (fun f fn hf hfn => by
      obtain rfl : f = 6 := Option.some.inj ((show Tryd.prog.funcNamed "epact/epactlaw06.ShaWords" = some 6 by kernel_rfl).symm.trans hf) |>.symm
      obtain rfl : fn = Tryd.f6 := (Option.some.inj (Tryd.func6.symm.trans hfn)).symm
      exact ⟨by kernel_rfl, fun j t ht => by
        have hall : (Tryd.f6.params.toList.all fun u => !Tryd.prog.wantsStandIn u) = true := by kernel_rfl
        have hm : t ∈ Tryd.f6.params.toList := by rw [Array.mem_toList_iff]; exact Array.mem_of_getElem? ht
        exact (show Tryd.prog.wantsStandIn t = false by simpa using List.all_eq_true.1 hall t hm)⟩)
    (by kernel_rfl)
end Go.Proofs.YtbmhddkmggoicaaDoor.shaWords
