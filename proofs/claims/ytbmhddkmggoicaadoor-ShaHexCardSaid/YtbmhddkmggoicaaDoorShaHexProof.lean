/-
  ShaHex: unlike digests have unlike digits, and words, forty and five of each, for any two digests. Condition: the row's own (package sha's variable start holds what its initialiser lays; the card ties that).
-/
import Derived.Test.YtbmhddkmggoicaaDoorShaLaw
import Derived.Test.YtbmhddkmggoicaaDoorCards
import Derived.Test.YtbmhddkmggoicaaDoorTie
import Derived.SevenTiedAt
import Derived.Lib.QuietBelow
namespace Go.Proofs.YtbmhddkmggoicaaDoor.shaHex
open Go.ChangeShapes Go.WideShapes Go.ChangeAt Go.RowKit
open sx sha
set_option linter.unusedVariables false

theorem hd_kind (n : Nat) (hn : n < 16) : (48 ≤ (hd n).toNat ∧ (hd n).toNat ≤ 57) ∨ (97 ≤ (hd n).toNat ∧ (hd n).toNat ≤ 102) := by
  rcases (show n = 0 ∨ n = 1 ∨ n = 2 ∨ n = 3 ∨ n = 4 ∨ n = 5 ∨ n = 6 ∨ n = 7 ∨ n = 8 ∨ n = 9 ∨ n = 10 ∨ n = 11 ∨ n = 12 ∨ n = 13 ∨ n = 14 ∨ n = 15 by omega) with rfl | rfl | rfl | rfl | rfl | rfl | rfl | rfl | rfl | rfl | rfl | rfl | rfl | rfl | rfl | rfl <;> decide
theorem hd_inj (m n : Nat) (hm : m < 16) (hn : n < 16) (h : hd m = hd n) : m = n := by
  have e : (hd m).toNat = (hd n).toNat := by rw [h]
  unfold hd at e
  have u : ∀ x, x < 256 → (UInt8.ofNat x).toNat = x := fun x hx => by simp; omega
  split at e <;> split at e <;> rw [u _ (by omega), u _ (by omega)] at e <;> omega
theorem dg_lt (f : Nat → Nat) (hf : Byt f 20) (p : Nat) (hp : p < 40) : dg f p < 16 := by
  have := hf (p / 2) (by omega)
  unfold dg
  split <;> omega
/-- digits tell digests apart. -/
theorem hx_same (f g : Nat → Nat) (hf : Byt f 20) (hg : Byt g 20) : hx f 20 = hx g 20 ↔ ∀ j, j < 20 → f j = g j := by
  constructor
  · intro h j hj
    have e1 := hx_even f 20 j hj
    have e2 := hx_even g 20 j hj
    rw [h, e2.1, e2.2] at e1
    have a := hd_inj _ _ (by have := hg j hj; omega) (by have := hf j hj; omega) (Option.some.inj e1.1)
    have b := hd_inj _ _ (by omega) (by omega) (Option.some.inj e1.2)
    omega
  · intro h
    have : ∀ k, k ≤ 20 → hx f k = hx g k := by
      intro k
      induction k with
      | zero => intro _; rfl
      | succ k ih => intro hk; rw [hx, hx, ih (by omega), h k (by omega)]
    exact this 20 (by omega)
theorem word_same (f g : Nat → Nat) (hf : Byt f 20) (hg : Byt g 20) : same (word f) (word g) 5 = same f g 20 := by
  rw [Bool.eq_iff_iff, same_iff, same_iff]
  constructor
  · intro h j hj
    rw [← word_byte f 20 hf j (by omega), ← word_byte g 20 hg j (by omega), h (j / 4) (by omega)]
  · intro h j hj
    exact word_congr f g j (fun i hi => h _ (by omega))
theorem str_same {s t : ByteArray} {f g : Nat → Nat} (hs : s.data.toList = hx f 20) (ht : t.data.toList = hx g 20) (hf : Byt f 20) (hg : Byt g 20) : (s.toList == t.toList) = same f g 20 := by
  rw [Bool.eq_iff_iff, same_iff, ← hx_same f g hf hg, ← hs, ← ht, beq_iff_eq, ByteArray.toList_eq, ByteArray.toList_eq]
set_option maxHeartbeats 4000000 in
theorem walk (w : World) (f : Nat → Nat) (hf : Byt f 20) (g : Nat → Nat) (hg : Byt g 20) (T : St w) : Calls Tryd.prog 5 #[.agg (cs .u8 f 20), .agg (cs .u8 g 20)] w fun e w' => e = .returned (.bool true) ∧ Below w.heap.size w w' := by
  have hb0 : Below w.heap.size w ((w.alloc (.cells (cs .u8 f 20) 23)).alloc (.cells (cs .u8 g 20) 23)) := bal (bal (Below.refl _ _) _) _
  have SM := Lib.hid (small_true _ (T.below hb0))
  obtain ⟨s, hs, HX⟩ := hex_as f hf
  have HS := Lib.hid hs
  have HX' := Lib.hid HX
  have hsz := hexS_len hs
  clear HX hs
  have t40 : ((s.size : Int) != 40) = false := by rw [hsz]; rfl
  obtain ⟨s2, hs2, HY⟩ := hex_as g hg
  obtain ⟨b, hb⟩ : ∃ b, b = same f g 20 := ⟨_, rfl⟩
  have EQ := fun W => eq20 f g W
  have q1 := str_same hs2 HS.out hg hf
  have E5 : ∀ W, (Op.equalIn 10000 28 (.agg #[.int .u32 (word g 0 : Nat), .int .u32 (word g 1 : Nat), .int .u32 (word g 2 : Nat), .int .u32 (word g 3 : Nat), .int .u32 (word g 4 : Nat)]) (.agg #[.int .u32 (word f 0 : Nat), .int .u32 (word f 1 : Nat), .int .u32 (word f 2 : Nat), .int .u32 (word f 3 : Nat), .int .u32 (word f 4 : Nat)])).run Tryd.prog W = .ok (same (word g) (word f) 5) W := fun W => eq5 (word g) (word f) W
  rw [word_same g f hg hf, same_comm g f, ← hb] at E5
  rw [same_comm g f, ← hb] at q1
  rw [← hb] at EQ
  have HBb := Lib.hid hb
  have CH := Lib.hid (fun w d os => below_of HY w d os)
  have CG := Lib.hid (fun w d os => below_of (fun W => words_any g W hg) w d os)
  have CF := Lib.hid (fun w d os => below_of (fun W => words_any f W hf) w d os)
  clear hb hs2 HY
  go_enter Tryd.func5, Tryd.ntmps5
  go_wp2_with (first
    | (go_at_call 7; (with_reducible refine SM.out.mono ?_); rintro e w1 ⟨rfl, hb1⟩; clear SM; have G1 := Lib.hid (kept (hp_old (hp_new w _) _) hb1); have K1 := Lib.hid (kept (hp_new1 w _ _) hb1); have B1 := btr hb0 hb1)
    | (refine wpList_load_row rfl 23 (.tmp 2) rfl w.heap.size rfl _ _ _ _ G1.out Tryd.underlying23 rfl (szc sz20 _ _) ?_)
    | (go_at_call 12; (with_reducible refine (HX'.out _).mono ?_); rintro e w2 ⟨rfl, hb2⟩; clear HX'; have G2 := Lib.hid (kept G1.out hb2); have K2 := Lib.hid (kept K1.out hb2); have B2 := btr B1 hb2))
  go_loop [7] (fun t => ∃ k : Nat, k ≤ 40 ∧ t = .int .i64 k) (fun t => 40 - (intOf t).toNat)
  case atStart => exact ⟨0, by omega, rfl⟩
  case round =>
    obtain ⟨k, hk, rfl⟩ := hrel
    by_cases hlt : k < 40
    · have h0 := fun h => congrArg UInt8.toNat (hexS_at f s HS.out k h hlt)
      have hkd := hd_kind (dg f k) (dg_lt f hf k hlt)
      generalize (hd (dg f k)).toNat = D at *
      rcases hkd with ⟨d1, d2⟩ | ⟨d1, d2⟩
      all_goals
        go_wp2
        all_goals first
          | (exfalso; omega)
          | (go_round
             case rel => exact ⟨k + 1, by omega, by go_num⟩
             case measure => simp [intOf]; omega)
    · obtain rfl : k = 40 := by omega
      go_wp2_with (first
        | (refine wpList_load_row rfl 23 (.tmp 2) rfl w.heap.size rfl _ _ _ _ G2.out Tryd.underlying23 rfl (szc sz20 _ _) ?_)
        | (refine wpList_load_row rfl 23 (.tmp 3) rfl (w.heap.size + 1) rfl _ _ _ _ K2.out Tryd.underlying23 rfl (szc sz20 _ _) ?_))
      refine wp_region_quiet_below (by kernel_rfl) (by kernel_rfl) ?_
      quiet_step (fail)
      quiet_step (fail)
      refine qload (by rfl) 23 (.tmp 3) rfl ⟨w.heap.size + 1, 0, none⟩ rfl _ (regrown20 K2.out) ?_
      quiet_step ((go_at_call 12; with_reducible exact CH.out _ _ _))
      repeat quiet_step (fail)
      refine qload (by rfl) 23 (.tmp 3) rfl ⟨w.heap.size + 1, 0, none⟩ rfl _ (regrown20 K2.out) ?_
      quiet_step ((go_at_call 10; with_reducible exact CG.out _ _ _))
      refine qload (by rfl) 23 (.tmp 2) rfl ⟨w.heap.size, 0, none⟩ rfl _ (regrown20 G2.out) ?_
      quiet_step ((go_at_call 10; with_reducible exact CF.out _ _ _))
      repeat quiet_step (fail)
      refine wpQuiet_nil ?_
      intro _ hw'
      obtain ⟨⟨dq, osq⟩, hw''⟩ := hw'
      subst hw''
      have hb3 : Below w.heap.size w (Sort.grow (redrawn w2 dq) osq) := btr B2 (below_regrown w2 dq osq)
      generalize Sort.grow (redrawn w2 dq) osq = W3 at *
      clear EQ E5 q1
      go_wp2
      go_ret
      exact ⟨ret_bool (by first | rfl | simp), hb3⟩
theorem door_met (os : Os) (args : Array Value) : laidMetH Tryd.prog Rows.shaHexRow.laid ((World.doorLaid Tryd.prog 400 os).forCall (fun _ _ => 0) ⟨#[], args, []⟩).memory :=
  laidMetH_of_parts3 (fuel := 8) (laidMet_of_run' 8 (by kernel_rfl) (by kernel_rfl)) (by kernel_rfl) (by kernel_rfl)
set_option maxRecDepth 100000 in
theorem lifted (os : Os) (started : os.Started) (H : Type) (enc : TypeId × Value → H) :
    ReturnsInHanded {} Tryd.checked os 5 .any (fun w args => (Rows.shaHexSpec.pre enc Tryd.prog Tryd.f5 [] false w args ∧ laidMetH Tryd.prog Rows.shaHexRow.laid w) ∧ sizedMet enc Tryd.prog Tryd.f5 (OpenSpec.ofChange Rows.shaHexSpec) false w args)
      (Rows.shaHexSpec.post enc Tryd.prog Tryd.f5 false true false false) := by
  refine returnsInHanded_of_change_and (C := Tryd.checked) (X := fun w _ => laidMetH Tryd.prog Rows.shaHexRow.laid w) (fun _ _ _ hh h => h.of_heap hh) law.own started (by kernel_rfl) Tryd.func5
    (ChangeSpec.witness_shaped (enc := enc) (C := Tryd.checked) (os := os) (X := fun w _ => laidMetH Tryd.prog Rows.shaHexRow.laid w) false (World.doorLaid Tryd.prog 400 os) #[.agg #[.int .u8 0, .int .u8 0, .int .u8 0, .int .u8 0, .int .u8 0, .int .u8 0, .int .u8 0, .int .u8 0, .int .u8 0, .int .u8 0, .int .u8 0, .int .u8 0, .int .u8 0, .int .u8 0, .int .u8 0, .int .u8 0, .int .u8 0, .int .u8 0, .int .u8 0, .int .u8 0], .agg #[.int .u8 0, .int .u8 0, .int .u8 0, .int .u8 0, .int .u8 0, .int .u8 0, .int .u8 0, .int .u8 0, .int .u8 0, .int .u8 0, .int .u8 0, .int .u8 0, .int .u8 0, .int .u8 0, .int .u8 0, .int .u8 0, .int .u8 0, .int .u8 0, .int .u8 0, .int .u8 0]] 8 rfl (World.shaped_of_RefB (by kernel_rfl) (by kernel_rfl)) (by kernel_rfl) (by kernel_rfl) (by kernel_rfl) (door_met os _)) ?_
  intro W base args ds gs before hval0 hW _ _ hL _
  rw [MakeChecks.laidMetH_plain _ _ _ (by kernel_rfl)] at hL
  have T0 := sha.st_of hL (by repeat first | exact List.Mem.head _ | refine List.Mem.tail _ ?_)
  have hval : ∀ (j : Nat) t v, Tryd.f5.params[j]? = some t → args[j]? = some v → Value.okWide Tryd.prog W .any base t v := hval0
  have hW' := hW
  obtain ⟨p, q, hA0, hV, rfl, hfz, hnd⟩ := hW
  have hA : DataW.TrodAll enc Tryd.prog W 0 (fun _ => true) true Tryd.f5.params.toList args.toList ds p := hA0
  rw [Tryd.params5] at hA hval
  obtain ⟨v0, vs0, d0, ds0, p0, q0, hargs, rfl, rfl, h0, r0⟩ := trodAll_cons hA
  obtain ⟨v1, vs1, d1, ds1, p1, q1, rfl, rfl, rfl, h1, r1⟩ := trodAll_cons r0
  obtain ⟨rfl, rfl, rfl⟩ := trodAll_nil r1
  obtain rfl : args = #[v0, v1] := by cases args; simp_all
  obtain ⟨rfl, rfl⟩ := trodVars_none hV
  clear hA0 hval0
  refine (Calls.mono (R := fun e w' => e = .returned (.bool true) ∧ Below W.heap.size W w') ?_ fun e W' ⟨he, hb⟩ => ?_)
  · obtain ⟨f0_, rfl, s0_⟩ := sha.open_digest (hval 0 23 v0 rfl rfl) h0
    obtain ⟨f1_, rfl, s1_⟩ := sha.open_digest (hval 1 23 v1 rfl rfl) h1
    exact walk W _ s0_ _ s1_ T0
  · subst he
    exact ⟨_, rfl, law.post law.laidOut (by kernel_rfl) rfl rfl Tryd.underlying4 rfl hW' hb⟩

theorem over : Rows.shaHexRow.holds Tryd.pinned (OpenSpec.ofChange Rows.shaHexSpec) :=
  OpenClaim.holds_of_wide 5 Tryd.f5 rfl rfl rfl rfl rfl rfl rfl ⟨rfl, rfl, rfl, rfl, rfl⟩ rfl rfl rfl rfl rfl (by kernel_rfl) Tryd.func5 (by kernel_rfl)
    (of_decide_eq_true (by kernel_rfl)) (by unfold Func.isWrapper; first | (rw [if_pos (by decide +kernel)]; kernel_rfl) | (rw [if_neg (by decide +kernel)]; exact ⟨rfl, rfl⟩))
    (fun os started H enc _ => lifted os started H enc)

theorem proved : Rows.ShaHexCardSaid :=
  Claim7.holds_tied_plain_at .later [] _ _ _ _ over (fun _ h => by cases h) (by kernel_rfl) (fun _ h => by cases h) shaHex_row_tie rfl ⟨rfl, rfl⟩ (by kernel_rfl) rfl
    (fun f fn hf hfn => by
      obtain rfl : f = 5 := Option.some.inj ((show Tryd.prog.funcNamed "epact/epactlaw06.ShaHex" = some 5 by kernel_rfl).symm.trans hf) |>.symm
      obtain rfl : fn = Tryd.f5 := (Option.some.inj (Tryd.func5.symm.trans hfn)).symm
      exact ⟨by kernel_rfl, fun j t ht => by
        have hall : (Tryd.f5.params.toList.all fun u => !Tryd.prog.wantsStandIn u) = true := by kernel_rfl
        have hm : t ∈ Tryd.f5.params.toList := by rw [Array.mem_toList_iff]; exact Array.mem_of_getElem? ht
        exact (show Tryd.prog.wantsStandIn t = false by simpa using List.all_eq_true.1 hall t hm)⟩)
    (by kernel_rfl)
end Go.Proofs.YtbmhddkmggoicaaDoor.shaHex
