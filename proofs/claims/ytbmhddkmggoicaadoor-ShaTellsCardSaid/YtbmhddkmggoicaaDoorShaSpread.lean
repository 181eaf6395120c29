/-
  What sha.spread answers: the eighty words of a block. Condition: the block's bytes are bytes.
-/
import Derived.Test.YtbmhddkmggoicaaDoorShaPack
import Derived.Deep.RegionWith
namespace Go.Proofs.YtbmhddkmggoicaaDoor.sha
open Go.ChangeShapes Go.WideShapes Go.ChangeAt Go.RowKit
open sx
set_option linter.unusedVariables false

def zero80 : Array Value := cs .u32 (fun _ => 0) 80
theorem zv80 : ∀ w, (zeroValue 59).run Tryd.prog w = .ok (.agg zero80) w :=
  (zero_of_info (P := Tryd.prog) (t := 59) (v := .agg zero80) (n := 80) (by kernel_rfl)).1
/-- the world at the heads of the rounds of spread. -/
def ws (w : World) (f : Nat → Nat) (g : Nat → Nat) : World := ((w.alloc (.cells (cs .u8 f 64) 36)).alloc (.cells zero80 59)).alloc (.cells (cs .u32 g 80) 59)
theorem prt_wd (f : Nat → Nat) : cs .u32 (prt f 64) 80 = cs .u32 (upto (wd f) 16) 80 := by
  apply cs_congr
  intro j hj
  unfold upto
  by_cases h : j < 16
  · rw [if_pos h, wd_small f j h, prt_all f 64 j (by omega)]
  · rw [if_neg h, prt_none f 64 j (by omega)]
theorem upto_get (g : Nat → Nat) (k n j : Nat) (h : j < k) (hn : j < n) : (cs .u32 (upto g k) n)[j]? = some (.int .u32 (g j : Nat)) := by
  rw [cs_get _ _ _ _ hn]; unfold upto; rw [if_pos h]
theorem xor4 (a b c d : Nat) (ha : a < 4294967296) (hb : b < 4294967296) (hc : c < 4294967296) (hd : d < 4294967296) :
    bits .xor .u32 (bits .xor .u32 (bits .xor .u32 (a : Int) (b : Int)) (c : Int)) (d : Int) = ((a ^^^ b ^^^ c ^^^ d : Nat) : Int) := by
  rw [bxor _ _ ha hb, bxor _ _ (xor32 ha hb) hc, bxor _ _ (xor32 (xor32 ha hb) hc) hd]
set_option maxHeartbeats 2000000 in
theorem spread_any (f : Nat → Nat) (w : World) (hf : Byt f 64) : Calls Tryd.prog 25 #[.agg (cs .u8 f 64)] w fun e w' => e = .returned (.agg (cs .u32 (wd f) 80)) ∧ Below w.heap.size w w' := by
  have hz := zv80
  go_enter Tryd.func25, Tryd.ntmps25
  go_wp2
  go_loopw [6] (fun t W => ∃ k n : Nat, k ≤ 64 ∧ t = .int .i64 k ∧ W = (ws w f (prt f k)).drewN n) (fun t _ => 64 - (intOf t).toNat)
  case atStart => exact ⟨0, 0, by omega, rfl, by unfold ws; rw [cs_congr .u32 (prt f 0) (fun _ => 0) 80 (fun j _ => prt_zero f j)]; rfl⟩
  case round =>
    obtain ⟨k, n, hk, rfl, rfl⟩ := hrel
    clear hz
    unfold ws
    by_cases hlt : k < 64
    · have c1 := prt_get f k 80 (by omega)
      have c2 := cs_get .u8 f 64 k hlt
      have b1 := hf k hlt
      have b2 := pre_small f 64 k hf hlt
      have ho := or_byte _ _ b2 b1
      have ST := Lib.hid (prt_set f k 80)
      generalize pre f (k / 4) (k % 4) = X at *
      go_wp2
      go_region
      rw [set_last _ _ _ _ _ _ _ _ (by simp) ST.out]
      clear c1 c2 ho
      go_wp2
      go_roundw
      case rel => exact ⟨k + 1, n + 1, by omega, by go_num, rfl⟩
      case measure => simp [intOf]; omega
    · obtain rfl : k = 64 := by omega
      rw [prt_wd, show ((64 : Nat) : Int) = 64 from rfl]
      go_wp2
      go_loopw [5] (fun t W => ∃ k n : Nat, 16 ≤ k ∧ k ≤ 80 ∧ t = .int .i64 k ∧ W = (ws w f (upto (wd f) k)).drewN n) (fun t _ => 80 - (intOf t).toNat)
      case atStart => exact ⟨16, n, by omega, by omega, rfl, rfl⟩
      case round =>
        obtain ⟨k, n, hk1, hk2, rfl, rfl⟩ := hrel
        unfold ws
        by_cases hlt : k < 80
        · have c1 := upto_get (wd f) k 80 (k - 3) (by omega) (by omega)
          have c2 := upto_get (wd f) k 80 (k - 8) (by omega) (by omega)
          have c3 := upto_get (wd f) k 80 (k - 14) (by omega) (by omega)
          have c4 := upto_get (wd f) k 80 (k - 16) (by omega) (by omega)
          have c5 := cs_get .u32 (upto (wd f) k) 80 k hlt
          have l1 := wd_lt f hf (k - 3)
          have l2 := wd_lt f hf (k - 8)
          have l3 := wd_lt f hf (k - 14)
          have l4 := wd_lt f hf (k - 16)
          have hx := xor4 _ _ _ _ l1 l2 l3 l4
          have hr := wd_great f k hk1
          have R := Lib.hid (fun W => rot1 _ W (xor32 (xor32 (xor32 l1 l2) l3) l4))
          rw [← hr] at R
          have ST := Lib.hid (upto_set .u32 (wd f) k 80 (.int .u32 (wd f k : Nat)) rfl)
          clear hr
          generalize wd f (k - 3) = X1 at *
          generalize wd f (k - 8) = X2 at *
          generalize wd f (k - 14) = X3 at *
          generalize wd f (k - 16) = X4 at *
          have q3a : IntKind.i64.wrap ((k : Int) - 3) = (k : Int) - 3 := IntWalk.i64_in _ (by omega)
          have q3b : (0 : Int) ≤ (k : Int) - 3 := by omega
          have q3c : (k : Int) - 3 < 80 := by omega
          have q3d : (3 : Int) ≤ (k : Int) := by omega
          have q3e : (3 : Nat) ≤ k := by omega
          have q3f : ((k : Int) - 3).toNat = k - 3 := by omega
          have q8a : IntKind.i64.wrap ((k : Int) - 8) = (k : Int) - 8 := IntWalk.i64_in _ (by omega)
          have q8b : (0 : Int) ≤ (k : Int) - 8 := by omega
          have q8c : (k : Int) - 8 < 80 := by omega
          have q8d : (8 : Int) ≤ (k : Int) := by omega
          have q8e : (8 : Nat) ≤ k := by omega
          have q8f : ((k : Int) - 8).toNat = k - 8 := by omega
          have q14a : IntKind.i64.wrap ((k : Int) - 14) = (k : Int) - 14 := IntWalk.i64_in _ (by omega)
          have q14b : (0 : Int) ≤ (k : Int) - 14 := by omega
          have q14c : (k : Int) - 14 < 80 := by omega
          have q14d : (14 : Int) ≤ (k : Int) := by omega
          have q14e : (14 : Nat) ≤ k := by omega
          have q14f : ((k : Int) - 14).toNat = k - 14 := by omega
          have q16a : IntKind.i64.wrap ((k : Int) - 16) = (k : Int) - 16 := IntWalk.i64_in _ (by omega)
          have q16b : (0 : Int) ≤ (k : Int) - 16 := by omega
          have q16c : (k : Int) - 16 < 80 := by omega
          have q16d : (16 : Int) ≤ (k : Int) := by omega
          have q16e : (16 : Nat) ≤ k := by omega
          have q16f : ((k : Int) - 16).toNat = k - 16 := by omega
          have qk : (k : Int) < 80 := by omega
          go_wp2
          refine tail_region 22 (by kernel_rfl) (by kernel_rfl) ?_
          simp only [List.take_succ_cons, List.take_zero, List.drop_succ_cons, List.drop_zero]
          repeat still_step
          still_call (calls_turn (R.out _))
          repeat still_step
          refine wpStill_nil ?_
          go_wp2
          rw [set_last _ _ _ _ _ _ _ _ (by simp) ST.out]
          clear hx
          go_wp2
          go_roundw
          case rel => exact ⟨k + 1, n + 1, by omega, by omega, by go_num, rfl⟩
          case measure => simp [intOf]; omega
        · obtain rfl : k = 80 := by omega
          rw [upto_all]
          go_wp2_with (first
            | (refine wpList_load_row rfl 59 (.tmp 3) rfl (w.heap.size + 1 + 1) rfl _ _ _ _ (hp_new2 w _ _ _) Tryd.underlying59 rfl (szc sz80 _ _) ?_)
            | (refine wpList_store_row rfl 59 (.tmp 2) (.tmp 49) rfl (w.heap.size + 1) _ rfl rfl _ _ (hp_old (hp_new1 w _ _) _) (szc sz80 _ _) (by rw [cs_size]; exact cs_size _ _ _) (cs_one _ _ _) ?_))
          refine end_row rfl _ _ (w.heap.size + 1) _ _ _ _ rfl (setRow_heap _ _ _ _ _ _ (hp_old (hp_new1 w _ _) _)) Tryd.underlying59 (szc sz80 _ _) rfl ⟨rfl, ?_⟩
          exact bel_setRow (bel3 _ _ _ _ _) (by omega) _
end Go.Proofs.YtbmhddkmggoicaaDoor.sha
