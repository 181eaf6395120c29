/-
  What sha.Words and the document's own Words answer: the five words of twenty bytes. Condition: the bytes are bytes.
-/
import Derived.Test.YtfnkloecfjppeaaDoorShaRot
import Derived.RegionTactic
import Derived.BigRegion
import Derived.StillTailTactics
namespace Go.Proofs.YtfnkloecfjppeaaDoor.sha
open Go.ChangeShapes Go.WideShapes Go.ChangeAt Go.RowKit
open sx
set_option linter.unusedVariables false

theorem cs5 (K : IntKind) (g : Nat → Nat) : cs K g 5 = #[.int K (g 0 : Nat), .int K (g 1 : Nat), .int K (g 2 : Nat), .int K (g 3 : Nat), .int K (g 4 : Nat)] := rfl
theorem cs20 (K : IntKind) (g : Nat → Nat) : cs K g 20 = #[.int K (g 0 : Nat), .int K (g 1 : Nat), .int K (g 2 : Nat), .int K (g 3 : Nat), .int K (g 4 : Nat), .int K (g 5 : Nat), .int K (g 6 : Nat), .int K (g 7 : Nat), .int K (g 8 : Nat), .int K (g 9 : Nat), .int K (g 10 : Nat), .int K (g 11 : Nat), .int K (g 12 : Nat), .int K (g 13 : Nat), .int K (g 14 : Nat), .int K (g 15 : Nat), .int K (g 16 : Nat), .int K (g 17 : Nat), .int K (g 18 : Nat), .int K (g 19 : Nat)] := rfl
theorem set_last (W : World) (c c' : Array Value) (t : TypeId) (n i : Nat) (v : Value) (b : Nat) (hb : b = W.heap.size) (h : c.setIfInBounds i v = c') : ((W.alloc (.cells c t)).drewN n).setCell ⟨b, i, none⟩ v = (W.alloc (.cells c' t)).drewN n := by
  subst hb
  rw [← h]
  exact congrArg (fun x => World.drewN x n) (World.setCell_alloc_at c t W.heap.size i v rfl)
theorem bel3 (w : World) (a b c : Obj) (n : Nat) : Below w.heap.size w ((((w.alloc a).alloc b).alloc c).drewN n) := by
  have h := ((((Below.refl _ _).alloc (Nat.le_refl _) a).alloc (by simp) b).alloc (by simp; omega) c : Below w.heap.size w _)
  exact ⟨h.os, h.tape, h.output, h.size, h.block⟩
/-- the world at the head of a round of Words. -/
def z5 : Array Value := #[.int .u32 0, .int .u32 0, .int .u32 0, .int .u32 0, .int .u32 0]
def ww (w : World) (f : Nat → Nat) (k : Nat) : World := ((w.alloc (.cells (cs .u8 f 20) 38)).alloc (.cells #[.int .u32 0, .int .u32 0, .int .u32 0, .int .u32 0, .int .u32 0] 23)).alloc (.cells (cs .u32 (prt f k) 5) 23)
theorem prt_set (f : Nat → Nat) (k n : Nat) : (cs .u32 (prt f k) n).setIfInBounds (k / 4) (.int .u32 ((pre f (k / 4) (k % 4) : Int) * 256 + (f k : Int))) = cs .u32 (prt f (k + 1)) n :=
  cs_set _ _ _ _ _ _ (by rw [prt_next]; congr 1) (fun j _ hj => prt_other f k j hj)
theorem prt_get (f : Nat → Nat) (k n : Nat) (h : k / 4 < n) : (cs .u32 (prt f k) n)[k / 4]? = some (.int .u32 (pre f (k / 4) (k % 4) : Nat)) := by rw [cs_get _ _ _ _ h, prt_at]
theorem prt_done (f : Nat → Nat) : cs .u32 (prt f 20) 5 = #[.int .u32 (word f 0 : Nat), .int .u32 (word f 1 : Nat), .int .u32 (word f 2 : Nat), .int .u32 (word f 3 : Nat), .int .u32 (word f 4 : Nat)] := by
  rw [cs_congr .u32 (prt f 20) (word f) 5 (fun j hj => prt_all f 20 j (by omega)), cs5]
set_option maxHeartbeats 1000000 in
theorem words_any (f : Nat → Nat) (w : World) (hf : Byt f 20) : Calls Tryd.prog 21 #[.agg (cs .u8 f 20)] w fun e w' => e = .returned (.agg #[.int .u32 (word f 0 : Nat), .int .u32 (word f 1 : Nat), .int .u32 (word f 2 : Nat), .int .u32 (word f 3 : Nat), .int .u32 (word f 4 : Nat)]) ∧ Below w.heap.size w w' := by
  go_enter Tryd.func21, Tryd.ntmps21
  go_wp2
  go_loopw [5] (fun t W => ∃ k n : Nat, k ≤ 20 ∧ t = .int .i64 k ∧ W = (ww w f k).drewN n) (fun t _ => 20 - (intOf t).toNat)
  case atStart => exact ⟨0, 0, by omega, rfl, by unfold ww; rw [cs_congr .u32 (prt f 0) (fun _ => 0) 5 (fun j _ => prt_zero f j)]; rfl⟩
  case round =>
    obtain ⟨k, n, hk, rfl, rfl⟩ := hrel
    unfold ww
    by_cases hlt : k < 20
    · have c1 := prt_get f k 5 (by omega)
      have c2 := cs_get .u8 f 20 k hlt
      have b1 := hf k hlt
      have b2 := pre_small f 20 k hf hlt
      have ho := or_byte _ _ b2 b1
      have ST := Lib.hid (prt_set f k 5)
      generalize pre f (k / 4) (k % 4) = X at *
      go_wp2
      go_region
      rw [set_last _ _ _ _ _ _ _ _ (by simp) ST.out]
      clear c1 c2 ho
      go_wp2
      go_roundw
      case rel => exact ⟨k + 1, n + 1, by omega, by go_num, rfl⟩
      case measure => simp [intOf]; omega
    · obtain rfl : k = 20 := by omega
      rw [prt_done]
      go_wp2
      refine bodyPost_ret (v := .agg #[.int .u32 (word f 0 : Nat), .int .u32 (word f 1 : Nat), .int .u32 (word f 2 : Nat), .int .u32 (word f 3 : Nat), .int .u32 (word f 4 : Nat)]) (by simp [results, Tryd.results21, go_sem]) rfl ⟨rfl, ?_⟩
      repeat (refine Below.setCell ?_ (by simp) _)
      exact bel3 _ _ _ _ _
end Go.Proofs.YtfnkloecfjppeaaDoor.sha
