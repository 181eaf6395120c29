/-
  What sha.packed answers: the twenty bytes of five words. Condition: the words are words.
-/
import Derived.Test.YtbmhddkmggoicaaDoorShaMem
namespace Go.Proofs.YtbmhddkmggoicaaDoor.sha
open Go.ChangeShapes Go.WideShapes Go.ChangeAt Go.RowKit
open sx
set_option linter.unusedVariables false

def upto (g : Nat → Nat) (k j : Nat) : Nat := if j < k then g j else 0
theorem upto_set (K : IntKind) (g : Nat → Nat) (k n : Nat) (v : Value) (hv : v = .int K (g k : Nat)) : (cs K (upto g k) n).setIfInBounds k v = cs K (upto g (k + 1)) n :=
  cs_set _ _ _ _ _ _ (by rw [hv]; unfold upto; rw [if_pos (Nat.lt_succ_self _)]) (fun j _ hj => by unfold upto; by_cases h : j < k; (rw [if_pos h, if_pos (by omega)]); (rw [if_neg h, if_neg (by omega)]))
theorem upto_all (K : IntKind) (g : Nat → Nat) (n : Nat) : cs K (upto g n) n = cs K g n := cs_congr _ _ _ _ fun j hj => if_pos hj
theorem upto_zero (K : IntKind) (g : Nat → Nat) (n : Nat) : cs K (upto g 0) n = cs K (fun _ => 0) n := cs_congr _ _ _ _ fun j hj => if_neg (by omega)
def z20 : Array Value := #[.int .u8 0, .int .u8 0, .int .u8 0, .int .u8 0, .int .u8 0, .int .u8 0, .int .u8 0, .int .u8 0, .int .u8 0, .int .u8 0, .int .u8 0, .int .u8 0, .int .u8 0, .int .u8 0, .int .u8 0, .int .u8 0, .int .u8 0, .int .u8 0, .int .u8 0, .int .u8 0]
def wp (w : World) (s : V5) (k : Nat) : World := ((w.alloc (.cells (cs .u32 s.at 5) 28)).alloc (.cells z20 23)).alloc (.cells (cs .u8 (upto (dig s) k) 20) 23)
set_option maxHeartbeats 1000000 in
theorem packed_any (s : V5) (w : World) (hs : s.Ok) : Calls Tryd.prog 16 #[.agg (cs .u32 s.at 5)] w fun e w' => e = .returned (.agg (cs .u8 (dig s) 20)) ∧ Below w.heap.size w w' := by
  go_enter Tryd.func16, Tryd.ntmps16
  go_wp2
  go_loopw [5] (fun t W => ∃ k : Nat, k ≤ 20 ∧ t = .int .i64 k ∧ W = wp w s k) (fun t _ => 20 - (intOf t).toNat)
  case atStart => exact ⟨0, by omega, rfl, by unfold wp; rw [upto_zero]; rfl⟩
  case round =>
    obtain ⟨k, hk, rfl, rfl⟩ := hrel
    unfold wp z20
    by_cases hlt : k < 20
    · have c1 := cs_get .u32 s.at 5 (k / 4) (by omega)
      have c2 := cs_get .u8 (upto (dig s) k) 20 k hlt
      have hd : ((s.at (k / 4) : Nat) : Int) / 2 ^ (8 * (3 - k % 4)) % 256 = (dig s k : Nat) := by unfold dig; rw [Int.natCast_emod, Int.natCast_ediv, Int.natCast_pow]; rfl
      have ST := Lib.hid (upto_set .u8 (dig s) k 20 (.int .u8 (dig s k : Nat)) rfl)
      have sl := at_lt hs (k / 4)
      generalize s.at (k / 4) = X at *
      go_wp2
      rw [ST.out]
      go_roundw
      case rel => exact ⟨k + 1, by omega, by go_num, rfl⟩
      case measure => simp [intOf]; omega
    · obtain rfl : k = 20 := by omega
      rw [upto_all]
      go_wp2_with (first
        | (refine wpList_load_row rfl 23 (.tmp 3) rfl (w.heap.size + 1 + 1) rfl _ _ _ _ (hp_new2 w _ _ _) Tryd.underlying23 rfl (szc sz20 _ _) ?_)
        | (refine wpList_store_row rfl 23 (.tmp 2) (.tmp 21) rfl (w.heap.size + 1) _ rfl rfl _ _ (hp_old (hp_new1 w _ _) _) (szc sz20 _ _) (by rw [cs_size]; rfl) (cs_one _ _ _) ?_))
      refine end_row rfl _ _ (w.heap.size + 1) _ _ _ _ rfl (setRow_heap _ _ _ _ _ _ (hp_old (hp_new1 w _ _) _)) Tryd.underlying23 (szc sz20 _ _) rfl ⟨rfl, ?_⟩
      exact bel_setRow (bel3 _ _ _ _ 0) (by omega) _
end Go.Proofs.YtbmhddkmggoicaaDoor.sha
