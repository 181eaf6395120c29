/-
  What sha.spread answers: the eighty words of a block. Condition: the block's bytes are bytes.
-/
import Derived.Test.YtfnkloecfjppeaaDoorShaPack
import Derived.Deep.RegionWith
namespace Go.Proofs.YtfnkloecfjppeaaDoor.sha
open Go.ChangeShapes Go.WideShapes Go.ChangeAt Go.RowKit
open sx
set_option linter.unusedVariables false

def zero80 : Array Value := cs .u32 (fun _ => 0) 80
theorem prt_wd (f : Nat → Nat) : cs .u32 (prt f 64) 80 = cs .u32 (upto (wd f) 16) 80 := by
  apply cs_congr
  intro j hj
  unfold upto
  by_cases h : j < 16
  · rw [if_pos h, wd_small f j h, prt_all f 64 j (by omega)]
  · rw [if_neg h, prt_none f 64 j (by omega)]
theorem upto_get (g : Nat → Nat) (k n j : Nat) (h : j < k) (hn : j < n) : (cs .u32 (upto g k) n)[j]? = some (.int .u32 (g j : Nat)) := by
  rw [cs_get _ _ _ _ hn]; unfold upto; rw [if_pos h]
theorem xor4 (a b c d : Nat) (ha : a < 4294967296) (hb : b < 4294967296) (hc : c < 4294967296) (hd : d < 4294967296) :
    bits .xor .u32 (bits .xor .u32 (bits .xor .u32 (a : Int) (b : Int)) (c : Int)) (d : Int) = ((a ^^^ b ^^^ c ^^^ d : Nat) : Int) := by
  rw [bxor _ _ ha hb, bxor _ _ (xor32 ha hb) hc, bxor _ _ (xor32 (xor32 ha hb) hc) hd]
end Go.Proofs.YtfnkloecfjppeaaDoor.sha
