/-
  What sha.packed answers: the twenty bytes of five words. Condition: the words are words.
-/
import Derived.Test.YtfnkloecfjppeaaDoorShaMem
namespace Go.Proofs.YtfnkloecfjppeaaDoor.sha
open Go.ChangeShapes Go.WideShapes Go.ChangeAt Go.RowKit
open sx
set_option linter.unusedVariables false

def upto (g : Nat → Nat) (k j : Nat) : Nat := if j < k then g j else 0
theorem upto_set (K : IntKind) (g : Nat → Nat) (k n : Nat) (v : Value) (hv : v = .int K (g k : Nat)) : (cs K (upto g k) n).setIfInBounds k v = cs K (upto g (k + 1)) n :=
  cs_set _ _ _ _ _ _ (by rw [hv]; unfold upto; rw [if_pos (Nat.lt_succ_self _)]) (fun j _ hj => by unfold upto; by_cases h : j < k; (rw [if_pos h, if_pos (by omega)]); (rw [if_neg h, if_neg (by omega)]))
theorem upto_all (K : IntKind) (g : Nat → Nat) (n : Nat) : cs K (upto g n) n = cs K g n := cs_congr _ _ _ _ fun j hj => if_pos hj
theorem upto_zero (K : IntKind) (g : Nat → Nat) (n : Nat) : cs K (upto g 0) n = cs K (fun _ => 0) n := cs_congr _ _ _ _ fun j hj => if_neg (by omega)
def z20 : Array Value := #[.int .u8 0, .int .u8 0, .int .u8 0, .int .u8 0, .int .u8 0, .int .u8 0, .int .u8 0, .int .u8 0, .int .u8 0, .int .u8 0, .int .u8 0, .int .u8 0, .int .u8 0, .int .u8 0, .int .u8 0, .int .u8 0, .int .u8 0, .int .u8 0, .int .u8 0, .int .u8 0]
def wp (w : World) (s : V5) (k : Nat) : World := ((w.alloc (.cells (cs .u32 s.at 5) 23)).alloc (.cells z20 38)).alloc (.cells (cs .u8 (upto (dig s) k) 20) 38)
end Go.Proofs.YtfnkloecfjppeaaDoor.sha
