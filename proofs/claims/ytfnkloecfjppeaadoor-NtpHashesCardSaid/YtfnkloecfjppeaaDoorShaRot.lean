/-
  What math/bits' RotateLeft32 and the document's own turn answer, and what f and k of a step are, in sha and in the document's own answer. Condition: the arguments are words.
-/
import Derived.Test.YtfnkloecfjppeaaDoorShaMath
import Derived.WalkKit
import Derived.ProofKit
import Derived.OpenShut
import Derived.IntWalk
import Derived.Deep.QuietTactic
import Derived.BigQuiet
import Derived.Lib.Hide
namespace Go.Proofs.YtfnkloecfjppeaaDoor.sha
open Go.ChangeShapes Go.WideShapes Go.ChangeAt Go.RowKit
open sx
set_option linter.unusedVariables false

theorem rot_bits (x n : Nat) (hx : x < 4294967296) : bits .or .u32 ((x : Int) * 2 ^ n % 4294967296) ((x : Int) / 2 ^ (32 - n)) = ((rot x n : Nat) : Int) := by
  have e1 : (x : Int) * 2 ^ n % 4294967296 = ((x * 2 ^ n % 4294967296 : Nat) : Int) := by
    rw [Int.natCast_emod, Int.natCast_mul, Int.natCast_pow]; rfl
  have e2 : (x : Int) / 2 ^ (32 - n) = ((x / 2 ^ (32 - n) : Nat) : Int) := by rw [Int.natCast_ediv, Int.natCast_pow]; rfl
  rw [e1, e2, u32_or_nat _ _ (Nat.mod_lt _ (by decide)) (Nat.lt_of_le_of_lt (Nat.div_le_self _ _) hx)]
  rfl

/-! f and k of a step -/
theorem band (x y : Nat) (hx : x < 4294967296) (hy : y < 4294967296) : bits .and .u32 (x : Int) (y : Int) = ((x &&& y : Nat) : Int) := u32_and_nat x y hx hy
theorem bxor (x y : Nat) (hx : x < 4294967296) (hy : y < 4294967296) : bits .xor .u32 (x : Int) (y : Int) = ((x ^^^ y : Nat) : Int) := u32_xor_nat x y hx hy
theorem bnot (x : Nat) (hx : x < 4294967296) : bits .xor .u32 IntKind.u32.max (x : Int) = ((4294967295 - x : Nat) : Int) := by
  have e : IntKind.u32.max = ((4294967295 : Nat) : Int) := by decide
  rw [e, u32_xor_nat _ _ (by decide) hx]
  congr 1
  have h := congrArg BitVec.toNat (BitVec.allOnes_xor (x := BitVec.ofNat 32 x))
  rw [BitVec.toNat_xor, BitVec.toNat_allOnes, BitVec.toNat_not, BitVec.toNat_ofNat, Nat.mod_eq_of_lt (by omega)] at h
  simpa using h
theorem f0 (b c d : Nat) (hb : b < 4294967296) (hc : c < 4294967296) (hd : d < 4294967296) : bits .xor .u32 (bits .and .u32 (b : Int) (c : Int)) (bits .and .u32 (bits .xor .u32 IntKind.u32.max (b : Int)) (d : Int)) = (((b &&& c) ^^^ ((4294967295 - b) &&& d) : Nat) : Int) := by
  rw [bnot b hb, band _ _ hb hc, band _ _ (by omega) hd, bxor _ _ (and32 hb) (and32 (by omega))]
theorem f1 (b c d : Nat) (hb : b < 4294967296) (hc : c < 4294967296) (hd : d < 4294967296) : bits .xor .u32 (bits .xor .u32 (b : Int) (c : Int)) (d : Int) = ((b ^^^ c ^^^ d : Nat) : Int) := by
  rw [bxor _ _ hb hc, bxor _ _ (xor32 hb hc) hd]
theorem f2 (b c d : Nat) (hb : b < 4294967296) (hc : c < 4294967296) (hd : d < 4294967296) : bits .xor .u32 (bits .xor .u32 (bits .and .u32 (b : Int) (c : Int)) (bits .and .u32 (b : Int) (d : Int))) (bits .and .u32 (c : Int) (d : Int)) = (((b &&& c) ^^^ (b &&& d) ^^^ (c &&& d) : Nat) : Int) := by
  rw [band _ _ hb hc, band _ _ hb hd, band _ _ hc hd, bxor _ _ (and32 hb) (and32 hb), bxor _ _ (xor32 (and32 hb) (and32 hb)) (and32 hc)]
theorem ret_two {a a' b b' : Int} (h1 : a = a') (h2 : b = b') : Ending.returned (.tuple #[.int .u32 a, .int .u32 b]) = .returned (.tuple #[.int .u32 a', .int .u32 b']) := by rw [h1, h2]
theorem ret_one {k : IntKind} {a a' : Int} (h1 : a = a') : Ending.returned (.int k a) = .returned (.int k a') := by rw [h1]
end Go.Proofs.YtfnkloecfjppeaaDoor.sha
