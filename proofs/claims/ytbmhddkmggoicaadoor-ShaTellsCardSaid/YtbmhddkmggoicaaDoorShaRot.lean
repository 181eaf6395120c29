/-
  What math/bits' RotateLeft32 and the document's own turn answer, and what f and k of a step are, in sha and in the document's own answer. Condition: the arguments are words.
-/
import Derived.Test.YtbmhddkmggoicaaDoorShaMath
import Derived.WalkKit
import Derived.ProofKit
import Derived.OpenShut
import Derived.IntWalk
import Derived.Deep.QuietTactic
import Derived.BigQuiet
import Derived.Lib.Hide
namespace Go.Proofs.YtbmhddkmggoicaaDoor.sha
open Go.ChangeShapes Go.WideShapes Go.ChangeAt Go.RowKit
open sx
set_option linter.unusedVariables false

theorem rot_bits (x n : Nat) (hx : x < 4294967296) : bits .or .u32 ((x : Int) * 2 ^ n % 4294967296) ((x : Int) / 2 ^ (32 - n)) = ((rot x n : Nat) : Int) := by
  have e1 : (x : Int) * 2 ^ n % 4294967296 = ((x * 2 ^ n % 4294967296 : Nat) : Int) := by
    rw [Int.natCast_emod, Int.natCast_mul, Int.natCast_pow]; rfl
  have e2 : (x : Int) / 2 ^ (32 - n) = ((x / 2 ^ (32 - n) : Nat) : Int) := by rw [Int.natCast_ediv, Int.natCast_pow]; rfl
  rw [e1, e2, u32_or_nat _ _ (Nat.mod_lt _ (by decide)) (Nat.lt_of_le_of_lt (Nat.div_le_self _ _) hx)]
  rfl
theorem rotl (x : Nat) (n : Nat) (w : World) (hx : x < 4294967296) (h1 : 1 ≤ n) (h2 : n ≤ 31) : Calls Tryd.prog 27 #[.int .u32 (x : Nat), .int .i64 (n : Nat)] w fun e w' => e = .returned (.int .u32 (rot x n : Nat)) ∧ w = w' := by
  have hb : bits .and .u64 (n : Int) 31 = (n : Int) := by
    rw [show (31 : Int) = ((31 : Nat) : Int) from rfl, u64_and_nat _ _ (by omega) (by omega), show (31 : Nat) = 2 ^ 5 - 1 from rfl, Nat.and_two_pow_sub_one_eq_mod]
    rw [Nat.mod_eq_of_lt (by omega)]
  have hr := rot_bits x n hx
  go_enter Tryd.func27, Tryd.ntmps27
  go_wp2
  go_ret
  exact ⟨by first | rfl | rw [hr], rfl⟩
theorem rot1 (x : Nat) (w : World) (hx : x < 4294967296) : Calls Tryd.prog 27 #[.int .u32 (x : Nat), .int .i64 1] w fun e w' => e = .returned (.int .u32 (rot x 1 : Nat)) ∧ w = w' := rotl x 1 w hx (by decide) (by decide)
theorem rot5 (x : Nat) (w : World) (hx : x < 4294967296) : Calls Tryd.prog 27 #[.int .u32 (x : Nat), .int .i64 5] w fun e w' => e = .returned (.int .u32 (rot x 5 : Nat)) ∧ w = w' := rotl x 5 w hx (by decide) (by decide)
theorem rot30 (x : Nat) (w : World) (hx : x < 4294967296) : Calls Tryd.prog 27 #[.int .u32 (x : Nat), .int .i64 30] w fun e w' => e = .returned (.int .u32 (rot x 30 : Nat)) ∧ w = w' := rotl x 30 w hx (by decide) (by decide)

/-! f and k of a step -/
theorem band (x y : Nat) (hx : x < 4294967296) (hy : y < 4294967296) : bits .and .u32 (x : Int) (y : Int) = ((x &&& y : Nat) : Int) := u32_and_nat x y hx hy
theorem bxor (x y : Nat) (hx : x < 4294967296) (hy : y < 4294967296) : bits .xor .u32 (x : Int) (y : Int) = ((x ^^^ y : Nat) : Int) := u32_xor_nat x y hx hy
theorem bnot (x : Nat) (hx : x < 4294967296) : bits .xor .u32 IntKind.u32.max (x : Int) = ((4294967295 - x : Nat) : Int) := by
  have e : IntKind.u32.max = ((4294967295 : Nat) : Int) := by decide
  rw [e, u32_xor_nat _ _ (by decide) hx]
  congr 1
  have h := congrArg BitVec.toNat (BitVec.allOnes_xor (x := BitVec.ofNat 32 x))
  rw [BitVec.toNat_xor, BitVec.toNat_allOnes, BitVec.toNat_not, BitVec.toNat_ofNat, Nat.mod_eq_of_lt (by omega)] at h
  simpa using h
theorem f0 (b c d : Nat) (hb : b < 4294967296) (hc : c < 4294967296) (hd : d < 4294967296) : bits .xor .u32 (bits .and .u32 (b : Int) (c : Int)) (bits .and .u32 (bits .xor .u32 IntKind.u32.max (b : Int)) (d : Int)) = (((b &&& c) ^^^ ((4294967295 - b) &&& d) : Nat) : Int) := by
  rw [bnot b hb, band _ _ hb hc, band _ _ (by omega) hd, bxor _ _ (and32 hb) (and32 (by omega))]
theorem f1 (b c d : Nat) (hb : b < 4294967296) (hc : c < 4294967296) (hd : d < 4294967296) : bits .xor .u32 (bits .xor .u32 (b : Int) (c : Int)) (d : Int) = ((b ^^^ c ^^^ d : Nat) : Int) := by
  rw [bxor _ _ hb hc, bxor _ _ (xor32 hb hc) hd]
theorem f2 (b c d : Nat) (hb : b < 4294967296) (hc : c < 4294967296) (hd : d < 4294967296) : bits .xor .u32 (bits .xor .u32 (bits .and .u32 (b : Int) (c : Int)) (bits .and .u32 (b : Int) (d : Int))) (bits .and .u32 (c : Int) (d : Int)) = (((b &&& c) ^^^ (b &&& d) ^^^ (c &&& d) : Nat) : Int) := by
  rw [band _ _ hb hc, band _ _ hb hd, band _ _ hc hd, bxor _ _ (and32 hb) (and32 hb), bxor _ _ (xor32 (and32 hb) (and32 hb)) (and32 hc)]
theorem ret_two {a a' b b' : Int} (h1 : a = a') (h2 : b = b') : Ending.returned (.tuple #[.int .u32 a, .int .u32 b]) = .returned (.tuple #[.int .u32 a', .int .u32 b']) := by rw [h1, h2]
theorem ret_one {k : IntKind} {a a' : Int} (h1 : a = a') : Ending.returned (.int k a) = .returned (.int k a') := by rw [h1]
theorem chosen_any (i b c d : Nat) (w : World) (hi : i < 80) (hb : b < 4294967296) (hc : c < 4294967296) (hd : d < 4294967296) :
    Calls Tryd.prog 26 #[.int .i64 (i : Nat), .int .u32 (b : Nat), .int .u32 (c : Nat), .int .u32 (d : Nat)] w fun e w' => e = .returned (.tuple #[.int .u32 (ff i b c d : Nat), .int .u32 (kk i : Nat)]) ∧ w = w' := by
  have hs : IntKind.u32.signed = false := rfl
  have E0 := Lib.hid (f0 b c d hb hc hd)
  have E1 := Lib.hid (f1 b c d hb hc hd)
  have E2 := Lib.hid (f2 b c d hb hc hd)
  rcases (show i < 20 ∨ (20 ≤ i ∧ i < 40) ∨ (40 ≤ i ∧ i < 60) ∨ 60 ≤ i by omega) with h | ⟨h, h'⟩ | ⟨h, h'⟩ | h
  · have t0 : ((i : Int) / 20 == 0) = true := by simp; omega
    have F := Lib.hid (show ff i b c d = _ from if_pos h)
    have G := Lib.hid (show kk i = _ from if_pos h)
    go_enter Tryd.func26, Tryd.ntmps26
    go_wp2
    go_ret2
    exact ⟨ret_two (by rw [F.out]; exact E0.out) (by rw [G.out]; rfl), rfl⟩
  · have t0 : ((i : Int) / 20 == 0) = false := by simp; omega
    have t1 : ((i : Int) / 20 == 1) = true := by simp; omega
    have F := Lib.hid (show ff i b c d = b ^^^ c ^^^ d by unfold ff; rw [if_neg (by omega), if_pos h'])
    have G := Lib.hid (show kk i = 1859775393 by unfold kk; rw [if_neg (by omega), if_pos h'])
    go_enter Tryd.func26, Tryd.ntmps26
    go_wp2
    go_ret2
    exact ⟨ret_two (by rw [F.out]; exact E1.out) (by rw [G.out]; rfl), rfl⟩
  · have t0 : ((i : Int) / 20 == 0) = false := by simp; omega
    have t1 : ((i : Int) / 20 == 1) = false := by simp; omega
    have t2 : ((i : Int) / 20 == 2) = true := by simp; omega
    have F := Lib.hid (show ff i b c d = (b &&& c) ^^^ (b &&& d) ^^^ (c &&& d) by unfold ff; rw [if_neg (by omega), if_neg (by omega), if_pos h'])
    have G := Lib.hid (show kk i = 2400959708 by unfold kk; rw [if_neg (by omega), if_neg (by omega), if_pos h'])
    go_enter Tryd.func26, Tryd.ntmps26
    go_wp2
    go_ret2
    exact ⟨ret_two (by rw [F.out]; exact E2.out) (by rw [G.out]; rfl), rfl⟩
  · have t0 : ((i : Int) / 20 == 0) = false := by simp; omega
    have t1 : ((i : Int) / 20 == 1) = false := by simp; omega
    have t2 : ((i : Int) / 20 == 2) = false := by simp; omega
    have F := Lib.hid (show ff i b c d = b ^^^ c ^^^ d by unfold ff; rw [if_neg (by omega), if_neg (by omega), if_neg (by omega)])
    have G := Lib.hid (show kk i = 3395469782 by unfold kk; rw [if_neg (by omega), if_neg (by omega), if_neg (by omega)])
    go_enter Tryd.func26, Tryd.ntmps26
    go_wp2
    go_ret2
    exact ⟨ret_two (by rw [F.out]; exact E1.out) (by rw [G.out]; rfl), rfl⟩
end Go.Proofs.YtbmhddkmggoicaaDoor.sha
