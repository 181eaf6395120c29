/-
  What math/bits' Mul64, Len64, LeadingZeros64 answer: the whole product in two words; how many bits a word has; how many it lacks to 64. No condition beside that the arguments are words of 64 bits.
-/
import Derived.Test.YtfebdpiefhaddaaWideMath
import Derived.WalkKit
import Derived.ProofKit
import Derived.OpenShut
import Derived.IntWalk
import Derived.Deep.QuietTactic
import Derived.BigQuiet
import Derived.Lib.Hide
import Derived.Lib.Walk
import Derived.Lib.BitFns
namespace Go.Proofs.Ytfebdpiefhaddaa.bits
open Go.ChangeShapes Go.WideShapes Go.ChangeAt Go.RowKit
set_option linter.unusedVariables false

theorem ret2 {k j : IntKind} {a b c d : Int} (h : a = b) (g : c = d) : Ending.returned (.tuple #[.int k a, .int j c]) = .returned (.tuple #[.int k b, .int j d]) := by rw [h, g]
theorem ret3 {k j : IntKind} {a b c d : Int} {t : Bool} (h : a = b) (g : c = d) : Ending.returned (.tuple #[.int k a, .int j c, .bool t]) = .returned (.tuple #[.int k b, .int j d, .bool t]) := by rw [h, g]
theorem ret1 {k : IntKind} {a b : Int} (h : a = b) : Ending.returned (.int k a) = .returned (.int k b) := by rw [h]
theorem low_mod (z : Int) : Go.bits .and .u64 (z % 18446744073709551616) 4294967295 = z % 18446744073709551616 % 4294967296 := and_low32 _ (by omega) (by omega)

set_option maxHeartbeats 1000000 in
theorem mul64 (x y : Int) (w : World) (hx0 : 0 ≤ x) (hx : x < 18446744073709551616) (hy0 : 0 ≤ y) (hy : y < 18446744073709551616) :
    Calls Try.prog 18 #[.int .u64 x, .int .u64 y] w fun e w' => e = .returned (.tuple #[.int .u64 (x * y / 18446744073709551616), .int .u64 (x * y % 18446744073709551616)]) ∧ w = w' := by
  go_enter Try.func18, Try.ntmps18
  go_wp2
  go_ret2
  refine ⟨ret2 ?_ (IntKind.wrap_u64 _), rfl⟩
  simp only [IntKind.wrap_u64, and_low32 x hx0 hx, and_low32 y hy0 hy, low_mod]
  exact mul64_arith x y hx0 hx hy0 hy

theorem fin (x y : Int) (k : Nat) (D : Int) (p : y.toNat < Lib.len8tab.size) (hD : (2 : Int) ^ k = D) (hk : k ≤ 56) (hy : x / D = y) (hx0 : 0 ≤ x) (hx : x < 18446744073709551616) (h1 : 1 ≤ y) (h2 : y ≤ 255) :
    wrap64 (k + wrap64 ((Lib.len8tab[y.toNat]'p).toNat : Int)) = (Lib.bitLen x.toNat : Int) := by
  obtain ⟨X, rfl⟩ := Int.eq_ofNat_of_zero_le hx0
  subst hD
  have hd : ((X : Int) / 2 ^ k) = ((X / 2 ^ k : Nat) : Int) := by simp
  rw [hd] at hy
  subst hy
  have he := Lib.len8_eq ⟨X / 2 ^ k, by omega⟩
  have hl := Lib.bitLen_le8 ⟨X / 2 ^ k, by omega⟩
  have hp : 0 < 2 ^ k := Nat.two_pow_pos k
  have hle : 2 ^ k ≤ X := by
    have : 1 ≤ X / 2 ^ k := by omega
    have := (Nat.le_div_iff_mul_le hp).1 this
    omega
  have hs := Lib.bitLen_shift k X hle (by omega)
  have hg : Lib.len8 ((X / 2 ^ k : Nat) : Int) = ((Lib.len8tab[((X / 2 ^ k : Nat) : Int).toNat]'p).toNat : Int) := by
    unfold Lib.len8
    rw [getElem?_pos Lib.len8tab _ p]; rfl
  rw [← hg]
  simp only [Int.toNat_natCast] at *
  rw [he, IntWalk.wrap64_in (Lib.bitLen (X / 2 ^ k) : Int) (by omega), IntWalk.wrap64_in _ (by omega)]
  omega

set_option maxHeartbeats 4000000 in
set_option maxRecDepth 100000 in
theorem len64 (x : Int) (w : World) (hx0 : 1 ≤ x) (hx : x < 18446744073709551616) :
    Calls Try.prog 22 #[.int .u64 x] w fun e w' => e = .returned (.int .i64 (Lib.bitLen x.toNat)) ∧ w = w' := by
  go_enter Try.func22, Try.ntmps22
  go_wp2
  all_goals first
    | (go_ret; refine ⟨ret1 ?_, rfl⟩)
    | (exfalso; have := Lib.len8tab_size; omega)
  · exact fin x _ 56 72057594037927936 _ rfl (by omega) (by omega) (by omega) hx (by omega) (by omega)
  · exact fin x _ 48 281474976710656 _ rfl (by omega) (by omega) (by omega) hx (by omega) (by omega)
  · exact fin x _ 40 1099511627776 _ rfl (by omega) (by omega) (by omega) hx (by omega) (by omega)
  · exact fin x _ 32 4294967296 _ rfl (by omega) (by omega) (by omega) hx (by omega) (by omega)
  · exact fin x _ 24 16777216 _ rfl (by omega) (by omega) (by omega) hx (by omega) (by omega)
  · exact fin x _ 16 65536 _ rfl (by omega) (by omega) (by omega) hx (by omega) (by omega)
  · exact fin x _ 8 256 _ rfl (by omega) (by omega) (by omega) hx (by omega) (by omega)
  · have p : x.toNat < Lib.len8tab.size := by have := Lib.len8tab_size; omega
    have h := fin x x 0 1 p rfl (by omega) (by omega) (by omega) hx (by omega) (by omega)
    rw [Int.natCast_zero, Int.zero_add] at h
    exact h

theorem bitLen_bounds : ∀ (n X : Nat), X < n → 1 ≤ X → X < 2 ^ 64 → X < 2 ^ Lib.bitLen X ∧ 2 ^ (Lib.bitLen X - 1) ≤ X ∧ 1 ≤ Lib.bitLen X
  | 0, _, h, _, _ => by omega
  | n + 1, X, h, h1, h2 => by
    have hh := Lib.bitLen_half X (by omega) h2
    by_cases h3 : X = 1
    · subst h3
      have e : Lib.bitLen 1 = 1 := by decide
      rw [e]
      decide
    · obtain ⟨b1, b2, b3⟩ := bitLen_bounds n (X / 2) (by omega) (by omega) (by omega)
      rw [hh]
      have e1 : 2 ^ (1 + Lib.bitLen (X / 2)) = 2 * 2 ^ Lib.bitLen (X / 2) := by rw [Nat.pow_add]
      have e2 : 2 ^ (1 + Lib.bitLen (X / 2) - 1) = 2 * 2 ^ (Lib.bitLen (X / 2) - 1) := by
        rw [show 1 + Lib.bitLen (X / 2) - 1 = 1 + (Lib.bitLen (X / 2) - 1) by omega, Nat.pow_add]
      rw [e1, e2]
      omega

/-- how many bits a word lacks to 64 -/
def lack (y : Int) : Int := 64 - (Lib.bitLen y.toNat : Int)
theorem lack_bounds (y : Int) (h1 : 1 ≤ y) (h2 : y < 18446744073709551616) :
    0 ≤ lack y ∧ lack y ≤ 63 ∧ 9223372036854775808 ≤ y * 2 ^ (lack y).toNat ∧ y * 2 ^ (lack y).toNat < 18446744073709551616 := by
  obtain ⟨Y, rfl⟩ := Int.eq_ofNat_of_zero_le (show 0 ≤ y by omega)
  obtain ⟨b1, b2, b3⟩ := bitLen_bounds (Y + 1) Y (by omega) (by omega) (by omega)
  have hb : Lib.bitLen Y ≤ 64 := by
    rcases Nat.lt_or_ge 64 (Lib.bitLen Y) with h | h
    · have : 2 ^ 64 ≤ 2 ^ (Lib.bitLen Y - 1) := Nat.pow_le_pow_right (by omega) (by omega)
      omega
    · exact h
  have hl : (lack (Y : Int)).toNat = 64 - Lib.bitLen Y := by unfold lack; simp only [Int.toNat_natCast]; omega
  have hp : 0 < 2 ^ (64 - Lib.bitLen Y) := Nat.two_pow_pos _
  have e1 : 2 ^ (Lib.bitLen Y - 1) * 2 ^ (64 - Lib.bitLen Y) = 2 ^ 63 := by rw [← Nat.pow_add]; congr 1; omega
  have e2 : 2 ^ (Lib.bitLen Y) * 2 ^ (64 - Lib.bitLen Y) = 2 ^ 64 := by rw [← Nat.pow_add]; congr 1; omega
  have m1 := Nat.mul_le_mul_right (2 ^ (64 - Lib.bitLen Y)) b2
  have m2 := Nat.mul_lt_mul_of_pos_right b1 hp
  rw [e1] at m1
  rw [e2] at m2
  have e3 : (Y : Int) * 2 ^ (lack (Y : Int)).toNat = ((Y * 2 ^ (64 - Lib.bitLen Y) : Nat) : Int) := by rw [hl]; simp
  rw [e3]
  refine ⟨by unfold lack; simp only [Int.toNat_natCast]; omega, by unfold lack; simp only [Int.toNat_natCast]; omega, by omega, by omega⟩

set_option maxRecDepth 100000 in
theorem lead64 (x : Int) (w : World) (hx0 : 1 ≤ x) (hx : x < 18446744073709551616) :
    Calls Try.prog 21 #[.int .u64 x] w fun e w' => e = .returned (.int .i64 (lack x)) ∧ w = w' := by
  have hb := lack_bounds x hx0 hx
  have hl : lack x = 64 - (Lib.bitLen x.toNat : Int) := rfl
  have C := Lib.hid (fun W => len64 x W hx0 hx)
  generalize (Lib.bitLen x.toNat : Int) = L at *
  have h1 : 0 ≤ L := by omega
  have h2 : L ≤ 64 := by omega
  rw [hl]
  clear hb hl hx0 hx
  go_enter Try.func21, Try.ntmps21
  go_wp2_with (go_at_call 22; with_reducible refine (C.out _).mono ?_; rintro e w' ⟨rfl, rfl⟩)
  go_ret
  exact ⟨rfl, rfl⟩
end Go.Proofs.Ytfebdpiefhaddaa.bits
