/-
  What the document's own Hex answers: the forty digits of twenty bytes. Condition: the bytes are bytes.
-/
import Derived.Test.YtbmhddkmggoicaaDoorShaApp
import Derived.Test.YtbmhddkmggoicaaDoorRef06Rot
namespace Go.Proofs.YtbmhddkmggoicaaDoor.ref06
open Go.ChangeShapes Go.WideShapes Go.ChangeAt Go.RowKit
open sx sha
set_option linter.unusedVariables false

def lit16 : ByteArray := ⟨#[48, 49, 50, 51, 52, 53, 54, 55, 56, 57, 97, 98, 99, 100, 101, 102]⟩
theorem cut16 (p : Nat) (hp : p < 16) : (lit16.extract p (p + 1)).data.toList = [hd p] := by
  rcases (show p = 0 ∨ p = 1 ∨ p = 2 ∨ p = 3 ∨ p = 4 ∨ p = 5 ∨ p = 6 ∨ p = 7 ∨ p = 8 ∨ p = 9 ∨ p = 10 ∨ p = 11 ∨ p = 12 ∨ p = 13 ∨ p = 14 ∨ p = 15 by omega) with rfl | rfl | rfl | rfl | rfl | rfl | rfl | rfl | rfl | rfl | rfl | rfl | rfl | rfl | rfl | rfl <;> decide
theorem cat_list (s t : ByteArray) : (s ++ t).data.toList = s.data.toList ++ t.data.toList := by simp
def HHd (f : Nat → Nat) (w : World) (t i : Value) (W : World) : Prop :=
  ∃ k s n, k ≤ 20 ∧ i = .int .i64 (k : Nat) ∧ t = .string s ∧ s.data.toList = hx f k ∧ W = (w.alloc (.cells (cs .u8 f 20) 23)).drewN n
theorem hex_size {f : Nat → Nat} {k : Nat} {s : ByteArray} (h : s.data.toList = hx f k) : s.size = 2 * k := by rw [list_size, h, hx_len]
set_option maxHeartbeats 2000000 in
theorem hex_any (f : Nat → Nat) (w : World) (hf : Byt f 20) (t : ByteArray) (ht : t.data.toList = hx f 20) : Calls Tryd.prog 13 #[.agg (cs .u8 f 20)] w fun e w' => e = .returned (.string t) ∧ Below w.heap.size w w' := by
  go_enter Tryd.func13, Tryd.ntmps13
  go_wp2
  go_loopw [4, 5] (fun t i W => HHd f w t i W) (fun _ i _ => 20 - (intOf i).toNat)
  case atStart => exact ⟨0, _, 0, by omega, rfl, rfl, rfl, rfl⟩
  case round =>
    obtain ⟨k, s, n, hk, rfl, rfl, hs, rfl⟩ := hrel
    have HS := Lib.hid hs
    have hsz := hex_size hs
    have hsz' : s.size ≤ 40 := by omega
    clear hs hsz
    by_cases hlt : k < 20
    · have c1 := cs_get .u8 f 20 k hlt
      have b1 := hf k hlt
      obtain ⟨p, hp⟩ : ∃ p, p = f k / 16 := ⟨_, rfl⟩
      obtain ⟨q, hq⟩ : ∃ q, q = f k % 16 := ⟨_, rfl⟩
      have hp16 : p < 16 := by omega
      have hq16 : q < 16 := by omega
      have e1 : IntKind.u8.wrap ((f k : Int) / 16) = (p : Int) := by rw [IntKind.wrap_u8']; omega
      have e2 : IntKind.u8.wrap ((p : Int) + 1) = (p : Int) + 1 := by rw [IntKind.wrap_u8']; omega
      have e3 : Int.tmod (f k : Int) 16 = (q : Int) := by rw [Int.tmod_eq_emod_of_nonneg (by omega)]; omega
      have e4 : IntKind.u8.wrap ((q : Int) + 1) = (q : Int) + 1 := by rw [IntKind.wrap_u8']; omega
      have n1 : ((p : Int) + 1).toNat = p + 1 := by omega
      have n2 : ((q : Int) + 1).toNat = q + 1 := by omega
      have i1 : (0 : Int) ≤ (p : Int) + 1 := by omega
      have i2 : (0 : Int) ≤ (q : Int) + 1 := by omega
      have i3 : (p : Int) ≤ (p : Int) + 1 := by omega
      have i4 : (q : Int) ≤ (q : Int) + 1 := by omega
      have i5 : (p : Int) + 1 ≤ 16 := by omega
      have i6 : (q : Int) + 1 ≤ 16 := by omega
      obtain ⟨X, hX⟩ : ∃ X, (⟨#[48, 49, 50, 51, 52, 53, 54, 55, 56, 57, 97, 98, 99, 100, 101, 102]⟩ : ByteArray).extract p (p + 1) = X := ⟨_, rfl⟩
      obtain ⟨Y, hY⟩ : ∃ Y, (⟨#[48, 49, 50, 51, 52, 53, 54, 55, 56, 57, 97, 98, 99, 100, 101, 102]⟩ : ByteArray).extract q (q + 1) = Y := ⟨_, rfl⟩
      have xl : X.data.toList = [hd p] := by rw [← hX]; exact cut16 p hp16
      have yl : Y.data.toList = [hd q] := by rw [← hY]; exact cut16 q hq16
      have xs : X.size ≤ 1 := by rw [list_size, xl]; simp
      have ys : Y.size ≤ 1 := by rw [list_size, yl]; simp
      have NX : Hid ((s ++ X ++ Y).data.toList = hx f (k + 1)) := by
        show (s ++ X ++ Y).data.toList = hx f (k + 1)
        rw [cat_list, cat_list, HS.out, xl, yl, hx, ← hp, ← hq]
        simp
      have m1 : (9223372036854775807 < s.size + X.size) = False := eq_false (by omega)
      have m2 : (9223372036854775807 < s.size + X.size + Y.size) = False := eq_false (by omega)
      clear hp hq xl yl
      go_wp2
      refine still_region (by kernel_rfl) (by kernel_rfl) ?_
      repeat still_step
      refine wpStill_nil ?_
      clear e1 e2 e3 e4 n1 n2 hX hY m1 m2
      go_wp2
      go_roundw
      case rel => exact ⟨k + 1, _, n + 1, by omega, by go_num, rfl, NX.out, rfl⟩
      case measure => simp [intOf]; omega
    · obtain rfl : k = 20 := by omega
      have e : s = t := by
        have h1 := HS.out
        rw [← ht] at h1
        obtain ⟨⟨a⟩⟩ := s
        obtain ⟨⟨b⟩⟩ := t
        simpa using h1
      subst e
      go_wp2
      go_ret
      exact ⟨rfl, bel_drewN (bal (Below.refl _ _) _) _⟩
end Go.Proofs.YtbmhddkmggoicaaDoor.ref06
