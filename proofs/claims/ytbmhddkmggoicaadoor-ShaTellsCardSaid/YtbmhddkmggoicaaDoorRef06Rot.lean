/-
  What the document's own turn and mix answer. Condition: the arguments are words.
-/
import Derived.Test.YtbmhddkmggoicaaDoorShaRot
namespace Go.Proofs.YtbmhddkmggoicaaDoor.ref06
open Go.ChangeShapes Go.WideShapes Go.ChangeAt Go.RowKit
open sx sha
set_option linter.unusedVariables false

theorem turn_any (x : Nat) (n : Nat) (w : World) (hx : x < 4294967296) (h1 : 1 ≤ n) (h2 : n ≤ 31) : Calls Tryd.prog 22 #[.int .u32 (x : Nat), .int .i64 (n : Nat)] w fun e w' => e = .returned (.int .u32 (rot x n : Nat)) ∧ ∃ k, w' = w.drewN k := by
  have hr := Lib.hid (rot_bits x n hx)
  go_enter Tryd.func22, Tryd.ntmps22
  go_wp2
  go_quiet (fail)
  go_wp2
  go_ret
  exact ⟨ret_one hr.out, _, rfl⟩
theorem mix_any (i b c d : Nat) (w : World) (hi : i < 80) (hb : b < 4294967296) (hc : c < 4294967296) (hd : d < 4294967296) :
    Calls Tryd.prog 23 #[.int .i64 (i : Nat), .int .u32 (b : Nat), .int .u32 (c : Nat), .int .u32 (d : Nat)] w fun e w' => e = .returned (.int .u32 ((ff i b c d + kk i) % 4294967296 : Nat)) ∧ w = w' := by
  have hs : IntKind.u32.signed = false := rfl
  have E0 := Lib.hid (f0 b c d hb hc hd)
  have E1 := Lib.hid (f1 b c d hb hc hd)
  have E2 := Lib.hid (f2 b c d hb hc hd)
  rcases (show i < 20 ∨ (20 ≤ i ∧ i < 40) ∨ (40 ≤ i ∧ i < 60) ∨ 60 ≤ i by omega) with h | ⟨h, h'⟩ | ⟨h, h'⟩ | h
  · have F := Lib.hid (show ff i b c d = (b &&& c) ^^^ ((4294967295 - b) &&& d) from if_pos h)
    have G := Lib.hid (show kk i = 1518500249 from if_pos h)
    go_enter Tryd.func23, Tryd.ntmps23
    go_wp2
    go_ret
    exact ⟨ret_one (by rw [F.out, G.out, E0.out]; omega), rfl⟩
  · have F := Lib.hid (show ff i b c d = b ^^^ c ^^^ d by unfold ff; rw [if_neg (by omega), if_pos h'])
    have G := Lib.hid (show kk i = 1859775393 by unfold kk; rw [if_neg (by omega), if_pos h'])
    go_enter Tryd.func23, Tryd.ntmps23
    go_wp2
    go_ret
    exact ⟨ret_one (by rw [F.out, G.out, E1.out]; omega), rfl⟩
  · have F := Lib.hid (show ff i b c d = (b &&& c) ^^^ (b &&& d) ^^^ (c &&& d) by unfold ff; rw [if_neg (by omega), if_neg (by omega), if_pos h'])
    have G := Lib.hid (show kk i = 2400959708 by unfold kk; rw [if_neg (by omega), if_neg (by omega), if_pos h'])
    have h0 : 20 ≤ i := by omega
    go_enter Tryd.func23, Tryd.ntmps23
    go_wp2
    go_ret
    exact ⟨ret_one (by rw [F.out, G.out, E2.out]; omega), rfl⟩
  · have F := Lib.hid (show ff i b c d = b ^^^ c ^^^ d by unfold ff; rw [if_neg (by omega), if_neg (by omega), if_neg (by omega)])
    have G := Lib.hid (show kk i = 3395469782 by unfold kk; rw [if_neg (by omega), if_neg (by omega), if_neg (by omega)])
    have h0 : 20 ≤ i := by omega
    have h1 : 40 ≤ i := by omega
    go_enter Tryd.func23, Tryd.ntmps23
    go_wp2
    go_ret
    exact ⟨ret_one (by rw [F.out, G.out, E1.out]; omega), rfl⟩
end Go.Proofs.YtbmhddkmggoicaaDoor.ref06
