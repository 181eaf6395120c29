/-
  What num's Add and Sub answer where the second number is 2208988800, and what ntp's Posix and Ntp answer, for all numbers of 64 bits. No condition beside that the argument is such a number.
-/
import Derived.Test.YtfnkloecfjppeaaDoorRows
import Derived.WalkKit
import Derived.ProofKit
import Derived.OpenShut
import Derived.IntWalk
import Derived.Deep.QuietTactic
import Derived.BigQuiet
import Derived.Lib.Hide
namespace Go.Proofs.YtfnkloecfjppeaaDoor.ntp
open Go.ChangeShapes Go.WideShapes Go.ChangeAt Go.RowKit
set_option linter.unusedVariables false

def fit (n : Int) : Prop := -9223372036854775808 ≤ n ∧ n ≤ 9223372036854775807
theorem add_yes (a : Int) (w : World) (ha : fit a) (h : a ≤ 9223372034645787007) :
    Calls Tryd.prog 23 #[.int .i64 a, .int .i64 2208988800] w fun e w' => e = .returned (.tuple #[.int .i64 (a + 2208988800), .bool true]) ∧ w = w' := by
  obtain ⟨ha1, ha2⟩ := ha
  go_enter Tryd.func23, Tryd.ntmps23
  go_wp2
  go_ret2
  exact ⟨rfl, rfl⟩
theorem add_no (a : Int) (w : World) (ha : fit a) (h : ¬ a ≤ 9223372034645787007) :
    Calls Tryd.prog 23 #[.int .i64 a, .int .i64 2208988800] w fun e w' => e = .returned (.tuple #[.int .i64 0, .bool false]) ∧ w = w' := by
  obtain ⟨ha1, ha2⟩ := ha
  go_enter Tryd.func23, Tryd.ntmps23
  go_wp2
  go_ret2
  exact ⟨rfl, rfl⟩
theorem sub_yes (a : Int) (w : World) (ha : fit a) (h : 0 ≤ a) :
    Calls Tryd.prog 22 #[.int .i64 a, .int .i64 2208988800] w fun e w' => e = .returned (.tuple #[.int .i64 (a - 2208988800), .bool true]) ∧ w = w' := by
  obtain ⟨ha1, ha2⟩ := ha
  go_enter Tryd.func22, Tryd.ntmps22
  go_wp2
  go_ret2
  exact ⟨rfl, rfl⟩
theorem posix_yes (n : Int) (w : World) (hn : fit n) (h : 0 ≤ n) :
    Calls Tryd.prog 9 #[.int .i64 n] w fun e w' => e = .returned (.tuple #[.int .i64 (n - 2208988800), .bool true]) ∧ w = w' := by
  have S := Lib.hid (fun W => sub_yes n W hn h)
  obtain ⟨hn1, hn2⟩ := hn
  go_enter Tryd.func9, Tryd.ntmps9
  go_wp2_with (first
    | (go_at_call 22; (with_reducible refine (S.out _).mono ?_; rintro e w' ⟨rfl, rfl⟩)))
  go_ret2
  exact ⟨rfl, rfl⟩
theorem posix_no (n : Int) (w : World) (hn : fit n) (h : ¬ 0 ≤ n) :
    Calls Tryd.prog 9 #[.int .i64 n] w fun e w' => e = .returned (.tuple #[.int .i64 0, .bool false]) ∧ w = w' := by
  obtain ⟨hn1, hn2⟩ := hn
  go_enter Tryd.func9, Tryd.ntmps9
  go_wp2
  go_ret2
  exact ⟨rfl, rfl⟩
def Has (p : Int) : Prop := -2208988800 ≤ p ∧ p ≤ 9223372034645787007
theorem ntp_yes (p : Int) (w : World) (h : Has p) :
    Calls Tryd.prog 11 #[.int .i64 p] w fun e w' => e = .returned (.tuple #[.int .i64 (p + 2208988800), .bool true]) ∧ w = w' := by
  obtain ⟨h1, h2⟩ := h
  have A := Lib.hid (fun W => add_yes p W ⟨by omega, by omega⟩ h2)
  go_enter Tryd.func11, Tryd.ntmps11
  go_wp2_with (first
    | (go_at_call 23; (with_reducible refine (A.out _).mono ?_; rintro e w' ⟨rfl, rfl⟩)))
  go_ret2
  exact ⟨rfl, rfl⟩
theorem ntp_no (p : Int) (w : World) (hp : fit p) (h : ¬ Has p) :
    Calls Tryd.prog 11 #[.int .i64 p] w fun e w' => e = .returned (.tuple #[.int .i64 0, .bool false]) ∧ w = w' := by
  by_cases h2 : p ≤ 9223372034645787007
  · have A := Lib.hid (fun W => add_yes p W hp h2)
    have h1 : p < -2208988800 := by unfold Has at h; omega
    obtain ⟨hp1, hp2⟩ := hp
    clear h
    go_enter Tryd.func11, Tryd.ntmps11
    go_wp2_with (first
      | (go_at_call 23; (with_reducible refine (A.out _).mono ?_; rintro e w' ⟨rfl, rfl⟩)))
    go_ret2
    exact ⟨rfl, rfl⟩
  · have A := Lib.hid (fun W => add_no p W hp h2)
    obtain ⟨hp1, hp2⟩ := hp
    clear h
    go_enter Tryd.func11, Tryd.ntmps11
    go_wp2_with (first
      | (go_at_call 23; (with_reducible refine (A.out _).mono ?_; rintro e w' ⟨rfl, rfl⟩)))
    go_ret2
    exact ⟨rfl, rfl⟩
end Go.Proofs.YtfnkloecfjppeaaDoor.ntp
