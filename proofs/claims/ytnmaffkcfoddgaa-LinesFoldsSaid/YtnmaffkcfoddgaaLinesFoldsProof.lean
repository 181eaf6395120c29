/-
  Proves that LinesFolds is true for every text: a fold is as long, it has no great letters, and folded once more it is the same. No condition.
-/
import Derived.Test.YtnmaffkcfoddgaaLinesLaw
import Derived.Deep.QuietTactic
import Derived.BigQuiet
namespace Go.Proofs.Ytnmaffkcfoddgaa.linesFolds
open Go.ChangeShapes Go.WideShapes Go.ChangeAt Go.RowKit
open lx lines
set_option linter.unusedVariables false

def Head (n : Nat) (w : World) (i : Value) (W : World) : Prop := ∃ k : Nat, k ≤ n ∧ i = .int .i64 k ∧ Below w.heap.size w W
set_option maxRecDepth 100000 in
set_option maxHeartbeats 4000000 in
theorem walk (s : ByteArray) (hs : s.size ≤ maxLen) (w : World) (T : ML w) : Calls Try.prog 8 #[.string s] w fun e w' => e = .returned (.bool true) ∧ Below w.heap.size w w' := by
  unfold maxLen at hs
  have S := Lib.hid (fun W hb => small_true T W hb)
  have B0 : Below w.heap.size w w := Below.refl _ _
  clear T
  by_cases h1 : 500 < s.size
  · go_enter Try.func8, Try.ntmps8
    go_wp2_with (first
      | (go_at_call 10; (with_reducible refine (S.out _ (by assumption)).mono ?_; rintro e w1 ⟨rfl, hb1⟩)))
    go_ret
    exact ⟨rfl, by assumption⟩
  have F1 := Lib.hid (fun W hb => fold_on (w := w) W hb s (by omega))
  have F2 := Lib.hid (fun W hb => fold_on (w := w) W hb (foldS s) (by rw [fold_size]; omega))
  rw [fold_fold] at F2
  have hz := fold_size s
  have hbt := fun k h => fold_bt s k h
  generalize foldS s = X at *
  have HB := Lib.hid hbt
  clear hbt
  go_enter Try.func8, Try.ntmps8
  go_wp2_with (first
    | (go_at_call 10; (with_reducible refine (S.out _ (by assumption)).mono ?_; rintro e w1 ⟨rfl, hb1⟩))
    | (go_at_call 20; (with_reducible refine (F1.out _ (by assumption)).mono ?_; rintro e w2 ⟨rfl, hb2⟩)))
  go_loopw [5] (fun i W => Head s.size w i W) (fun i _ => s.size - (intOf i).toNat)
  case atStart => exact ⟨0, by omega, rfl, by assumption⟩
  case round =>
    obtain ⟨k, hk, rfl, hb⟩ := hrel
    by_cases hlt : k < s.size
    · have b1 := bt_at s k hlt
      have b2 := bt_at X k (by omega)
      have b3 := HB.out k hlt
      have bd := bt_lt s k
      by_cases d1 : 65 ≤ bt s k
      · by_cases d2 : bt s k ≤ 90
        · rw [if_pos ⟨d1, d2⟩] at b3
          rw [b3] at b2
          clear b3
          generalize bt s k = b at *
          have q1 : decide (65 ≤ (b : Int) + 32) = true := by simp; omega
          have q2 : decide ((b : Int) + 32 ≤ 90) = false := by simp; omega
          have q3 : ((b : Int) + 32 != (b : Int)) = true := by simp; omega
          have q4 : decide ((b : Int) < 65) = false := by simp; omega
          have q5 : decide (90 < (b : Int)) = false := by simp; omega
          have q6 : IntKind.u8.wrap ((b : Int) + 32) = (b : Int) + 32 := by rw [IntKind.wrap_u8]; omega
          go_wp2
          go_quiet (fail)
          go_wp2
          go_roundw
          case rel => exact ⟨k + 1, by omega, by go_num, below_drewN hb _⟩
          case measure => simp [intOf]; omega
        · rw [if_neg (fun h => d2 h.2)] at b3
          rw [b3] at b2
          clear b3
          generalize bt s k = b at *
          have q1 : decide (65 ≤ (b : Int)) = true := by simp; omega
          have q2 : decide ((b : Int) ≤ 90) = false := by simp; omega
          have q3 : ((b : Int) != (b : Int)) = false := by simp
          go_wp2
          go_quiet (fail)
          go_wp2
          go_roundw
          case rel => exact ⟨k + 1, by omega, by go_num, below_drewN hb _⟩
          case measure => simp [intOf]; omega
      · rw [if_neg (fun h => d1 h.1)] at b3
        rw [b3] at b2
        clear b3
        generalize bt s k = b at *
        have q1 : decide (65 ≤ (b : Int)) = false := by simp; omega
        have q3 : ((b : Int) != (b : Int)) = false := by simp
        go_wp2
        go_quiet (fail)
        go_wp2
        go_roundw
        case rel => exact ⟨k + 1, by omega, by go_num, below_drewN hb _⟩
        case measure => simp [intOf]; omega
    · go_wp2_with (go_at_call 20; (with_reducible refine (F2.out _ (by assumption)).mono ?_); rintro e w5 ⟨rfl, hb5⟩)
      go_ret
      exact ⟨rfl, by assumption⟩
set_option maxRecDepth 100000 in
theorem lifted (os : Os) (started : os.Started) (H : Type) (enc : TypeId × Value → H) :
    ReturnsInHanded {} Try.checked os 8 .any (Rows.linesFoldsSpec.pre6 enc Try.prog Try.f8 Rows.linesFoldsRow.domain false) (Rows.linesFoldsSpec.post enc Try.prog Try.f8 false true false false) := by
  refine returnsInHanded_of_change_shaped (C := Try.checked) law.own started (by kernel_rfl) Try.func8
    (ChangeSpec.witness6 (enc := enc) (C := Try.checked) false ⟨#[], #[.string ByteArray.empty], []⟩ 8 (by kernel_rfl) (by kernel_rfl) (by kernel_rfl) (by kernel_rfl)) ?_
  intro W base args ds gs before hval0 hW hcnd _ hsh _
  have hval : ∀ (j : Nat) t v, Try.f8.params[j]? = some t → args[j]? = some v → Value.okWide Try.prog W .any base t v := hval0
  have hW' := hW
  obtain ⟨p, q, hA0, hV, rfl, hfz, hnd⟩ := hW
  have hA : DataW.TrodAll enc Try.prog W 0 (fun _ => true) true Try.f8.params.toList args.toList ds p := hA0
  rw [Try.params8] at hA hval
  obtain ⟨v0, vs0, d0, ds0, p0, q0, hargs, rfl, rfl, h0, r0⟩ := trodAll_cons hA
  obtain ⟨rfl, rfl, rfl⟩ := trodAll_nil r0
  obtain rfl : args = #[v0] := by cases args; simp_all
  obtain ⟨rfl, rfl⟩ := trodVars_none hV
  clear hA0 hval0
  obtain ⟨a0, rfl, hd0, hp0, w0⟩ := ChangeMaps.open_string Try.underlying9 (hval 0 9 v0 rfl rfl) h0
  refine (Calls.mono (R := fun e w' => e = .returned (.bool true) ∧ Below W.heap.size W w') ?_ fun e W' ⟨he, hb⟩ => ?_)
  · exact walk a0 w0 W (lines.ml_of hsh)
  · subst he
    exact ⟨_, rfl, law.post law.laidOut (by kernel_rfl) rfl rfl Try.underlying4 rfl hW' hb⟩

theorem over : Rows.linesFoldsRow.holds Try.pinned (OpenSpec.ofChange Rows.linesFoldsSpec) :=
  OpenClaim.holds_of_wide 8 Try.f8 rfl rfl rfl rfl rfl rfl rfl ⟨rfl, rfl, rfl, rfl, rfl⟩ rfl rfl rfl rfl rfl (by kernel_rfl) Try.func8 (by kernel_rfl)
    (of_decide_eq_true (by kernel_rfl)) (by unfold Func.isWrapper; first | (rw [if_pos (by decide +kernel)]; kernel_rfl) | (rw [if_neg (by decide +kernel)]; exact ⟨rfl, rfl⟩))
    (fun os started H enc _ => lifted os started H enc)

theorem proved : Rows.LinesFoldsSaid := over
end Go.Proofs.Ytnmaffkcfoddgaa.linesFolds
