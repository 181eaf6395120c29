/-
  BlockSizes: what may be laid in four bytes a time may be in eight, and is the same zone, for any zone. No condition.
-/
import Derived.Test.YtkdmecpelfcbmaaBlkSizesW
import Derived.Test.YtkdmecpelfcbmaaBlkSmall
import Derived.Test.YtkdmecpelfcbmaaBlkLaw
import Derived.Test.YtkdmecpelfcbmaaOctLaw
namespace Go.Proofs.Ytkdmecpelfcbmaa.blockSizes
open Go.ChangeShapes Go.WideShapes Go.ChangeAt Go.RowKit
open om mem oct bk blk
set_option linter.unusedVariables false
set_option maxRecDepth 100000

theorem walk (w : World) (A : Option Addr) (a : Nat) (B : Option Addr) (b : Nat) (C : Option Addr) (c : Nat) (z : Zn) (hz : Zr w A B C z) (bd : Bd z) (TM : lines.ML w) : Calls Try.prog 5 #[(.agg #[.slice A z.ty.length a, .slice B z.tr.length b, .slice C z.lp.length c, .string z.ft, .int .i64 z.v])] w fun e w' => e = .returned (.bool true) ∧ Below w.heap.size w w' := walk0 small_at w A a B b C c z hz bd TM
set_option maxRecDepth 100000 in
theorem lifted (os : Os) (started : os.Started) (H : Type) (enc : TypeId × Value → H) :
    ReturnsInHanded {} Try.checked os 5 .any (Rows.blockSizesSpec.pre6 enc Try.prog Try.f5 Rows.blockSizesRow.domain false) (Rows.blockSizesSpec.post enc Try.prog Try.f5 false true false false) := by
  refine returnsInHanded_of_change_shaped (C := Try.checked) law.own started (by kernel_rfl) Try.func5
    (ChangeSpec.witness6 (enc := enc) (C := Try.checked) false ⟨#[], #[.agg #[.slice none 0 0, .slice none 0 0, .slice none 0 0, .string ByteArray.empty, .int .i64 0]], []⟩ 8 (by kernel_rfl) (by kernel_rfl) (by kernel_rfl) (by kernel_rfl)) ?_
  intro W base args ds gs before hval0 hW hcnd _ hsh _
  have hval : ∀ (j : Nat) t v, Try.f5.params[j]? = some t → args[j]? = some v → Value.okWide Try.prog W .any base t v := hval0
  have hW' := hW
  obtain ⟨p, q, hA0, hV, rfl, hfz, hnd⟩ := hW
  have hA : DataW.TrodAll enc Try.prog W 0 (fun _ => true) true Try.f5.params.toList args.toList ds p := hA0
  rw [Try.params5] at hA hval
  obtain ⟨v0, vs0, d0, ds0, p0, q0, hargs, rfl, rfl, h0, r0⟩ := trodAll_cons hA
  obtain ⟨rfl, rfl, rfl⟩ := trodAll_nil r0
  obtain rfl : args = #[v0] := by cases args; simp_all
  obtain ⟨rfl, rfl⟩ := trodVars_none hV
  clear hA0 hval0
  obtain ⟨A0_, a0_, B0_, b0_, C0_, c0_, z0_, rfl, q0_, m0_⟩ := blk.open_zone (hval 0 26 v0 rfl rfl) h0
  refine (Calls.mono (R := fun e w' => e = .returned (.bool true) ∧ Below W.heap.size W w') ?_ fun e W' ⟨he, hb⟩ => ?_)
  · exact walk W A0_ a0_ B0_ b0_ C0_ c0_ z0_ q0_ m0_ (lines.ml_of hsh)
  · subst he
    exact ⟨_, rfl, law.post law.laidOut (by kernel_rfl) rfl rfl Try.underlying4 rfl hW' hb⟩

theorem over : Rows.blockSizesRow.holds Try.pinned (OpenSpec.ofChange Rows.blockSizesSpec) :=
  OpenClaim.holds_of_wide 5 Try.f5 rfl rfl rfl rfl rfl rfl rfl ⟨rfl, rfl, rfl, rfl, rfl⟩ rfl rfl rfl rfl rfl (by kernel_rfl) Try.func5 (by kernel_rfl)
    (of_decide_eq_true (by kernel_rfl)) (by unfold Func.isWrapper; first | (rw [if_pos (by decide +kernel)]; kernel_rfl) | (rw [if_neg (by decide +kernel)]; exact ⟨rfl, rfl⟩))
    (fun os started H enc _ => lifted os started H enc)

theorem proved : Rows.BlockSizesSaid := over
end Go.Proofs.Ytkdmecpelfcbmaa.blockSizes
