/-
  Heads that came in by value. Conditions: the row's own.
-/
import Derived.Test.YtkdmecpelfcbmaaHeadDec
import Derived.Test.YtkdmecpelfcbmaaOctLaw
namespace Go.Proofs.Ytkdmecpelfcbmaa.head
open Go.ChangeShapes Go.WideShapes Go.ChangeAt Go.RowKit
open om mem oct hd
set_option linter.unusedVariables false
set_option maxRecDepth 100000

/-- its numbers are of 64 bits. -/
def Bd (h : Hd) : Prop := I64 h.v ∧ I64 h.ut ∧ I64 h.sd ∧ I64 h.lp ∧ I64 h.tm ∧ I64 h.ty ∧ I64 h.ch
theorem cH : Try.prog.cellsOf 28 = 7 := by kernel_rfl
theorem cI : Try.prog.cellsOf 3 = 1 := by kernel_rfl
theorem one_field {H : Type} {enc : TypeId × Value → H} {W : World} {n : Nat} {l : List Value} {k : Nat} {c : Value} {xs : List (DataW H × List MemPlace)} (hl : l[k]? = some c) (hk : k < xs.length)
    (h : DataW.trod enc Try.prog W 0 (fun _ => true) true n 3 ((l.drop k).take (Try.prog.cellsOf 3)) = xs[k]?) : ∃ z, c = .int .i64 z ∧ I64 z := by
  rw [List.getElem?_eq_getElem hk] at h
  obtain ⟨z, e0, _, hw⟩ := DataW.trod_int Try.underlying3 h
  rw [cI] at e0
  refine ⟨z, ?_, bounds_i64 hw⟩
  have := congrArg (fun l => l[0]?) e0
  simp only [List.getElem?_take, List.getElem?_drop, Nat.add_zero, List.getElem?_cons_zero] at this
  rw [hl] at this
  simpa using this
theorem open_head {H : Type} {enc : TypeId × Value → H} {W : World} {base : Nat} {v : Value} {d : DataW H} {p : List MemPlace} (hv : Value.okWide Try.prog W .any base 28 v) (h : DataW.Trod enc Try.prog W 0 (fun _ => true) true 28 v d p) :
    ∃ h : Hd, v = (.agg #[.int .i64 h.v, .int .i64 h.ut, .int .i64 h.sd, .int .i64 h.lp, .int .i64 h.tm, .int .i64 h.ty, .int .i64 h.ch]) ∧ Bd h := by
  obtain ⟨cs, rfl, hsz⟩ := okWide_struct Try.underlying28 hv
  rw [cH] at hsz
  obtain ⟨l⟩ := cs
  obtain ⟨fuel, hf⟩ := h
  have hf' : DataW.trod enc Try.prog W 0 (fun _ => true) true fuel 28 l = some (d, p) := hf
  obtain ⟨xs, m, _, hx, hl, hn, hel⟩ := DataW.trod_struct Try.underlying28 hf'
  have hsz' : l.length = 7 := hsz
  have hn' : xs.length = 7 := hn
  match l, hsz' with
  | [c0, c1, c2, c3, c4, c5, c6], _ =>
    obtain ⟨z0, rfl, b0⟩ := one_field (k := 0) rfl (by omega) (hel 0 _ rfl)
    obtain ⟨z1, rfl, b1⟩ := one_field (k := 1) rfl (by omega) (hel 1 _ rfl)
    obtain ⟨z2, rfl, b2⟩ := one_field (k := 2) rfl (by omega) (hel 2 _ rfl)
    obtain ⟨z3, rfl, b3⟩ := one_field (k := 3) rfl (by omega) (hel 3 _ rfl)
    obtain ⟨z4, rfl, b4⟩ := one_field (k := 4) rfl (by omega) (hel 4 _ rfl)
    obtain ⟨z5, rfl, b5⟩ := one_field (k := 5) rfl (by omega) (hel 5 _ rfl)
    obtain ⟨z6, rfl, b6⟩ := one_field (k := 6) rfl (by omega) (hel 6 _ rfl)
    exact ⟨⟨z0, z1, z2, z3, z4, z5, z6⟩, rfl, b0, b1, b2, b3, b4, b5, b6⟩
end Go.Proofs.Ytkdmecpelfcbmaa.head
