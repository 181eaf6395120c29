/-
  From the row's condition on the listed variables to what layer 7's contracts ask of the memory: the library's table deBruijn64tab holds 4 at its place 15; and hashes that came in, as they are read. Condition: the row's own.
-/
import Derived.Test.YtfnkloecfjppeaaDoorNtpSmall
import Derived.Test.YtfnkloecfjppeaaDoorShaApp
import Derived.Test.YtfnkloecfjppeaaDoorLaw
namespace Go.Proofs.YtfnkloecfjppeaaDoor.ntp
open Go.ChangeShapes Go.WideShapes Go.ChangeAt Go.RowKit
open lx nx sx
open sha (laid_at cB cW)
set_option linter.unusedVariables false

theorem gTab : Tryd.prog.globalNamed "math/bits.deBruijn64tab" = some 3 := by kernel_rfl
theorem tTab : (Tryd.prog.globals[3]?).map (·.type) = some 87 := by kernel_rfl
def tab64 : List Int := [0, 1, 56, 2, 57, 49, 28, 3, 61, 58, 42, 50, 38, 29, 17, 4, 62, 47, 59, 36, 45, 43, 51, 22, 53, 39, 33, 30, 24, 18, 12, 5, 63, 55, 48, 27, 60, 41, 37, 16, 46, 35, 44, 21, 52, 32, 23, 11, 54, 26, 40, 15, 34, 20, 31, 10, 25, 14, 19, 9, 13, 8, 7, 6]
theorem tz_of {W : World} {l : List (String × DataW Unit)} (h : laidMet Tryd.prog l W) (h1 : ("math/bits.deBruijn64tab", Rows.laid_math_bits_deBruijn64tab) ∈ l) : Tz W := by
  obtain ⟨ps, hL, _, _⟩ := h
  obtain ⟨c, f, p, hv, ht⟩ := laid_at gTab tTab l ps hL h1
  have e1 : c.toList = tab64.map fun z => Value.int .u8 z := Lib.cells_of_tab (zs := tab64) Tryd.underlying87 Tryd.underlying5 cB (by kernel_rfl) ht
  unfold Tz
  rw [World.var?_cell gTab hv 15, ← Array.getElem?_toList, e1]
  rfl
theorem c5 : Tryd.prog.cellsOf 23 = 5 := by kernel_rfl
/-- a hash that came in. -/
theorem open_hash {H : Type} {enc : TypeId × Value → H} {W : World} {base : Nat} {v : Value} {d : DataW H} {p : List MemPlace} (hv : Value.okWide Tryd.prog W .any base 23 v) (h : DataW.Trod enc Tryd.prog W 0 (fun _ => true) true 23 v d p) :
    ∃ f, v = .agg (cs .u32 f 5) ∧ ∀ k, k < 5 → f k < 4294967296 := by
  obtain ⟨c, rfl, hc⟩ : ∃ c, v = .agg c ∧ c.size = 5 := by
    unfold Value.okWide at hv
    rw [Tryd.underlying23] at hv
    obtain ⟨c, e, hs, _⟩ := hv
    exact ⟨c, e, by rw [hs, c5]⟩
  obtain ⟨fuel, hf⟩ := h
  have hf' : DataW.trod enc Tryd.prog W 0 (fun _ => true) true fuel 23 c.toList = some (d, p) := hf
  obtain ⟨xs, m, _, hx, hl, hn, hel⟩ := DataW.trod_array Tryd.underlying23 hf'
  have each : ∀ i, i < 5 → ∃ n : Nat, c[i]? = some (.int .u32 (n : Nat)) ∧ n < 4294967296 := by
    intro i hi
    have hi' := hel i hi
    rw [List.getElem?_eq_getElem (by omega)] at hi'
    obtain ⟨z, e0, _, hw⟩ := DataW.trod_int Tryd.underlying22 hi'
    rw [cW] at e0
    have hb := bounds_u32 hw
    refine ⟨z.toNat, ?_, by omega⟩
    have e1 : c.toList[i]? = some (.int .u32 z) := by
      have := congrArg (fun l => l[0]?) e0
      simpa [List.getElem?_take, List.getElem?_drop] using this
    rw [← Array.getElem?_toList, e1, show ((z.toNat : Nat) : Int) = z by omega]
  obtain ⟨f, hff⟩ : ∃ f : Nat → Nat, ∀ i, i < 5 → c[i]? = some (.int .u32 (f i : Nat)) ∧ f i < 4294967296 := by
    refine ⟨fun i => if h : i < 5 then (each i h).choose else 0, fun i hi => ?_⟩
    simp only [dif_pos hi]
    exact (each i hi).choose_spec
  refine ⟨f, ?_, fun j hj => (hff j hj).2⟩
  congr 1
  apply Array.ext_getElem?
  intro i
  by_cases hi : i < 5
  · rw [(hff i hi).1, cs_get .u32 f 5 i hi]
  · rw [Array.getElem?_eq_none (by omega), Array.getElem?_eq_none (by rw [cs_size]; omega)]
end Go.Proofs.YtfnkloecfjppeaaDoor.ntp
