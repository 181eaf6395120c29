/-
  Bytes, and rows of calls, that came in, as they are read. Conditions: the row's own.
-/
import Derived.Test.YtkdmecpelfcbmaaOctSmall
import Derived.Test.YtkdmecpelfcbmaaLaw
import Derived.Deep.SlicePairs
import Derived.Stop.Joined
namespace Go.Proofs.Ytkdmecpelfcbmaa.oct
open Go.ChangeShapes Go.WideShapes Go.ChangeAt Go.RowKit
open om mem
set_option linter.unusedVariables false
set_option maxRecDepth 100000

theorem cB : Try.prog.cellsOf 5 = 1 := by kernel_rfl
/-- numbers of bytes. -/
def toN (zs : List Int) : List Nat := zs.map Int.toNat
theorem toN_len (zs : List Int) : (toN zs).length = zs.length := by simp [toN]
theorem toN_bys {zs : List Int} (h : ∀ n ∈ zs, (Lit.int .u8 n).wf = true) : Bys (toN zs) := by
  intro x hx
  obtain ⟨z, hz, rfl⟩ := List.mem_map.1 hx
  have := bounds_u8 (h z hz)
  omega
theorem toN_at {zs : List Int} (h : ∀ n ∈ zs, (Lit.int .u8 n).wf = true) (k : Nat) (hk : k < (toN zs).length) : (((toN zs)[k] : Nat) : Int) = zs.getD k 0 := by
  have hk' : k < zs.length := by rw [toN_len] at hk; exact hk
  have hb := bounds_u8 (h zs[k] (List.getElem_mem _))
  simp only [toN, List.getElem_map, List.getD_eq_getElem?_getD, List.getElem?_eq_getElem hk', Option.getD_some]
  omega
theorem rd_of {W : World} {a : Option Addr} {len cap : Nat} {zs : List Int} (hl : len ≤ cap) (hz : zs.length = cap) (hw : ∀ n ∈ zs, (Lit.int .u8 n).wf = true) (h0 : a = none → cap = 0) (hc : ∀ a', a = some a' → ∀ c, c < cap → W.cell? (a'.add c) = some (.int .u8 (zs.getD c 0))) :
    RdW W (.slice a len cap) ((toN zs).take len) := by
  have hlen : ((toN zs).take len).length = len := by rw [List.length_take, toN_len]; omega
  refine ⟨a, cap, by rw [hlen], by omega, h0, fun hne => ?_⟩
  have hp : 0 < len := by rw [← hlen]; exact List.length_pos_iff.2 hne
  cases a with
  | none => have := h0 rfl; omega
  | some a' =>
    obtain ⟨b, off, spot⟩ := a'
    have hspot : spot = none := by simpa [Addr.add] using World.cell?_spot (hc _ rfl 0 (by omega))
    subst hspot
    refine ⟨b, off, rfl, fun k hk => ?_⟩
    rw [hlen] at hk
    have := hc _ rfl k (by omega)
    rw [Addr.add_mid] at this
    rw [this, List.getElem_take, toN_at hw k (by rw [toN_len]; omega)]
theorem open_bytes {H : Type} {enc : TypeId × Value → H} {W : World} {base : Nat} {v : Value} {d : DataW H} {p : List MemPlace} (hv : Value.okWide Try.prog W .any base 29 v) (h : DataW.Trod enc Try.prog W 0 (fun _ => true) true 29 v d p) :
    ∃ l, RdW W v l ∧ Bys l ∧ l.length ≤ 9223372036854775807 := by
  obtain ⟨a0, len0, cap0, rfl⟩ := okWide_slice Try.underlying29 hv
  obtain ⟨fuel, hf⟩ := h
  rcases ChangeShapes.open_ints (cs := [.slice a0 len0 cap0]) Try.underlying29 Try.underlying5 cB hf with ⟨h1, _⟩ | ⟨a, len, cap, zs, h1, _, h3, h4, h5, _, h7, h8⟩
  · simp only [List.cons.injEq, Value.slice.injEq, and_true] at h1
    obtain ⟨rfl, rfl, rfl⟩ := h1
    exact ⟨[], ⟨none, 0, rfl, by simp, fun _ => rfl, fun h => absurd rfl h⟩, (fun x hx => by cases hx), by simp⟩
  · simp only [List.cons.injEq, Value.slice.injEq, and_true] at h1
    obtain ⟨rfl, rfl, rfl⟩ := h1
    simp only [if_true] at h5
    unfold maxLen at h4
    refine ⟨(toN zs).take len0, rd_of h3 h5 h8 (fun h => by cases h) (fun a' e c hc => by cases e; exact h7 c (by omega)), fun x hx => toN_bys h8 x (List.mem_of_mem_take hx), ?_⟩
    rw [List.length_take]; omega
/-- a slice that reads as a row of calls: what is done, its number. -/
abbrev Ac := Int × Int
end Go.Proofs.Ytkdmecpelfcbmaa.oct
