/-
  Bytes, and rows of calls, that came in, as they are read. Conditions: the row's own.
-/
import Derived.Test.YtoclafnnbaddeaaOctSmall
import Derived.Test.YtoclafnnbaddeaaLaw
import Derived.Deep.SlicePairs
import Derived.Stop.Joined
namespace Go.Proofs.Ytoclafnnbaddeaa.oct
open Go.ChangeShapes Go.WideShapes Go.ChangeAt Go.RowKit
open om mem
set_option linter.unusedVariables false
set_option maxRecDepth 100000

theorem cB : Try.prog.cellsOf 5 = 1 := by kernel_rfl
/-- numbers of bytes. -/
def toN (zs : List Int) : List Nat := zs.map Int.toNat
theorem toN_len (zs : List Int) : (toN zs).length = zs.length := by simp [toN]
theorem toN_bys {zs : List Int} (h : ∀ n ∈ zs, (Lit.int .u8 n).wf = true) : Bys (toN zs) := by
  intro x hx
  obtain ⟨z, hz, rfl⟩ := List.mem_map.1 hx
  have := bounds_u8 (h z hz)
  omega
theorem toN_at {zs : List Int} (h : ∀ n ∈ zs, (Lit.int .u8 n).wf = true) (k : Nat) (hk : k < (toN zs).length) : (((toN zs)[k] : Nat) : Int) = zs.getD k 0 := by
  have hk' : k < zs.length := by rw [toN_len] at hk; exact hk
  have hb := bounds_u8 (h zs[k] (List.getElem_mem _))
  simp only [toN, List.getElem_map, List.getD_eq_getElem?_getD, List.getElem?_eq_getElem hk', Option.getD_some]
  omega
theorem rd_of {W : World} {a : Option Addr} {len cap : Nat} {zs : List Int} (hl : len ≤ cap) (hz : zs.length = cap) (hw : ∀ n ∈ zs, (Lit.int .u8 n).wf = true) (h0 : a = none → cap = 0) (hc : ∀ a', a = some a' → ∀ c, c < cap → W.cell? (a'.add c) = some (.int .u8 (zs.getD c 0))) :
    RdW W (.slice a len cap) ((toN zs).take len) := by
  have hlen : ((toN zs).take len).length = len := by rw [List.length_take, toN_len]; omega
  refine ⟨a, cap, by rw [hlen], by omega, h0, fun hne => ?_⟩
  have hp : 0 < len := by rw [← hlen]; exact List.length_pos_iff.2 hne
  cases a with
  | none => have := h0 rfl; omega
  | some a' =>
    obtain ⟨b, off, spot⟩ := a'
    have hspot : spot = none := by simpa [Addr.add] using World.cell?_spot (hc _ rfl 0 (by omega))
    subst hspot
    refine ⟨b, off, rfl, fun k hk => ?_⟩
    rw [hlen] at hk
    have := hc _ rfl k (by omega)
    rw [Addr.add_mid] at this
    rw [this, List.getElem_take, toN_at hw k (by rw [toN_len]; omega)]
theorem open_bytes {H : Type} {enc : TypeId × Value → H} {W : World} {base : Nat} {v : Value} {d : DataW H} {p : List MemPlace} (hv : Value.okWide Try.prog W .any base 22 v) (h : DataW.Trod enc Try.prog W 0 (fun _ => true) true 22 v d p) :
    ∃ l, RdW W v l ∧ Bys l ∧ l.length ≤ 9223372036854775807 := by
  obtain ⟨a0, len0, cap0, rfl⟩ := okWide_slice Try.underlying22 hv
  obtain ⟨fuel, hf⟩ := h
  rcases ChangeShapes.open_ints (cs := [.slice a0 len0 cap0]) Try.underlying22 Try.underlying5 cB hf with ⟨h1, _⟩ | ⟨a, len, cap, zs, h1, _, h3, h4, h5, _, h7, h8⟩
  · simp only [List.cons.injEq, Value.slice.injEq, and_true] at h1
    obtain ⟨rfl, rfl, rfl⟩ := h1
    exact ⟨[], ⟨none, 0, rfl, by simp, fun _ => rfl, fun h => absurd rfl h⟩, (fun x hx => by cases hx), by simp⟩
  · simp only [List.cons.injEq, Value.slice.injEq, and_true] at h1
    obtain ⟨rfl, rfl, rfl⟩ := h1
    simp only [if_true] at h5
    unfold maxLen at h4
    refine ⟨(toN zs).take len0, rd_of h3 h5 h8 (fun h => by cases h) (fun a' e c hc => by cases e; exact h7 c (by omega)), fun x hx => toN_bys h8 x (List.mem_of_mem_take hx), ?_⟩
    rw [List.length_take]; omega
/-- a slice that reads as a row of calls: what is done, its number. -/
abbrev Ac := Int × Int
def Acs (w : World) (A : Option Addr) (l : List Ac) : Prop :=
  l ≠ [] → ∃ b o, A = some ⟨b, o, none⟩ ∧ b < w.heap.size ∧ ∀ k (h : k < l.length), w.cell? ⟨b, o + k * 2, none⟩ = some (.int .i64 l[k].1) ∧ w.cell? ⟨b, o + k * 2 + 1, none⟩ = some (.int .i64 l[k].2)
theorem Acs.below {w W : World} {A : Option Addr} {l : List Ac} (h : Acs w A l) {B : Nat} (hb : Below B w W) (hB : B = w.heap.size) : Acs W A l := by
  subst hB
  intro hl
  obtain ⟨b, o, e, hlt, hc⟩ := h hl
  exact ⟨b, o, e, Nat.lt_of_lt_of_le hlt hb.size, fun k hk => ⟨(hb.cell (p := ⟨b, o + k * 2, none⟩) hlt).trans (hc k hk).1, (hb.cell (p := ⟨b, o + k * 2 + 1, none⟩) hlt).trans (hc k hk).2⟩⟩
def I64s (l : List Ac) : Prop := ∀ k (h : k < l.length), I64 l[k].1 ∧ I64 l[k].2
theorem cA : Try.prog.cellsOf 32 = 2 := by kernel_rfl
theorem cInt : Try.prog.cellsOf 3 = 1 := by kernel_rfl
theorem open_acts {H : Type} {enc : TypeId × Value → H} {W : World} {base : Nat} {v : Value} {d : DataW H} {p : List MemPlace} (hv : Value.okWide Try.prog W .any base 23 v) (h : DataW.Trod enc Try.prog W 0 (fun _ => true) true 23 v d p) :
    ∃ A c l, v = .slice A (List.length l) c ∧ Acs W A l ∧ List.length l ≤ 9223372036854775807 ∧ I64s l := by
  obtain ⟨a0, len0, cap0, rfl⟩ := okWide_slice Try.underlying23 hv
  obtain ⟨fuel, hf⟩ := h
  rcases Deep.open_slice_pairs (cs := [.slice a0 len0 cap0]) Try.underlying23 Try.underlying32 cA rfl rfl cInt cInt hf with ⟨h1, _⟩ | ⟨a, len, cap, m, n, V0, V1, D0, D1, P0, P1, h1, _, h3, h4, h5, _, h7⟩
  · simp only [List.cons.injEq, Value.slice.injEq, and_true] at h1
    obtain ⟨rfl, rfl, rfl⟩ := h1
    exact ⟨none, 0, [], rfl, fun h => absurd rfl h, by decide, fun k hk => by simp at hk⟩
  · simp only [List.cons.injEq, Value.slice.injEq, and_true] at h1
    obtain ⟨rfl, rfl, rfl⟩ := h1
    simp only [if_true] at h5
    unfold maxLen at h4
    have hln : ((List.range len0).map fun i => ((intOf (V0 i), intOf (V1 i)) : Ac)).length = len0 := by simp
    have each : ∀ k, k < len0 → ∃ z0 z1, V0 k = .int .i64 z0 ∧ V1 k = .int .i64 z1 ∧ I64 z0 ∧ I64 z1 := fun k hk => by
      obtain ⟨e0, e1, t0, t1⟩ := h7 k (by omega)
      obtain ⟨z0, q0, _, w0⟩ := DataW.trod_int Try.underlying3 t0
      obtain ⟨z1, q1, _, w1⟩ := DataW.trod_int Try.underlying3 t1
      exact ⟨z0, z1, (List.cons.inj q0).1, (List.cons.inj q1).1, bounds_i64 w0, bounds_i64 w1⟩
    refine ⟨some a, cap0, (List.range len0).map fun i => ((intOf (V0 i), intOf (V1 i)) : Ac), by rw [hln], fun hne => ?_, by rw [hln]; omega, fun k hk => ?_⟩
    · have hp : 0 < len0 := by rw [← hln]; exact List.length_pos_iff.2 hne
      obtain ⟨b, off, spot⟩ := a
      have hspot : spot = none := by simpa [Addr.add] using World.cell?_spot (h7 0 (by omega)).1
      subst hspot
      have hz := (h7 0 (by omega)).1
      refine ⟨b, off, rfl, ?_, fun k hk => ?_⟩
      · have := World.block_lt_of_cell? W _ hz
        simpa [Addr.add] using this
      · rw [hln] at hk
        obtain ⟨e0, e1, _, _⟩ := h7 k (by omega)
        obtain ⟨z0, z1, v0, v1, _, _⟩ := each k hk
        rw [v0] at e0
        rw [v1] at e1
        rw [Addr.add_mid] at e0 e1
        rw [List.getElem_map, List.getElem_range, v0, v1]
        exact ⟨e0, e1⟩
    · rw [hln] at hk
      obtain ⟨z0, z1, v0, v1, b0, b1⟩ := each k hk
      rw [List.getElem_map, List.getElem_range, v0, v1]
      exact ⟨b0, b1⟩
end Go.Proofs.Ytoclafnnbaddeaa.oct
