/-
  Faults, and rows of them, that came in, as they are read; and what the listed tables hold, from the row's own condition. Conditions: the row's own.
-/
import Derived.Test.YtbofjkneflobeaaDoorFaultSmall
import Derived.Test.YtbofjkneflobeaaDoorLaw
import Derived.Deep.SlicePairs
import Derived.Lib.SmallJoins
import Derived.Lib.LaidTab
namespace Go.Proofs.YtbofjkneflobeaaDoor.fault
open Go.ChangeShapes Go.WideShapes Go.ChangeAt Go.RowKit
open fx mem
set_option linter.unusedVariables false

theorem gWords : Tryd.prog.globalNamed "epact/fault.words" = some 0 := by kernel_rfl
theorem tWords : (Tryd.prog.globals[0]?).map (·.type) = some 47 := by kernel_rfl
theorem tPow : (Tryd.prog.globals[1]?).map (·.type) = some 57 := by kernel_rfl
theorem cU64 : Tryd.prog.cellsOf 50 = 1 := by kernel_rfl
theorem cStr : Tryd.prog.cellsOf 9 = 1 := by kernel_rfl
theorem cWords : Tryd.prog.cellsOf 47 = 11 := by kernel_rfl
theorem words_cells {W : World} {fuel : Nat} {cs : List Value} {p : List MemPlace} (h : DataW.trod (fun _ => ()) Tryd.prog W 0 (fun _ => true) false fuel 47 cs = some (Rows.laid_epact_fault_words, p)) (i : Nat) (hi : i < 11) : cs[i]? = some (.string (wds.getD i ByteArray.empty)) := by
  obtain ⟨xs, m, _, hx, hl, hn, hel⟩ := DataW.trod_array Tryd.underlying47 h
  have hd : wds.map (fun s => DataW.lit (H := Unit) (.string s.data.toList)) = xs.map (·.1) := by
    have := congrArg Prod.fst hx
    exact DataW.agg.inj this
  have hi' := hel i hi
  rw [List.getElem?_eq_getElem (by omega)] at hi'
  obtain ⟨s, e0, e1, _⟩ := DataW.trod_string Tryd.underlying9 hi'
  have hw : i < wds.length := hi
  have e2 : (xs.map (·.1))[i]? = some (.lit (.string s.data.toList)) := by rw [List.getElem?_map, List.getElem?_eq_getElem (by omega), e1]; rfl
  rw [← hd, List.getElem?_map, List.getElem?_eq_getElem hw] at e2
  have e3 : wds[i].data.toList = s.data.toList := by simpa using e2
  have e4 : wds[i] = s := ByteArray.ext (Array.toList_inj.1 e3)
  rw [cStr] at e0
  have e5 := congrArg (fun l => l[0]?) e0
  have e6 : cs[i]? = some (.string s) := by simpa [List.getElem?_take, List.getElem?_drop] using e5
  rw [e6, List.getD_eq_getElem?_getD, List.getElem?_eq_getElem hw, Option.getD_some, e4]
theorem tb_of {W : World} {l : List (String × DataW Unit)} (h : laidMet Tryd.prog l W) (h1 : ("epact/fault.words", Rows.laid_epact_fault_words) ∈ l) (h2 : ("internal/strconv.uint64pow10", Rows.laid_internal_strconv_uint64pow10) ∈ l) : Tb W := by
  obtain ⟨ps, hL, _, _⟩ := h
  obtain ⟨c, f, p, hv, ht⟩ := laid_at gWords tWords l ps hL h1
  obtain ⟨cs, f', p', hv', ht'⟩ := laid_at gPow tPow l ps hL h2
  have e1 : cs.toList = Lib.pow10Tab.map fun z => Value.int .u64 z := Lib.cells_of_tab (zs := Lib.pow10Tab) Tryd.underlying57 Tryd.underlying50 cU64 (by kernel_rfl) ht'
  refine ⟨fun i hi => ?_, ?_⟩
  · rw [World.var?_cell gWords hv i, ← Array.getElem?_toList]
    exact words_cells ht i hi
  · unfold Lib.TabIs
    rw [hv', ← e1]

theorem cF : Tryd.prog.cellsOf 24 = 2 := by kernel_rfl
theorem cInt : Tryd.prog.cellsOf 3 = 1 := by kernel_rfl
theorem cErr : Tryd.prog.cellsOf 22 = 1 := by kernel_rfl
theorem open_fault {H : Type} {enc : TypeId × Value → H} {W : World} {base : Nat} {v : Value} {d : DataW H} {p : List MemPlace} (hv : Value.okWide Tryd.prog W .any base 24 v) (h : DataW.Trod enc Tryd.prog W 0 (fun _ => true) true 24 v d p) :
    ∃ l c, v = .agg #[.int .i64 l, .int .i64 c] ∧ Fit l c := by
  obtain ⟨c0, c1, y0, y1, m, rfl, _, _, hy0, hy1⟩ := Joins.open_agg2 Tryd.underlying24 (by kernel_rfl) cF hv h
  obtain ⟨l, e0, _, w0⟩ := DataW.trod_int Tryd.underlying3 hy0
  obtain ⟨c, e1, _, w1⟩ := DataW.trod_int Tryd.underlying22 hy1
  obtain rfl := (List.cons.inj e0).1
  obtain rfl := (List.cons.inj e1).1
  exact ⟨l, c, rfl, bounds_i64 w0, bounds_i64 w1⟩
theorem open_faults {H : Type} {enc : TypeId × Value → H} {W : World} {base : Nat} {v : Value} {d : DataW H} {p : List MemPlace} (hv : Value.okWide Tryd.prog W .any base 25 v) (h : DataW.Trod enc Tryd.prog W 0 (fun _ => true) true 25 v d p) :
    ∃ A c l, v = .slice A (List.length l) c ∧ Flts W A l ∧ List.length l ≤ 9223372036854775807 := by
  obtain ⟨a0, len0, cap0, rfl⟩ := okWide_slice Tryd.underlying25 hv
  obtain ⟨fuel, hf⟩ := h
  rcases Deep.open_slice_pairs (cs := [.slice a0 len0 cap0]) Tryd.underlying25 Tryd.underlying24 cF rfl rfl cInt cErr hf with ⟨h1, _⟩ | ⟨a, len, cap, m, n, V0, V1, D0, D1, P0, P1, h1, _, h3, h4, h5, _, h7⟩
  · simp only [List.cons.injEq, Value.slice.injEq, and_true] at h1
    obtain ⟨rfl, rfl, rfl⟩ := h1
    exact ⟨none, 0, [], rfl, fun h => absurd rfl h, by decide⟩
  · simp only [List.cons.injEq, Value.slice.injEq, and_true] at h1
    obtain ⟨rfl, rfl, rfl⟩ := h1
    simp only [if_true] at h5
    unfold maxLen at h4
    have hln : ((List.range len0).map fun i => ((intOf (V0 i), intOf (V1 i)) : Flt)).length = len0 := by simp
    refine ⟨some a, cap0, (List.range len0).map fun i => ((intOf (V0 i), intOf (V1 i)) : Flt), by rw [hln], fun hne => ?_, by rw [hln]; omega⟩
    have hp : 0 < len0 := by rw [← hln]; exact List.length_pos_iff.2 hne
    obtain ⟨b, off, spot⟩ := a
    have hspot : spot = none := by simpa [Addr.add] using World.cell?_spot (h7 0 (by omega)).1
    subst hspot
    have hz := (h7 0 (by omega)).1
    refine ⟨b, off, rfl, ?_, fun k hk => ?_⟩
    · have := World.block_lt_of_cell? W _ hz
      simpa [Addr.add] using this
    · rw [hln] at hk
      obtain ⟨e0, e1, t0, t1⟩ := h7 k (by omega)
      obtain ⟨z0, q0, _, _⟩ := DataW.trod_int Tryd.underlying3 t0
      obtain ⟨z1, q1, _, _⟩ := DataW.trod_int Tryd.underlying22 t1
      have v0 := (List.cons.inj q0).1
      have v1 := (List.cons.inj q1).1
      rw [v0] at e0
      rw [v1] at e1
      rw [Addr.add_mid] at e0 e1
      rw [List.getElem_map, List.getElem_range, v0, v1]
      exact ⟨e0, e1⟩
end Go.Proofs.YtbofjkneflobeaaDoor.fault
