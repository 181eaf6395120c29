/-
  What the listed variables of a row of layer 11 hold, from the row's own condition. Condition: the row's own.
-/
import Derived.Test.YtajfblfkohemeaaDoorZicSmall
import Derived.Test.YtajfblfkohemeaaDoorLeapLaw
import Derived.Test.YtajfblfkohemeaaDoorBoth
import Derived.Lib.LaidTab
import Derived.Lay
namespace Go.Proofs.YtajfblfkohemeaaDoor.zic
open Go.ChangeShapes Go.WideShapes Go.ChangeAt Go.RowKit
open lx zs mem
set_option linter.unusedVariables false
set_option maxRecDepth 100000

theorem tPow : (Tryd.prog.globals[5]?).map (·.type) = some 134 := by kernel_rfl
theorem cU64 : Tryd.prog.cellsOf 117 = 1 := by kernel_rfl
theorem gNames : Tryd.prog.globalNamed "epact/zic.names" = some 0 := by kernel_rfl
theorem tNames : (Tryd.prog.globals[0]?).map (·.type) = some 62 := by kernel_rfl
theorem cStr : Tryd.prog.cellsOf 9 = 1 := by kernel_rfl
theorem cNames : Tryd.prog.cellsOf 62 = 12 := by kernel_rfl
def nmS : List ByteArray := names.map B
theorem names_cells {W : World} {fuel : Nat} {cs : List Value} {p : List MemPlace} (h : DataW.trod (fun _ => ()) Tryd.prog W 0 (fun _ => true) false fuel 62 cs = some (Rows.laid_epact_zic_names, p)) : cs = nmA.toList := by
  obtain ⟨xs, m, _, hx, hl, hn, hel⟩ := DataW.trod_array Tryd.underlying62 h
  have hd : nmS.map (fun s => DataW.lit (H := Unit) (.string s.data.toList)) = xs.map (·.1) := by
    have := congrArg Prod.fst hx
    exact DataW.agg.inj this
  rw [cNames] at hl
  have each : ∀ i, i < 12 → cs[i]? = some (.string (nmS.getD i ByteArray.empty)) := by
    intro i hi
    have hi' := hel i hi
    rw [List.getElem?_eq_getElem (by omega)] at hi'
    obtain ⟨s, e0, e1, _⟩ := DataW.trod_string Tryd.underlying9 hi'
    have hw : i < nmS.length := hi
    have e2 : (xs.map (·.1))[i]? = some (.lit (.string s.data.toList)) := by rw [List.getElem?_map, List.getElem?_eq_getElem (by omega), e1]; rfl
    rw [← hd, List.getElem?_map, List.getElem?_eq_getElem hw] at e2
    have e3 : nmS[i].data.toList = s.data.toList := by simpa using e2
    have e4 : nmS[i] = s := ByteArray.ext (Array.toList_inj.1 e3)
    rw [cStr] at e0
    have e5 := congrArg (fun l => l[0]?) e0
    have e6 : cs[i]? = some (.string s) := by simpa [List.getElem?_take, List.getElem?_drop] using e5
    rw [e6, List.getD_eq_getElem?_getD, List.getElem?_eq_getElem hw, Option.getD_some, e4]
  refine List.ext_getElem? fun i => ?_
  by_cases hi : i < 12
  · rw [each i hi, Array.getElem?_toList, nmA_get i hi]
    congr 2
    unfold nmS
    rw [List.getD_eq_getElem?_getD, List.getD_eq_getElem?_getD, List.getElem?_map, List.getElem?_eq_getElem (show i < names.length from hi)]
    rfl
  · rw [List.getElem?_eq_none (by omega), List.getElem?_eq_none (by show 12 ≤ i; omega)]
theorem all_of {W : World} {l : List (String × DataW Unit)} (h : laidMet Tryd.prog l W) (h1 : ("epact/day.lengths", Rows.laid_epact_day_lengths) ∈ l) (h2 : ("epact/day.spans", Rows.laid_epact_day_spans) ∈ l) (h3 : ("internal/strconv.uint64pow10", Rows.laid_internal_strconv_uint64pow10) ∈ l)
    (h4 : ("epact/zic.names", Rows.laid_epact_zic_names) ∈ l) (hsh : W.ShapedOpen Tryd.prog) : All W := by
  refine ⟨day.tabs_of h h1 h2, lines.ml_of hsh, ?_, ?_⟩
  · obtain ⟨ps, hL, _, _⟩ := h
    obtain ⟨c, f, p, hv, ht⟩ := laid_at gNames tNames l ps hL h4
    have e := names_cells ht
    have hc : c = nmA := Array.toList_inj.1 e
    subst hc
    simp only [World.var?, gNames, Option.bind_some] at hv
    unfold Nm
    cases hh : W.heap[0]? with
    | none => rw [hh] at hv; simp at hv
    | some o =>
      rw [hh] at hv
      cases o with
      | cells cs t fr =>
        simp at hv
        subst hv
        exact ⟨t, fr, rfl⟩
      | _ => simp at hv
  · obtain ⟨ps, hL, _, _⟩ := h
    obtain ⟨cs, f', p', hv', ht'⟩ := laid_at stamp.gPow tPow l ps hL h3
    have e1 : cs.toList = Lib.pow10Tab.map fun z => Value.int .u64 z := Lib.cells_of_tab (zs := Lib.pow10Tab) Tryd.underlying134 Tryd.underlying117 cU64 (by kernel_rfl) ht'
    unfold Lib.TabIs
    rw [hv', ← e1]
end Go.Proofs.YtajfblfkohemeaaDoor.zic
