/-
  What the rows of layer 10 say of the memory: the listed tables hold what their initialisers lay, and the library's variable MaxLen holds some number (by the world's shape). Conditions: the rows' own.
-/
import Derived.Test.YtipldmmeepeggaaDoorG25
import Derived.Test.YtipldmmeepeggaaDoorG11
import Derived.HandedShaped
import Derived.Lib.LaidTab
namespace Go.Proofs.YtipldmmeepeggaaDoor.list
open Go Go.ChangeShapes Go.WideShapes Go.ChangeAt Go.RowKit
open lx ls mem
set_option linter.unusedVariables false
set_option maxRecDepth 100000

theorem tPow : (Tryd.prog.globals[2]?).map (·.type) = some 135 := by kernel_rfl
theorem cU64 : Tryd.prog.cellsOf 78 = 1 := by kernel_rfl
theorem pw_of {W : World} {l : List (String × DataW Unit)} (h : laidMet Tryd.prog l W) (h2 : ("internal/strconv.uint64pow10", Rows.laid_internal_strconv_uint64pow10) ∈ l) : Pw W := by
  obtain ⟨ps, hL, _, _⟩ := h
  obtain ⟨cs, f', p', hv', ht'⟩ := laid_at gPow tPow l ps hL h2
  have e1 : cs.toList = Lib.pow10Tab.map fun z => Value.int .u64 z := Lib.cells_of_tab (zs := Lib.pow10Tab) Tryd.underlying135 Tryd.underlying78 cU64 (by kernel_rfl) ht'
  unfold Pw Lib.TabIs
  rw [hv', ← e1]
theorem gTab : Tryd.prog.globalNamed "math/bits.deBruijn64tab" = some 6 := by kernel_rfl
theorem tTab : (Tryd.prog.globals[6]?).map (·.type) = some 91 := by kernel_rfl
def tab64 : List Int := [0, 1, 56, 2, 57, 49, 28, 3, 61, 58, 42, 50, 38, 29, 17, 4, 62, 47, 59, 36, 45, 43, 51, 22, 53, 39, 33, 30, 24, 18, 12, 5, 63, 55, 48, 27, 60, 41, 37, 16, 46, 35, 44, 21, 52, 32, 23, 11, 54, 26, 40, 15, 34, 20, 31, 10, 25, 14, 19, 9, 13, 8, 7, 6]
theorem tz_of {W : World} {l : List (String × DataW Unit)} (h : laidMet Tryd.prog l W) (h1 : ("math/bits.deBruijn64tab", Rows.laid_math_bits_deBruijn64tab) ∈ l) : ntp.Tz W := by
  obtain ⟨ps, hL, _, _⟩ := h
  obtain ⟨c, f, p, hv, ht⟩ := laid_at gTab tTab l ps hL h1
  have e1 : c.toList = tab64.map fun z => Value.int .u8 z := Lib.cells_of_tab (zs := tab64) Tryd.underlying91 Tryd.underlying5 sha.cB (by kernel_rfl) ht
  unfold ntp.Tz
  rw [World.var?_cell gTab hv 15, ← Array.getElem?_toList, e1]
  rfl
theorem all_of {W : World} {l : List (String × DataW Unit)} (h : laidMet Tryd.prog l W) (h1 : ("epact/day.lengths", Rows.laid_epact_day_lengths) ∈ l) (h2 : ("epact/day.spans", Rows.laid_epact_day_spans) ∈ l) (h3 : ("math/bits.deBruijn64tab", Rows.laid_math_bits_deBruijn64tab) ∈ l)
    (h4 : ("internal/strconv.uint64pow10", Rows.laid_internal_strconv_uint64pow10) ∈ l) (h5 : ("epact/sha.start", Rows.laid_epact_sha_start) ∈ l) (hsh : W.ShapedOpen Tryd.prog) : All W :=
  ⟨day.tabs_of h h1 h2, lines.ml_of hsh, sha.st_of h h5, pw_of h h4, tz_of h h3⟩
/-- a row with listed variables, whose walk may use the world's shape. -/
theorem handed_both {H : Type} {enc : TypeId × Value → H} {a : Assume} {C : Checked} {os : Os} {f : FuncId} {fn : Func} {s : ChangeSpec} {conds : List PathCond} {apart fresh handsOn again : Bool} {X : World → Array Value → Prop}
    (hX : ∀ (w w' : World) (args : Array Value), w.heap = w'.heap → X w args → X w' args) (own : ownKnob C.prog.godebug = none) (started : os.Started) (noInit : C.prog.inits.idxOf? f = none) (hfn : C.prog.funcs[f]? = some fn)
    (start : ∃ (w : World) (tape : Tape) (i : Input), w.os = os ∧ (w.forCall tape i).Shaped C.prog ∧ i.vars = [] ∧ Input.okWide C.prog (w.forCall tape i) .any w.heap.size f i ∧
      ((s.pre enc C.prog fn conds apart (w.forCall tape i).memory i.args ∧ X (w.forCall tape i).memory i.args) ∧ sizedMet enc C.prog fn (OpenSpec.ofChange s) apart (w.forCall tape i).memory i.args) ∧ a.holds C.prog (lone (Frame.enter C.prog f i.args .normal) [] (w.forCall tape i)))
    (walk : ∀ (W : World) (base : Nat) (args : Array Value) (ds gs : List (DataW H)) (before : List MemPlace), (∀ (j : Nat) t v, fn.params[j]? = some t → args[j]? = some v → Value.okWide C.prog W .any base t v) → DataW.Whole enc C.prog fn.params.toList s.vars apart W args.toList ds gs before →
      conds.all (PathCond.test C.prog ⟨fn.params.toList, ds, s.plain.varTypes C.prog, gs⟩) = true → (DataW.weightsEach C.prog (fn.params.toList ++ s.plain.varTypes C.prog) (ds ++ gs)).all (· ≤ reachBytes) = true → X W args → W.ShapedOpen C.prog →
      a.holds C.prog (lone (Frame.enter C.prog f args .normal) [] W) → Calls C.prog f args W fun e W' => ∃ v, e = .returned v ∧ s.post enc C.prog fn apart fresh handsOn again W args v W') :
    ReturnsInHanded a C os f .any (fun w args => (s.pre enc C.prog fn conds apart w args ∧ X w args) ∧ sizedMet enc C.prog fn (OpenSpec.ofChange s) apart w args) (s.post enc C.prog fn apart fresh handsOn again) := by
  refine returnsInHanded_of_calls own started noInit start fun w tape i _ shape _ fine met holds => ?_
  obtain ⟨_, _, _, gn, hgn, _, _, _, _, vals⟩ := fine
  cases Option.some.inj (hgn.symm.trans hfn)
  obtain ⟨⟨⟨ds, gs, before, whole, cnd⟩, x⟩, size⟩ := met
  have done := walk (w.forCall tape i) w.heap.size i.args ds gs before vals (DataW.Whole.of_heap (w' := w.forCall tape i) (by rfl) whole) cnd (size.weights whole) (hX _ _ _ (by rfl) x) shape holds
  exact done.mono fun e W' ⟨v, he, post⟩ => by
    subst he
    exact ChangeSpec.post_blind post
end Go.Proofs.YtipldmmeepeggaaDoor.list
