/-
  What fault's New, Of and Must answer, and what an error of New's says of itself. Conditions: for the text, the words of package fault and the library's table of powers of ten hold what their initialisers lay.
-/
import Derived.Test.YtbofjkneflobeaaDoorFault
namespace Go.Proofs.YtbofjkneflobeaaDoor.fault
open Go.ChangeShapes Go.WideShapes Go.ChangeAt Go.RowKit
open fx mem
set_option linter.unusedVariables false

/-! New -/
theorem new_ok (l : Int) (W : World) : Calls Tryd.prog 9 #[.int .i64 l, .int .i64 0] W fun e w' => e = .returned .nilIface ∧ W = w' := by
  go_enter Tryd.func9, Tryd.ntmps9
  go_wp2
  go_ret
  exact ⟨rfl, rfl⟩
theorem new_err (l c : Int) (h : c ≠ 0) (W : World) : Calls Tryd.prog 9 #[.int .i64 l, .int .i64 c] W fun e w' => e = .returned (.iface 43 (.agg #[.int .i64 l, .int .i64 c])) ∧ W = w' := by
  have t : (c == 0) = false := by simpa using h
  clear h
  go_enter Tryd.func9, Tryd.ntmps9
  go_wp2
  go_ret
  exact ⟨rfl, rfl⟩

/-! what it says -/
theorem error_at (l c : Int) (hf : Fit l c) (W : World) (T : Tb W) : Calls Tryd.prog 46 #[.agg #[.int .i64 l, .int .i64 c]] W fun e w' => e = .returned (.string (txt l c)) ∧ Below W.heap.size W w' := by
  have hb0 : Below W.heap.size W (W.alloc (.cells #[.int .i64 l, .int .i64 c] 43)) := bal (Below.refl _ _) _
  have X := Lib.hid (text_at l c hf _ (T.below hb0))
  generalize txt l c = t at *
  clear T hf
  go_enter Tryd.func46, Tryd.ntmps46
  go_wp2_with (go_at_call 10; with_reducible refine X.out.mono ?_; rintro e w1 ⟨rfl, hb1⟩)
  go_ret
  exact ⟨rfl, btr hb0 hb1⟩

/-! Of, Must -/
theorem as_yes (v : Value) (W : World) : (Instr.typeAssert (.iface 43 v) 29 43 true).run Tryd.prog W = .ok (.tuple #[v, .bool true]) W := by kernel_rfl
theorem as_nil (W : World) : (Instr.typeAssert .nilIface 29 43 true).run Tryd.prog W = .ok (.tuple #[.agg #[.int .i64 0, .int .i64 0], .bool false]) W := by kernel_rfl
theorem as_must (v : Value) (W : World) : (Instr.typeAssert (.iface 43 v) 29 43 false).run Tryd.prog W = .ok v W := by kernel_rfl
theorem of_some (l c : Int) (W : World) : Calls Tryd.prog 13 #[.iface 43 (.agg #[.int .i64 l, .int .i64 c])] W fun e w' => e = .returned (.tuple #[.agg #[.int .i64 l, .int .i64 c], .bool true]) ∧ Below W.heap.size W w' := by
  have a := as_yes
  go_enter Tryd.func13, Tryd.ntmps13
  go_wp2
  exact bodyPost_ret (v := .tuple #[.agg #[.int .i64 l, .int .i64 c], .bool true]) (by simp [results, Tryd.results13, go_sem]) rfl ⟨rfl, bal (bal (Below.refl _ _) _) _⟩
theorem of_nil (W : World) : Calls Tryd.prog 13 #[.nilIface] W fun e w' => e = .returned (.tuple #[.agg #[.int .i64 0, .int .i64 0], .bool false]) ∧ Below W.heap.size W w' := by
  have a := as_nil
  go_enter Tryd.func13, Tryd.ntmps13
  go_wp2
  exact bodyPost_ret (v := .tuple #[.agg #[.int .i64 0, .int .i64 0], .bool false]) (by simp [results, Tryd.results13, go_sem]) rfl ⟨rfl, bal (bal (Below.refl _ _) _) _⟩
theorem must_some (l c : Int) (W : World) : Calls Tryd.prog 14 #[.iface 43 (.agg #[.int .i64 l, .int .i64 c])] W fun e w' => e = .returned (.agg #[.int .i64 l, .int .i64 c]) ∧ Below W.heap.size W w' := by
  have a := as_must
  go_enter Tryd.func14, Tryd.ntmps14
  go_wp2
  exact bodyPost_ret (v := .agg #[.int .i64 l, .int .i64 c]) (by simp [results, Tryd.results14, go_sem]) rfl ⟨rfl, bal (Below.refl _ _) _⟩
/-! faults compared -/
theorem eqF (a b c d : Int) (W : World) : (Op.equalIn 10000 24 (.agg #[.int .i64 a, .int .i64 b]) (.agg #[.int .i64 c, .int .i64 d])).run Tryd.prog W = .ok (a == c && b == d) W := by
  rw [run_equalIn_struct W 9999 24 _ _ (by kernel_rfl) (by kernel_rfl)]
  have hf : Tryd.prog.fieldsOf 24 = (match Tryd.prog.underlying 24 with | some (.struct fs) => fs | _ => #[]) := by kernel_rfl
  rw [Tryd.underlying24] at hf
  simp only at hf
  rw [hf]
  have p0 : ∀ x y : Int, (part 3 #[.int .i64 x, .int .i64 y] 0).run Tryd.prog W = .ok (.int .i64 x) W := fun x y => by simp [part, isAgg, run_underlying Tryd.underlying3]
  have p1 : ∀ x y : Int, (part 22 #[.int .i64 x, .int .i64 y] 1).run Tryd.prog W = .ok (.int .i64 y) W := fun x y => by simp [part, isAgg, run_underlying Tryd.underlying22]
  have e3 : ∀ x y : Int, (Op.equalIn 9999 3 (.int .i64 x) (.int .i64 y)).run Tryd.prog W = .ok (x == y) W := fun x y => run_equalIn_int W 9998 3 .i64 .i64 x y Tryd.underlying3
  have e4 : ∀ x y : Int, (Op.equalIn 9999 22 (.int .i64 x) (.int .i64 y)).run Tryd.prog W = .ok (x == y) W := fun x y => run_equalIn_int W 9998 22 .i64 .i64 x y Tryd.underlying22
  by_cases h : a = c <;> by_cases h2 : b = d <;> simp [Op.eqFields, Sem.run_bind, p0, p1, e3, e4, h, h2]
/-! the method, asked of the interface -/
theorem meth (n : Nat) (v : Value) (W : World) : (method (n + 1) 43 v "Error").run Tryd.prog W = .ok (46, v) W := by kernel_rfl
end Go.Proofs.YtbofjkneflobeaaDoor.fault
