/-
  What fault's word, Text, New, Of and Must answer, and what an error of New's says of itself. Conditions: the words of package fault and the library's table of powers of ten hold what their initialisers lay.
-/
import Derived.Test.YtbofjkneflobeaaDoorFaultMath
import Derived.Test.YtbofjkneflobeaaDoorMem
import Derived.Test.YtbofjkneflobeaaDoorShelf
import Derived.Lib.ItoaMem
import Derived.WalkSmall
namespace Go.Proofs.YtbofjkneflobeaaDoor.fault
open Go.ChangeShapes Go.WideShapes Go.ChangeAt Go.RowKit
open fx mem
set_option linter.unusedVariables false

/-- the tables, as they are laid. -/
def Tb (w : World) : Prop := (∀ i : Nat, i < 11 → w.cell? ⟨0, i, none⟩ = some (.string (wds.getD i ByteArray.empty))) ∧ Lib.TabIs Tryd.prog w "internal/strconv.uint64pow10" .u64 Lib.pow10Tab
theorem gPow : Tryd.prog.globalNamed "internal/strconv.uint64pow10" = some 1 := by kernel_rfl
theorem pow_size {w : World} {cs : Array Value} (h : w.var? Tryd.prog "internal/strconv.uint64pow10" = some cs) : 1 < w.heap.size := by
  rcases Nat.lt_or_ge 1 w.heap.size with hl | hl
  · exact hl
  · exfalso
    simp [World.var?, gPow, Array.getElem?_eq_none hl] at h
theorem Tb.below {w w' : World} (T : Tb w) (hb : Below w.heap.size w w') : Tb w' :=
  ⟨fun i hi => (hb.cell (p := ⟨0, i, none⟩) (World.block_lt_of_cell? w _ (T.1 i hi))).trans (T.1 i hi), var?_below hb gPow (pow_size T.2) T.2⟩
theorem Tb.word {w : World} (T : Tb w) (c : Int) (h1 : 1 ≤ c) (h2 : c ≤ 11) : w.cell? ⟨0, c.toNat - 1, none⟩ = some (.string (wrd c)) := by
  rw [wrd_in h1 h2]; exact T.1 _ (by omega)

theorem itoa_at (n : Int) (h0 : -9223372036854775808 ≤ n) (h1 : n ≤ 9223372036854775807) (W : World) (T : Tb W) :
    Calls Tryd.prog 16 #[.int .i64 n] W fun e w' => e = .returned (.string (dec n)) ∧ Below W.heap.size W w' := by
  refine (Tryd.strconv_Itoa n h0 h1 W T.2).mono ?_
  rintro e w' ⟨rfl, k, os, rfl⟩
  exact ⟨rfl, below_grow W k os⟩

/-! word -/
theorem word_at (c : Int) (hc : -9223372036854775808 ≤ c ∧ c ≤ 9223372036854775807) (W : World) (T : Tb W) : Calls Tryd.prog 17 #[.int .i64 c] W fun e w' => e = .returned (.string (wrd c)) ∧ W = w' := by
  by_cases h1 : 1 ≤ c
  · by_cases h2 : c ≤ 11
    · have t := T.word c h1 h2
      clear T
      generalize wrd c = X at *
      go_enter Tryd.func17, Tryd.ntmps17
      go_wp2
      go_ret
      exact ⟨rfl, rfl⟩
    · rw [wrd_out (by omega)]
      have h3 : 11 < c := by omega
      clear T h2
      go_enter Tryd.func17, Tryd.ntmps17
      go_wp2
      go_ret
      exact ⟨rfl, rfl⟩
  · rw [wrd_out (by omega)]
    have h3 : c < 1 := by omega
    clear T h1
    go_enter Tryd.func17, Tryd.ntmps17
    go_wp2
    go_ret
    exact ⟨rfl, rfl⟩

/-! Text -/
/-- two numbers of 64 bits. -/
def Fit (l c : Int) : Prop := (-9223372036854775808 ≤ l ∧ l ≤ 9223372036854775807) ∧ (-9223372036854775808 ≤ c ∧ c ≤ 9223372036854775807)
theorem text_at (l c : Int) (hf : Fit l c) (W : World) (T : Tb W) : Calls Tryd.prog 10 #[.agg #[.int .i64 l, .int .i64 c]] W fun e w' => e = .returned (.string (txt l c)) ∧ Below W.heap.size W w' := by
  have hb0 : Below W.heap.size W (W.alloc (.cells #[.int .i64 l, .int .i64 c] 24)) := bal (Below.refl _ _) _
  have I : Hid (∀ d os, Calls Tryd.prog 16 #[.int .i64 l] (Sort.grow (redrawn (W.alloc (.cells #[.int .i64 l, .int .i64 c] 24)) d) os) fun e w'' => e = .returned (.string (dec l)) ∧ ∃ p : Regrown, w'' = Sort.grow (redrawn (W.alloc (.cells #[.int .i64 l, .int .i64 c] 24)) p.d) p.os) :=
    fun d os => below_at (fun W T => itoa_at l hf.1.1 hf.1.2 W T) (fun W' hb => (T.below hb0).below hb) d os
  have Wd : Hid (∀ d os, Calls Tryd.prog 17 #[.int .i64 c] (Sort.grow (redrawn (W.alloc (.cells #[.int .i64 l, .int .i64 c] 24)) d) os) fun e w'' => e = .returned (.string (wrd c)) ∧ ∃ p : Regrown, w'' = Sort.grow (redrawn (W.alloc (.cells #[.int .i64 l, .int .i64 c] 24)) p.d) p.os) :=
    fun d os => (word_at c hf.2 _ ((T.below hb0).below (below_regrown _ d os))).mono fun e w' ⟨he, hw⟩ => ⟨he, ⟨d, os⟩, hw.symm⟩
  have s1 := dec_size l hf.1.1 hf.1.2
  have s2 := wrd_size c
  have E : Hid ((⟨#[108, 105, 110, 101, 32]⟩ ++ dec l) ++ ⟨#[58, 32]⟩ ++ wrd c = txt l c) := rfl
  generalize dec l = D at *
  generalize wrd c = X at *
  have z1 : (9223372036854775807 < 5 + D.size) = False := by simp; omega
  have z2 : (9223372036854775807 < 5 + D.size + 2) = False := by simp; omega
  have z3 : (9223372036854775807 < 5 + D.size + 2 + X.size) = False := by simp; omega
  generalize txt l c = t at *
  have c0 := fun d os => cell_regrown (w := W.alloc (.cells #[.int .i64 l, .int .i64 c] 24)) (a := ⟨W.heap.size, 0, none⟩) (v := .int .i64 l) (row_cell (hp_new _ _) 0) d os
  have c1 := fun d os => cell_regrown (w := W.alloc (.cells #[.int .i64 l, .int .i64 c] 24)) (a := ⟨W.heap.size, 1, none⟩) (v := .int .i64 c) (row_cell (hp_new _ _) 1) d os
  clear T hf
  go_enter Tryd.func10, Tryd.ntmps10
  go_wp2
  generalize (W.alloc (.cells #[.int .i64 l, .int .i64 c] 24)) = W1 at *
  refine wp_region_quiet_below (by kernel_rfl) (by kernel_rfl) ?_
  repeat (quiet_step (first
    | (go_at_call 16; with_reducible exact I.out _ _)
    | (go_at_call 17; with_reducible exact Wd.out _ _)))
  refine wpQuiet_nil ?_
  intro _ hw'
  obtain ⟨⟨dq, osq⟩, hw''⟩ := hw'
  subst hw''
  have hbz := btr hb0 (below_regrown _ dq osq)
  generalize Sort.grow (redrawn W1 dq) osq = W7 at *
  go_wp2
  go_ret
  exact ⟨ret_s E.out, hbz⟩
end Go.Proofs.YtbofjkneflobeaaDoor.fault
