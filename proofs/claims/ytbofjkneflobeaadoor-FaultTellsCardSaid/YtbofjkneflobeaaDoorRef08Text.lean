/-
  What the document's own Text of layer 8 answers. No condition on the memory; numbers of 64 bits.
-/
import Derived.Test.YtbofjkneflobeaaDoorRef08
namespace Go.Proofs.YtbofjkneflobeaaDoor.ref08
open Go.ChangeShapes Go.WideShapes Go.ChangeAt Go.RowKit
open fx mem
set_option linter.unusedVariables false

theorem words_at (c : Int) (h1 : 1 ≤ c) (h2 : c ≤ 11) : (#[.string ⟨#[97, 114, 103, 117, 109, 101, 110, 116]⟩, .string ⟨#[102, 111, 114, 109]⟩, .string ⟨#[104, 97, 115, 104]⟩, .string ⟨#[111, 114, 100, 101, 114]⟩, .string ⟨#[101, 110, 100]⟩, .string ⟨#[115, 116, 101, 112]⟩, .string ⟨#[103, 97, 112]⟩, .string ⟨#[111, 118, 101, 114]⟩, .string ⟨#[114, 97, 110, 103, 101]⟩, .string ⟨#[101, 120, 112, 105, 114, 101, 100]⟩, .string ⟨#[110, 111, 32, 115, 117, 99, 104, 32, 115, 101, 99, 111, 110, 100]⟩] : Array Value)[c.toNat - 1]? = some (.string (wrd c)) := by
  rcases eleven h1 h2 with rfl | rfl | rfl | rfl | rfl | rfl | rfl | rfl | rfl | rfl | rfl <;> rfl
theorem text_at (l c : Int) (hl : -9223372036854775808 ≤ l ∧ l ≤ 9223372036854775807) (hc : -9223372036854775808 ≤ c ∧ c ≤ 9223372036854775807) (w W : World) (hb : Below w.heap.size w W) : Calls Tryd.prog 8 #[.agg #[.int .i64 l, .int .i64 c]] W fun e w' => e = .returned (.string (txt l c)) ∧ Below w.heap.size w w' := by
  have D := Lib.hid (fun W hb => dec_at l hl.1 hl.2 w W hb)
  have s1 := dec_size l hl.1 hl.2
  have s2 := wrd_size c
  have E : Hid ((⟨#[108, 105, 110, 101, 32]⟩ ++ dec l) ++ ⟨#[58, 32]⟩ ++ wrd c = txt l c) := rfl
  generalize dec l = D0 at *
  have z1 : (9223372036854775807 < 5 + D0.size) = False := by simp; omega
  have z2 : (9223372036854775807 < 5 + D0.size + 2) = False := by simp; omega
  have z3 : (9223372036854775807 < 5 + D0.size + 2 + (wrd c).size) = False := by simp; omega
  generalize txt l c = t at *
  by_cases h1 : 1 ≤ c
  · by_cases h2 : c ≤ 11
    · have wa := words_at c h1 h2
      generalize wrd c = X at *
      go_enter Tryd.func8, Tryd.ntmps8
      go_wp2_with (go_at_call 15; with_reducible refine (D.out _ (bal (bal hb _) _)).mono ?_; rintro e w1 ⟨rfl, hb1⟩)
      go_ret
      exact ⟨ret_s E.out, hb1⟩
    · rw [wrd_out (by omega)] at *
      have h3 : 11 < c := by omega
      clear h2
      go_enter Tryd.func8, Tryd.ntmps8
      go_wp2_with (go_at_call 15; with_reducible refine (D.out _ (bal (bal hb _) _)).mono ?_; rintro e w1 ⟨rfl, hb1⟩)
      go_ret
      exact ⟨ret_s E.out, hb1⟩
  · rw [wrd_out (by omega)] at *
    have h3 : c < 1 := by omega
    clear h1
    go_enter Tryd.func8, Tryd.ntmps8
    go_wp2_with (go_at_call 15; with_reducible refine (D.out _ (bal (bal hb _) _)).mono ?_; rintro e w1 ⟨rfl, hb1⟩)
    go_ret
    exact ⟨ret_s E.out, hb1⟩
end Go.Proofs.YtbofjkneflobeaaDoor.ref08
