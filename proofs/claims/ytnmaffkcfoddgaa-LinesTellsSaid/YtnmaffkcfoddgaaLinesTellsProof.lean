/-
  Proves that LinesTells is true for every two texts: lines, words, numbers, what is cut, and folded, are the document's. No condition.
-/
import Derived.Test.YtnmaffkcfoddgaaLinesLaw
namespace Go.Proofs.Ytnmaffkcfoddgaa.linesTells
open Go.ChangeShapes Go.WideShapes Go.ChangeAt Go.RowKit
open lx lines
set_option linter.unusedVariables false

/-- one answer for both of what is cut. -/
theorem cuts {w : World} (T : ML w) (s t : ByteArray) (hs : s.size < 4294967281) (ht : t.size < 4294967281) : ∃ (a b : ByteArray) (c : Bool),
    (∀ W, Below w.heap.size w W → Calls Try.prog 13 #[.string s, .string t] W fun e w' => e = .returned (.tuple #[.string a, .string b, .bool c]) ∧ Below w.heap.size w w') ∧
    (∀ W, Below w.heap.size w W → Calls Try.prog 14 #[.string s, .string t] W fun e w' => e = .returned (.tuple #[.string a, .string b, .bool c]) ∧ Below w.heap.size w w') := by
  rcases hit_or s t with h | ⟨i, h⟩
  · exact ⟨_, _, _, fun W hb => cut_miss T W hb s t hs h, fun W hb => ref05.cut_miss W hb s t hs ht h⟩
  · exact ⟨_, _, _, fun W hb => cut_hit T W hb s t i hs h, fun W hb => ref05.cut_hit W hb s t i hs h⟩
theorem refsplit_t {w : World} (s : ByteArray) (hs : s.size < 4294967281) (W : World) (hb : Below w.heap.size w W) : Calls Try.prog 17 #[.string s] W (Tld w W (splitS s)) := (ref05.split_on W hb s hs).mono fun _ _ h => tld_of hb h
theorem refwords_t {w : World} (s : ByteArray) (hs : s.size < 4294967281) (W : World) (hb : Below w.heap.size w W) : Calls Try.prog 19 #[.string s] W (Tld w W (wordsS s)) := (ref05.words_on W hb s hs).mono fun _ _ h => tld_of hb h
set_option maxRecDepth 100000 in
set_option maxHeartbeats 4000000 in
theorem walk (s : ByteArray) (hs : s.size ≤ maxLen) (t : ByteArray) (ht : t.size ≤ maxLen) (w : World) (T : ML w) : Calls Try.prog 3 #[.string s, .string t] w fun e w' => e = .returned (.bool true) ∧ Below w.heap.size w w' := by
  unfold maxLen at hs ht
  have S := Lib.hid (fun W hb => small_true T W hb)
  have B0 : Below w.heap.size w w := Below.refl _ _
  by_cases h1 : 500 < s.size ∨ 100 < t.size
  · clear T
    go_enter Try.func3, Try.ntmps3
    go_wp2_with (first
      | (go_at_call 10; (with_reducible refine (S.out _ (by assumption)).mono ?_; rintro e w1 ⟨rfl, hb1⟩)))
    all_goals first
      | (exfalso; omega)
      | (go_ret; exact ⟨rfl, by assumption⟩)
  have N1 := Lib.hid (fun W hb => number_on (w := w) W hb s (by omega))
  have N2 := Lib.hid (fun W hb => ref05.number_on (w := w) W hb s (by omega))
  obtain ⟨a, b, c, c1, c2⟩ := cuts T s t (by omega) (by omega)
  have C1 := Lib.hid c1
  have C2 := Lib.hid c2
  have P1 := Lib.hid (split_t T s (by omega))
  have P2 := Lib.hid (refsplit_t (w := w) s (by omega))
  have Q1 := Lib.hid (words_t (w := w) s (by omega))
  have Q2 := Lib.hid (refwords_t (w := w) s (by omega))
  have F1 := Lib.hid (fun W hb => fold_on (w := w) W hb s (by omega))
  have F2 := Lib.hid (fun W hb => ref05.fold_on (w := w) W hb s (by omega))
  have z1 := splitS_len s
  have z2 := wordsS_len s
  have h2 : s.size ≤ 500 := by omega
  have h3 : t.size ≤ 100 := by omega
  clear T c1 c2 h1
  generalize splitS s = l1 at *
  generalize wordsS s = l2 at *
  generalize foldS s = X at *
  generalize nmI (L s) = n at *
  generalize nmT (L s) = ok at *
  go_enter Try.func3, Try.ntmps3
  go_wp2_with (first
    | (go_at_call 10; (with_reducible refine (S.out _ (by assumption)).mono ?_); rintro e w1 ⟨rfl, hb1⟩)
    | (go_at_call 11; (with_reducible refine (N1.out _ (by assumption)).mono ?_); rintro e w2 ⟨rfl, hb2⟩)
    | (go_at_call 12; (with_reducible refine (N2.out _ (by assumption)).mono ?_); rintro e w3 ⟨rfl, hb3⟩)
    | (go_at_call 13; (with_reducible refine (C1.out _ (by assumption)).mono ?_); rintro e w4 ⟨rfl, hb4⟩)
    | (go_at_call 14; (with_reducible refine (C2.out _ (by assumption)).mono ?_); rintro e w5 ⟨rfl, hb5⟩)
    | (go_at_call 16; (with_reducible refine (P1.out _ (by assumption)).mono ?_); rintro e w6 ⟨A6, c6, rfl, hs6, hl6, hb6⟩)
    | (go_at_call 17; (with_reducible refine (P2.out _ (by assumption)).mono ?_); rintro e w7 ⟨A7, c7, rfl, hs7, hl7, hb7⟩; have hs6' := hs6.below hl7)
    | (go_at_call 18; (with_reducible refine (Q1.out _ (by assumption)).mono ?_); rintro e w8 ⟨A8, c8, rfl, hs8, hl8, hb8⟩)
    | (go_at_call 19; (with_reducible refine (Q2.out _ (by assumption)).mono ?_); rintro e w9 ⟨A9, c9, rfl, hs9, hl9, hb9⟩; have hs8' := hs8.below hl9)
    | (go_at_call 15; first
        | ((with_reducible refine (ref05.same_on (w := w) _ (by assumption) l1 _ _ _ _ (by omega) hs6' hs7).mono ?_); rintro e w10 ⟨rfl, hb10⟩)
        | ((with_reducible refine (ref05.same_on (w := w) _ (by assumption) l2 _ _ _ _ (by omega) hs8' hs9).mono ?_); rintro e w11 ⟨rfl, hb11⟩))
    | (go_at_call 20; (with_reducible refine (F1.out _ (by assumption)).mono ?_); rintro e w12 ⟨rfl, hb12⟩)
    | (go_at_call 21; (with_reducible refine (F2.out _ (by assumption)).mono ?_); rintro e w13 ⟨rfl, hb13⟩))
  all_goals
    go_ret
    exact ⟨ret_bool (by first | rfl | (simp; done)), by assumption⟩
set_option maxRecDepth 100000 in
theorem lifted (os : Os) (started : os.Started) (H : Type) (enc : TypeId × Value → H) :
    ReturnsInHanded {} Try.checked os 3 .any (Rows.linesTellsSpec.pre6 enc Try.prog Try.f3 Rows.linesTellsRow.domain false) (Rows.linesTellsSpec.post enc Try.prog Try.f3 false true false false) := by
  refine returnsInHanded_of_change_shaped (C := Try.checked) law.own started (by kernel_rfl) Try.func3
    (ChangeSpec.witness6 (enc := enc) (C := Try.checked) false ⟨#[], #[.string ByteArray.empty, .string ByteArray.empty], []⟩ 8 (by kernel_rfl) (by kernel_rfl) (by kernel_rfl) (by kernel_rfl)) ?_
  intro W base args ds gs before hval0 hW hcnd _ hsh _
  have hval : ∀ (j : Nat) t v, Try.f3.params[j]? = some t → args[j]? = some v → Value.okWide Try.prog W .any base t v := hval0
  have hW' := hW
  obtain ⟨p, q, hA0, hV, rfl, hfz, hnd⟩ := hW
  have hA : DataW.TrodAll enc Try.prog W 0 (fun _ => true) true Try.f3.params.toList args.toList ds p := hA0
  rw [Try.params3] at hA hval
  obtain ⟨v0, vs0, d0, ds0, p0, q0, hargs, rfl, rfl, h0, r0⟩ := trodAll_cons hA
  obtain ⟨v1, vs1, d1, ds1, p1, q1, rfl, rfl, rfl, h1, r1⟩ := trodAll_cons r0
  obtain ⟨rfl, rfl, rfl⟩ := trodAll_nil r1
  obtain rfl : args = #[v0, v1] := by cases args; simp_all
  obtain ⟨rfl, rfl⟩ := trodVars_none hV
  clear hA0 hval0
  obtain ⟨a0, rfl, hd0, hp0, w0⟩ := ChangeMaps.open_string Try.underlying9 (hval 0 9 v0 rfl rfl) h0
  obtain ⟨a1, rfl, hd1, hp1, w1⟩ := ChangeMaps.open_string Try.underlying9 (hval 1 9 v1 rfl rfl) h1
  refine (Calls.mono (R := fun e w' => e = .returned (.bool true) ∧ Below W.heap.size W w') ?_ fun e W' ⟨he, hb⟩ => ?_)
  · exact walk a0 w0 a1 w1 W (lines.ml_of hsh)
  · subst he
    exact ⟨_, rfl, law.post law.laidOut (by kernel_rfl) rfl rfl Try.underlying4 rfl hW' hb⟩

theorem over : Rows.linesTellsRow.holds Try.pinned (OpenSpec.ofChange Rows.linesTellsSpec) :=
  OpenClaim.holds_of_wide 3 Try.f3 rfl rfl rfl rfl rfl rfl rfl ⟨rfl, rfl, rfl, rfl, rfl⟩ rfl rfl rfl rfl rfl (by kernel_rfl) Try.func3 (by kernel_rfl)
    (of_decide_eq_true (by kernel_rfl)) (by unfold Func.isWrapper; first | (rw [if_pos (by decide +kernel)]; kernel_rfl) | (rw [if_neg (by decide +kernel)]; exact ⟨rfl, rfl⟩))
    (fun os started H enc _ => lifted os started H enc)

theorem proved : Rows.LinesTellsSaid := over
end Go.Proofs.Ytnmaffkcfoddgaa.linesTells
