/-
  Proves that LinesJoins is true for every two texts: a text that ends with a line feed, and another one behind it, has the lines of both. No condition.
-/
import Derived.Test.YtnmaffkcfoddgaaLinesLaw
namespace Go.Proofs.Ytnmaffkcfoddgaa.linesJoins
open Go.ChangeShapes Go.WideShapes Go.ChangeAt Go.RowKit
open lx lines
set_option linter.unusedVariables false

theorem joined (s t : ByteArray) : splitS (s ++ ⟨#[10]⟩ ++ t) = splitS (s ++ ⟨#[10]⟩) ++ splitS t := by
  unfold splitS
  rw [← List.map_append, L_app, L_app, show L ⟨#[10]⟩ = [10] from rfl, List.append_assoc, List.singleton_append, spl_join]
theorem some_lines (s : ByteArray) : 1 ≤ (splitS (s ++ ⟨#[10]⟩)).length := by
  unfold splitS
  rw [List.length_map, L_app, show L ⟨#[10]⟩ = [10] from rfl]
  exact spl_some _ _

theorem run_nil {w : World} (base : Nat) (ty : TypeId) (v : Value) (n : Nat) (xs : List Value) (hown : w.ownsRow base 9 1 v n xs) (c : Nat) : (Builtin.append_ #[28, 28] ty #[v, .slice none 0 c]).run Try.prog w = .ok v w := by
  obtain ⟨i0, hi, hz0, hz1, hz2⟩ := info_parts infoS
  rcases hown.2 with ⟨rfl, rfl⟩ | ⟨g, cap, cs, rfl, _, _, hnc, _⟩
  · simp [Builtin.append_, run_underlying Try.underlying28, sizeOf, typeInfo, hi, Builtin.lenOf, Builtin.firstCells]
  · simp [Builtin.append_, run_underlying Try.underlying28, sizeOf, typeInfo, hi, Builtin.lenOf, Builtin.firstCells, hnc, storeCells]
/-- 'append(all, more...)', all a row of the call's own, where it is wanted. -/
theorem app_rows {ops : Array Oper} {rest : List Oper} {o : Oper} {a : Act} {Q : Exit → Act → World → Prop} (hw : Region.wanted o (yielded ops a.tmps) = true) (s x : Operand)
    (ho : o.op = .call { callee := .builtin .append, args := #[s, x], argTypes := #[28, 28] }) (base : Nat) (W : World) (v : Value) (ls ns : List ByteArray) (A : Option Addr) (c : Nat)
    (hs : a.eval s = v) (hx : a.eval x = .slice A ns.length c) (hown : W.ownsRow base 9 1 v ls.length (ls.map Value.string)) (hr : Strs W A ns) (hn : ls.length + ns.length < 8000000000000) (hbase : base ≤ W.heap.size)
    (h : ∀ v' w', w'.ownsRow base 9 1 v' (ls ++ ns).length ((ls ++ ns).map Value.string) → W.grownBy w' v.ownBlock → wpList Try.prog ops Q rest (a.put o.dst v') w') :
    wpList Try.prog ops Q (o :: rest) a W := by
  obtain ⟨i0, hi, hz0, hz1, hz2⟩ := info_parts infoS
  refine BigFrame.wpList_want hw fun K hK => ?_
  have fin : ∀ ad, A = some ad → (∀ j u, (ns.map Value.string)[j]? = some u → W.cell? (ad.add j) = some u) → o.wp Try.prog a W K Q := by
    intro ad e hc
    subst e
    refine wp_append_own _ s x 28 ho base 9 i0 _ 1 16 Try.underlying28 hi hz0 hz1 hz2 rfl (by decide) v ls.length (ls.map Value.string) hs hown ad ns.length c (ns.map Value.string) hx (by simp) hc (strs_oneCell ns) (by unfold maxLen; omega) (by omega) hbase ?_
    intro v' w' h1 h2 _
    refine hK _ _ (h v' w' ?_ h2)
    simpa using h1
  by_cases hne : ns = []
  · subst hne
    rcases A with _ | ad
    · have hrun := run_nil (w := W) base o.type v _ _ hown c
      have e : a.eval x = .slice none 0 c := hx
      unfold Oper.wp
      simp [execOp, ho, resolve, invoke, builtin, hs, e, hrun, Result.andThen]
      refine hK _ _ (h v W ?_ (World.grownBy.refl W _))
      simpa using hown
    · exact fin ad rfl (fun j u hj => by simp at hj)
  · obtain ⟨b, off, e, _, hc⟩ := hr hne
    refine fin _ e fun j u hj => ?_
    rw [List.getElem?_map] at hj
    have hl : j < ns.length := by
      rcases Nat.lt_or_ge j ns.length with k | k
      · exact k
      · rw [List.getElem?_eq_none k] at hj
        cases hj
    rw [List.getElem?_eq_getElem hl] at hj
    have e2 : (⟨b, off, none⟩ : Addr).add j = ⟨b, off + j, none⟩ := by unfold Addr.add; by_cases k : j = 0 <;> simp [k]
    rw [e2, hc j hl]
    exact hj

theorem app_below {base : Nat} {w0 W W' : World} {v : Value} {n : Nat} {xs : List Value} (hb : Below base w0 W) (hs : base ≤ W.heap.size) (hown : W.ownsRow base 9 1 v n xs) (hg : W.grownBy W' v.ownBlock) : Below base w0 W' := hb.grown hg hs fun k hk => (hown.lt k hk).1
theorem empty_row (W : World) : (W.alloc (.cells #[] 9)).ownsRow W.heap.size 9 1 (.slice (some ⟨W.heap.size, 0, none⟩) 0 0) ([] : List ByteArray).length (([] : List ByteArray).map Value.string) :=
  World.ownsRow_lit W #[] 0 (Nat.le_refl _) (by decide) rfl
set_option maxRecDepth 100000 in
set_option maxHeartbeats 4000000 in
theorem walk (s : ByteArray) (hs : s.size ≤ maxLen) (t : ByteArray) (ht : t.size ≤ maxLen) (w : World) (T : ML w) : Calls Try.prog 9 #[.string s, .string t] w fun e w' => e = .returned (.bool true) ∧ Below w.heap.size w w' := by
  unfold maxLen at hs ht
  have S := Lib.hid (fun W hb => small_true T W hb)
  have B0 : Below w.heap.size w w := Below.refl _ _
  by_cases h1 : 300 < s.size ∨ 300 < t.size
  · clear T
    go_enter Try.func9, Try.ntmps9
    go_wp2_with (first
      | (go_at_call 10; (with_reducible refine (S.out _ (by assumption)).mono ?_; rintro e w1 ⟨rfl, hb1⟩)))
    all_goals first
      | (exfalso; omega)
      | (go_ret; exact ⟨rfl, by assumption⟩)
  have h2 : s.size ≤ 300 := by omega
  have h3 : t.size ≤ 300 := by omega
  have y1 : (s ++ ⟨#[10]⟩).size = s.size + 1 := by simp; rfl
  have y2 : (s ++ ⟨#[10]⟩ ++ t).size = s.size + 1 + t.size := by rw [ByteArray.size_append, y1]
  have P1 := Lib.hid (split_t T (s ++ ⟨#[10]⟩) (by omega))
  have P2 := Lib.hid (split_t T t (by omega))
  have P3 := Lib.hid (split_t T (s ++ ⟨#[10]⟩ ++ t) (by omega))
  have z1 := splitS_len (s ++ ⟨#[10]⟩)
  have z2 := splitS_len t
  have z3 := some_lines s
  rw [joined] at P3
  have y3 : (s ++ ⟨#[10]⟩).size ≤ 301 := by omega
  clear T h1 y2
  rw [y1] at z1
  clear y1
  generalize splitS (s ++ ⟨#[10]⟩) = l1 at *
  generalize splitS t = l2 at *
  go_enter Try.func9, Try.ntmps9
  go_wp2_with (first
    | (go_at_call 10; (with_reducible refine (S.out _ (by assumption)).mono ?_); rintro e w1 ⟨rfl, hb1⟩)
    | (go_at_call 16; first
        | ((with_reducible refine (P1.out _ (by assumption)).mono ?_); rintro e w2 ⟨A2, c2, rfl, hs2, hl2, hb2⟩)
        | ((with_reducible refine (P2.out _ (by assumption)).mono ?_); rintro e w3 ⟨A3, c3, rfl, hs3, hl3, hb3⟩; have hs2' := hs2.below hl3)
        | ((with_reducible refine (P3.out _ (by assumption)).mono ?_); rintro e w4 ⟨A4, c4, rfl, hs4, hl4, hb4⟩; have hs2'' := hs2'.below hl4; have hs3' := hs3.below hl4))
    | (at_builtin; first
        | (refine app_rows rfl (.tmp 35) (.tmp 36) rfl w4.heap.size _ _ [] l1 A2 c2 rfl rfl (empty_row w4) (hs2''.below (bel1 _ _)) (by simp; omega) (by simp) ?_; intro v5 w5 ho5 hg5; have hl5 := app_below (bel1 w4 _) (by simp) (empty_row w4) hg5; rw [List.nil_append] at ho5; have hs3'' := hs3'.below hl5)
        | (refine app_rows rfl (.tmp 37) (.tmp 38) rfl w4.heap.size _ v5 l1 l2 A3 c3 rfl rfl ho5 hs3'' (by omega) hl5.size ?_; intro v6 w6 ho6 hg6; have hl6 := app_below hl5 hl5.size ho5 hg6; have hs4' := hs4.below hl6; have hb6 := hb4.trans (hl6.mono hb4.size); obtain ⟨A6, c6, rfl, hs6, hc6⟩ := Strs.of_own ho6; rw [List.length_append]))
    | (go_at_call 15; (with_reducible refine (same_n (w := w) _ hb6 (l1.length + l2.length) (l1 ++ l2) List.length_append _ _ _ _ (by omega) hs4' hs6).mono ?_); rintro e w7 ⟨rfl, hb7⟩))
  all_goals
    go_ret
    exact ⟨ret_bool (by first | rfl | (simp; done)), by assumption⟩
set_option maxRecDepth 100000 in
theorem lifted (os : Os) (started : os.Started) (H : Type) (enc : TypeId × Value → H) :
    ReturnsInHanded {} Try.checked os 9 .any (Rows.linesJoinsSpec.pre6 enc Try.prog Try.f9 Rows.linesJoinsRow.domain false) (Rows.linesJoinsSpec.post enc Try.prog Try.f9 false true false false) := by
  refine returnsInHanded_of_change_shaped (C := Try.checked) law.own started (by kernel_rfl) Try.func9
    (ChangeSpec.witness6 (enc := enc) (C := Try.checked) false ⟨#[], #[.string ByteArray.empty, .string ByteArray.empty], []⟩ 8 (by kernel_rfl) (by kernel_rfl) (by kernel_rfl) (by kernel_rfl)) ?_
  intro W base args ds gs before hval0 hW hcnd _ hsh _
  have hval : ∀ (j : Nat) t v, Try.f9.params[j]? = some t → args[j]? = some v → Value.okWide Try.prog W .any base t v := hval0
  have hW' := hW
  obtain ⟨p, q, hA0, hV, rfl, hfz, hnd⟩ := hW
  have hA : DataW.TrodAll enc Try.prog W 0 (fun _ => true) true Try.f9.params.toList args.toList ds p := hA0
  rw [Try.params9] at hA hval
  obtain ⟨v0, vs0, d0, ds0, p0, q0, hargs, rfl, rfl, h0, r0⟩ := trodAll_cons hA
  obtain ⟨v1, vs1, d1, ds1, p1, q1, rfl, rfl, rfl, h1, r1⟩ := trodAll_cons r0
  obtain ⟨rfl, rfl, rfl⟩ := trodAll_nil r1
  obtain rfl : args = #[v0, v1] := by cases args; simp_all
  obtain ⟨rfl, rfl⟩ := trodVars_none hV
  clear hA0 hval0
  obtain ⟨a0, rfl, hd0, hp0, w0⟩ := ChangeMaps.open_string Try.underlying9 (hval 0 9 v0 rfl rfl) h0
  obtain ⟨a1, rfl, hd1, hp1, w1⟩ := ChangeMaps.open_string Try.underlying9 (hval 1 9 v1 rfl rfl) h1
  refine (Calls.mono (R := fun e w' => e = .returned (.bool true) ∧ Below W.heap.size W w') ?_ fun e W' ⟨he, hb⟩ => ?_)
  · exact walk a0 w0 a1 w1 W (lines.ml_of hsh)
  · subst he
    exact ⟨_, rfl, law.post law.laidOut (by kernel_rfl) rfl rfl Try.underlying4 rfl hW' hb⟩

theorem over : Rows.linesJoinsRow.holds Try.pinned (OpenSpec.ofChange Rows.linesJoinsSpec) :=
  OpenClaim.holds_of_wide 9 Try.f9 rfl rfl rfl rfl rfl rfl rfl ⟨rfl, rfl, rfl, rfl, rfl⟩ rfl rfl rfl rfl rfl (by kernel_rfl) Try.func9 (by kernel_rfl)
    (of_decide_eq_true (by kernel_rfl)) (by unfold Func.isWrapper; first | (rw [if_pos (by decide +kernel)]; kernel_rfl) | (rw [if_neg (by decide +kernel)]; exact ⟨rfl, rfl⟩))
    (fun os started H enc _ => lifted os started H enc)

theorem proved : Rows.LinesJoinsSaid := over
end Go.Proofs.Ytnmaffkcfoddgaa.linesJoins
