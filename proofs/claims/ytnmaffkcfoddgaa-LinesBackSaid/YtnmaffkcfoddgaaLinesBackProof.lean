/-
  Proves that LinesBack is true for every row of texts: lines without line feeds, with no byte 13 at their ends, are split as they were, with a line feed behind each, and with a byte 13 ahead of that, too. No condition.
-/
import Derived.Test.YtnmaffkcfoddgaaLinesLaw
import Derived.SliceStrings
namespace Go.Proofs.Ytnmaffkcfoddgaa.lines
open Go.ChangeShapes Go.WideShapes Go.ChangeAt Go.RowKit
open lx
set_option linter.unusedVariables false

/-- a row of texts that came in. -/
def RowIn (W : World) (A : Option Addr) (l : List ByteArray) : Prop := Strs W A l ∧ l.length ≤ 9223372036854775807 ∧ ∀ x ∈ l, x.size ≤ 9223372036854775807
theorem cells_str : Try.prog.cellsOf 9 = 1 := by kernel_rfl
theorem open_rows {H : Type} {enc : TypeId × Value → H} {W : World} {base : Nat} {v : Value} {d : DataW H} {p : List MemPlace} (hv : Value.okWide Try.prog W .any base 28 v) (h : DataW.Trod enc Try.prog W 0 (fun _ => true) true 28 v d p) :
    ∃ A c l, v = .slice A l.length c ∧ RowIn W A l := by
  obtain ⟨a0, len0, cap0, rfl⟩ := okWide_slice Try.underlying28 hv
  obtain ⟨fuel, hf⟩ := h
  rcases ChangeShapes.open_strings (cs := [.slice a0 len0 cap0]) Try.underlying28 Try.underlying9 cells_str hf with ⟨h1, _⟩ | ⟨a, len, cap, ss, h1, _, h3, h4, h5, _, h7, h8⟩
  · simp only [List.cons.injEq, Value.slice.injEq, and_true] at h1
    obtain ⟨rfl, rfl, rfl⟩ := h1
    exact ⟨none, 0, [], rfl, fun h => absurd rfl h, by simp, by simp⟩
  · simp only [List.cons.injEq, Value.slice.injEq, and_true] at h1
    obtain ⟨rfl, rfl, rfl⟩ := h1
    simp only [if_true] at h5
    unfold maxLen at h4 h8
    have hz : (ss.take len0).length = len0 := by rw [List.length_take]; omega
    refine ⟨some a, cap0, ss.take len0, by rw [hz], fun hne => ?_, by omega, fun x hx => by have := h8 x (List.mem_of_mem_take hx); omega⟩
    have hp : 0 < len0 := by
      rcases Nat.eq_zero_or_pos len0 with k | k
      · subst k; simp at hne
      · exact k
    obtain ⟨b, off, spot⟩ := a
    have hspot : spot = none := by simpa [Addr.add] using World.cell?_spot (h7 0 (by omega))
    subst hspot
    refine ⟨b, off, rfl, World.block_lt_of_cell? W _ (h7 0 (by omega)) |> fun k => by simpa [Addr.add] using k, fun k hk => ?_⟩
    have := h7 k (by omega)
    rw [Go.WideShapes.add_plain] at this
    rw [this, List.getElem_take, List.getD_eq_getElem?_getD, List.getElem?_eq_getElem (by omega), Option.getD_some]
end Go.Proofs.Ytnmaffkcfoddgaa.lines
namespace Go.Proofs.Ytnmaffkcfoddgaa.linesBack
open Go.ChangeShapes Go.WideShapes Go.ChangeAt Go.RowKit
open lx lines
set_option linter.unusedVariables false

theorem take_snoc (l : List ByteArray) (p : Nat) (h : p < l.length) : l.take (p + 1) = l.take p ++ [l[p]] := by rw [List.take_add_one, List.getElem?_eq_getElem h]; rfl
theorem flat_len (e : List UInt8) : ∀ l : List ByteArray, (∀ x ∈ l, x.size ≤ 100) → (flat e l).length ≤ l.length * (100 + e.length)
  | [], _ => by simp [flat]
  | x :: l, h => by
    have h1 := h x (by simp)
    have h2 := flat_len e l (fun y hy => h y (by simp [hy]))
    have z : (L x).length = x.size := rfl
    simp only [flat, List.length_append, List.length_cons]
    rw [Nat.add_mul]
    omega
theorem flat_B (e : List UInt8) (E : ByteArray) (he : L E = e) (l : List ByteArray) (p : Nat) (h : p < l.length) : B (flat e (l.take p)) ++ l[p] ++ E = B (flat e (l.take (p + 1))) := by
  apply L_inj
  rw [L_app, L_app, L_B, L_B, take_snoc l p h, flat_snoc, he, List.append_assoc]
theorem fine_of {x : ByteArray} (h : ∀ j, j < x.size → bt x j ≠ 10 ∧ ¬ (bt x j = 13 ∧ j = x.size - 1)) : Fine x := by
  constructor
  · intro c hc k
    subst k
    obtain ⟨j, hj, he⟩ := List.getElem_of_mem hc
    have hj' : j < x.size := hj
    apply (h j hj').1
    unfold bt
    rw [List.getD_eq_getElem?_getD, List.getElem?_eq_getElem hj, Option.getD_some, he]
    rfl
  · intro m e
    have z : (L x).length = x.size := rfl
    have hl := congrArg List.length e
    simp at hl
    apply (h m.length (by omega)).2
    refine ⟨?_, by omega⟩
    unfold bt
    rw [e, List.getD_eq_getElem?_getD, List.getElem?_append_right (Nat.le_refl _), Nat.sub_self]
    rfl
theorem back1 (l : List ByteArray) (h : ∀ x ∈ l, Fine x) : splitS (B (flat [10] l)) = l := by unfold splitS; rw [L_B, back_lf l h, map_BL]
theorem back2 (l : List ByteArray) (h : ∀ x ∈ l, Fine x) : splitS (B (flat [13, 10] l)) = l := by unfold splitS; rw [L_B, back_crlf l h, map_BL]

/-- at the head of a line. -/
def OHead (l : List ByteArray) (s t i : Value) : Prop :=
  ∃ p : Nat, p ≤ l.length ∧ i = .int .i64 p ∧ s = .string (B (flat [10] (l.take p))) ∧ t = .string (B (flat [13, 10] (l.take p))) ∧ ∀ x ∈ l.take p, Fine x ∧ x.size ≤ 100
/-- at the head of a byte. -/
def IHead (x : ByteArray) (k : Value) : Prop := ∃ q : Nat, q ≤ x.size ∧ k = .int .i64 q ∧ ∀ j, j < q → bt x j ≠ 10 ∧ ¬ (bt x j = 13 ∧ j = x.size - 1)

set_option maxRecDepth 100000 in
set_option maxHeartbeats 4000000 in
theorem walk (w : World) (A : Option Addr) (c : Nat) (l : List ByteArray) (hl : RowIn w A l) (T : ML w) : Calls Try.prog 4 #[.slice A l.length c] w fun e w' => e = .returned (.bool true) ∧ Below w.heap.size w w' := by
  obtain ⟨hA, hn, hz⟩ := hl
  have S := Lib.hid (fun W hb => small_true T W hb)
  have B0 : Below w.heap.size w w := Below.refl _ _
  by_cases h1 : 50 < l.length
  · clear T hA
    go_enter Try.func4, Try.ntmps4
    go_wp2_with (first
      | (go_at_call 10; (with_reducible refine (S.out _ (by assumption)).mono ?_; rintro e w1 ⟨rfl, hb1⟩)))
    go_ret
    exact ⟨rfl, by assumption⟩
  have HT := Lib.hid T
  have HZ := Lib.hid hz
  have HA := Lib.hid hA
  clear T hz hA
  go_enter Try.func4, Try.ntmps4
  go_wp2_with (go_at_call 10; (with_reducible refine (S.out _ (by assumption)).mono ?_); rintro e w1 ⟨rfl, hb1⟩)
  go_loop [4, 5, 6] (fun s t i => OHead l s t i) (fun _ _ i => l.length - (intOf i).toNat)
  case atStart => exact ⟨0, by omega, rfl, rfl, rfl, by simp⟩
  case round =>
    obtain ⟨p, hp, rfl, rfl, rfl, hf⟩ := hrel
    have HF := Lib.hid hf
    by_cases hlt : p < l.length
    · have hne : l ≠ [] := by rintro rfl; simp at hlt
      obtain ⟨b, o, rfl, hb, hc⟩ := (HA.out.below hb1) hne
      have g := hc p hlt
      have xz := HZ.out l[p] (List.getElem_mem hlt)
      have f1 := Lib.hid (flat_B [10] ⟨#[10]⟩ rfl l p hlt)
      have f2 := Lib.hid (flat_B [13, 10] ⟨#[13, 10]⟩ rfl l p hlt)
      have n1 : (B (flat [10] (l.take p))).size ≤ 5100 := by
        rw [B_size]
        have := flat_len [10] (l.take p) (fun x hx => (hf x hx).2)
        simp only [List.length_take, List.length_cons, List.length_nil] at this
        omega
      have n2 : (B (flat [13, 10] (l.take p))).size ≤ 5100 := by
        rw [B_size]
        have := flat_len [13, 10] (l.take p) (fun x hx => (hf x hx).2)
        simp only [List.length_take, List.length_cons, List.length_nil] at this
        omega
      have FF : Hid (∀ x, x = l[p] → Fine x → x.size ≤ 100 → ∀ y ∈ l.take (p + 1), Fine y ∧ y.size ≤ 100) := by
        intro x hx h1 h2 y hy
        rw [take_snoc l p hlt, List.mem_append, List.mem_singleton] at hy
        rcases hy with hy | rfl
        · exact hf y hy
        · rw [← hx]; exact ⟨h1, h2⟩
      clear hf hc HF
      generalize B (flat [10] (l.take p)) = s1 at *
      generalize B (flat [13, 10] (l.take p)) = s2 at *
      generalize l[p] = x at *
      by_cases h100 : 100 < x.size
      · go_wp2
        go_ret
        exact ⟨rfl, by assumption⟩
      · go_wp2
        go_loop [7] (fun k => IHead x k) (fun k => x.size - (intOf k).toNat)
        case atStart => exact ⟨0, by omega, rfl, fun j hj => by omega⟩
        case round =>
          obtain ⟨q, hq, rfl, hfq⟩ := hrel
          have HQ := Lib.hid hfq
          by_cases hlq : q < x.size
          · have b1 := bt_at x q hlq
            by_cases k10 : bt x q = 10
            · clear hfq
              go_wp2
              go_ret
              exact ⟨rfl, by assumption⟩
            · have t1 : ((bt x q : Int) == 10) = false := by simp; omega
              by_cases k13 : bt x q = 13
              · by_cases kl : q = x.size - 1
                · have t2 : ((q : Int) == (x.size : Int) - 1) = true := by simp; omega
                  clear hfq k10 kl
                  go_wp2
                  go_ret
                  exact ⟨rfl, by assumption⟩
                · have t2 : ((q : Int) == (x.size : Int) - 1) = false := by simp; omega
                  have NX : Hid (∀ j, j < q + 1 → bt x j ≠ 10 ∧ ¬ (bt x j = 13 ∧ j = x.size - 1)) := by
                    intro j hj
                    rcases Nat.lt_or_ge j q with k | k
                    · exact hfq j k
                    · obtain rfl : q = j := by omega
                      exact ⟨k10, fun h => kl h.2⟩
                  clear hfq k10 kl
                  go_wp2
                  go_round
                  case rel => exact ⟨q + 1, by omega, by go_num, NX.out⟩
                  case measure => simp [intOf]; omega
              · have t2 : ((bt x q : Int) == 13) = false := by simp; omega
                have NX : Hid (∀ j, j < q + 1 → bt x j ≠ 10 ∧ ¬ (bt x j = 13 ∧ j = x.size - 1)) := by
                  intro j hj
                  rcases Nat.lt_or_ge j q with k | k
                  · exact hfq j k
                  · obtain rfl : q = j := by omega
                    exact ⟨k10, fun h => k13 h.1⟩
                clear hfq k10 k13
                go_wp2
                go_round
                case rel => exact ⟨q + 1, by omega, by go_num, NX.out⟩
                case measure => simp [intOf]; omega
          · obtain rfl : q = x.size := by omega
            have FX := Lib.hid (FF.out x rfl (fine_of hfq) (by omega))
            clear hfq
            go_wp2
            go_round
            case rel => exact ⟨p + 1, by omega, by go_num, by rw [f1.out], by rw [f2.out], FX.out⟩
            case measure => simp [intOf]; omega
    · obtain rfl : p = l.length := by omega
      rw [List.take_of_length_le (Nat.le_refl _)] at hf ⊢
      have n1 : (B (flat [10] l)).size ≤ 5100 := by
        rw [B_size]
        have := flat_len [10] l (fun x hx => (hf x hx).2)
        simp only [List.length_cons, List.length_nil] at this
        omega
      have n2 : (B (flat [13, 10] l)).size ≤ 5100 := by
        rw [B_size]
        have := flat_len [13, 10] l (fun x hx => (hf x hx).2)
        simp only [List.length_cons, List.length_nil] at this
        omega
      have P1 := Lib.hid (split_t HT.out (B (flat [10] l)) (by omega))
      have P2 := Lib.hid (split_t HT.out (B (flat [13, 10] l)) (by omega))
      rw [back1 l (fun x hx => (hf x hx).1)] at P1
      rw [back2 l (fun x hx => (hf x hx).1)] at P2
      clear hf HF
      generalize B (flat [10] l) = s1 at *
      generalize B (flat [13, 10] l) = s2 at *
      go_wp2_with (first
        | (go_at_call 16; first
            | ((with_reducible refine (P1.out _ (by assumption)).mono ?_); rintro e w2 ⟨A2, c2, rfl, hs2, hl2, hb2⟩; have hA2 := HA.out.below hb2)
            | ((with_reducible refine (P2.out _ (by assumption)).mono ?_); rintro e w3 ⟨A3, c3, rfl, hs3, hl3, hb3⟩; have hA3 := HA.out.below hb3))
        | (go_at_call 15; first
            | ((with_reducible refine (ref05.same_on (w := w) _ hb2 l _ _ _ _ (by omega) hs2 hA2).mono ?_); rintro e w4 ⟨rfl, hb4⟩)
            | ((with_reducible refine (ref05.same_on (w := w) _ hb3 l _ _ _ _ (by omega) hs3 hA3).mono ?_); rintro e w5 ⟨rfl, hb5⟩)))
      all_goals
        go_ret
        exact ⟨ret_bool (by first | rfl | (simp; done)), by assumption⟩
set_option maxRecDepth 100000 in
theorem lifted (os : Os) (started : os.Started) (H : Type) (enc : TypeId × Value → H) :
    ReturnsInHanded {} Try.checked os 4 .any (Rows.linesBackSpec.pre6 enc Try.prog Try.f4 Rows.linesBackRow.domain false) (Rows.linesBackSpec.post enc Try.prog Try.f4 false true false false) := by
  refine returnsInHanded_of_change_shaped (C := Try.checked) law.own started (by kernel_rfl) Try.func4
    (ChangeSpec.witness6 (enc := enc) (C := Try.checked) false ⟨#[], #[.slice none 0 0], []⟩ 8 (by kernel_rfl) (by kernel_rfl) (by kernel_rfl) (by kernel_rfl)) ?_
  intro W base args ds gs before hval0 hW hcnd _ hsh _
  have hval : ∀ (j : Nat) t v, Try.f4.params[j]? = some t → args[j]? = some v → Value.okWide Try.prog W .any base t v := hval0
  have hW' := hW
  obtain ⟨p, q, hA0, hV, rfl, hfz, hnd⟩ := hW
  have hA : DataW.TrodAll enc Try.prog W 0 (fun _ => true) true Try.f4.params.toList args.toList ds p := hA0
  rw [Try.params4] at hA hval
  obtain ⟨v0, vs0, d0, ds0, p0, q0, hargs, rfl, rfl, h0, r0⟩ := trodAll_cons hA
  obtain ⟨rfl, rfl, rfl⟩ := trodAll_nil r0
  obtain rfl : args = #[v0] := by cases args; simp_all
  obtain ⟨rfl, rfl⟩ := trodVars_none hV
  clear hA0 hval0
  refine (Calls.mono (R := fun e w' => e = .returned (.bool true) ∧ Below W.heap.size W w') ?_ fun e W' ⟨he, hb⟩ => ?_)
  · obtain ⟨A0, c0, l0, rfl, i0⟩ := lines.open_rows (hval 0 28 v0 rfl rfl) h0
    exact walk W _ _ _ i0 (lines.ml_of hsh)
  · subst he
    exact ⟨_, rfl, law.post law.laidOut (by kernel_rfl) rfl rfl Try.underlying4 rfl hW' hb⟩

theorem over : Rows.linesBackRow.holds Try.pinned (OpenSpec.ofChange Rows.linesBackSpec) :=
  OpenClaim.holds_of_wide 4 Try.f4 rfl rfl rfl rfl rfl rfl rfl ⟨rfl, rfl, rfl, rfl, rfl⟩ rfl rfl rfl rfl rfl (by kernel_rfl) Try.func4 (by kernel_rfl)
    (of_decide_eq_true (by kernel_rfl)) (by unfold Func.isWrapper; first | (rw [if_pos (by decide +kernel)]; kernel_rfl) | (rw [if_neg (by decide +kernel)]; exact ⟨rfl, rfl⟩))
    (fun os started H enc _ => lifted os started H enc)

theorem proved : Rows.LinesBackSaid := over
end Go.Proofs.Ytnmaffkcfoddgaa.linesBack
