/-
  Proves that LinesWords is true for every text: words have no blanks, are not empty, all else is blanks, and words with blanks between are cut as they were. No condition.
-/
import Derived.Test.YtnmaffkcfoddgaaLinesLaw
namespace Go.Proofs.Ytnmaffkcfoddgaa.linesWords
open Go.ChangeShapes Go.WideShapes Go.ChangeAt Go.RowKit
open lx lines
set_option linter.unusedVariables false

theorem take_snoc (l : List ByteArray) (p : Nat) (h : p < l.length) : (l.take (p + 1)).map L = (l.take p).map L ++ [L l[p]] := by rw [List.take_add_one, List.getElem?_eq_getElem h, List.map_append]; rfl
theorem tot_app (a b : List (List UInt8)) : tot (a ++ b) = tot a + tot b := by
  induction a with
  | nil => simp [tot]
  | cons x a ih => simp only [List.cons_append, tot, ih]; omega
theorem tot_take (l : List ByteArray) (p : Nat) : tot ((l.take p).map L) ≤ tot (l.map L) := by
  have e : l.map L = (l.take p).map L ++ (l.drop p).map L := by rw [← List.map_append, List.take_append_drop]
  rw [e, tot_app]
  omega
theorem words_L (s : ByteArray) : (wordsS s).map L = wds [] (L s) := by
  unfold wordsS
  rw [List.map_map]
  have : L ∘ B = id := by funext x; exact L_B x
  rw [this, List.map_id]
theorem words_word (s x : ByteArray) (h : x ∈ wordsS s) : Word (L x) := by
  unfold wordsS at h
  obtain ⟨y, hy, rfl⟩ := List.mem_map.1 h
  rw [L_B]
  exact wds_word (L s) [] (by simp) y hy
theorem words_tot (s : ByteArray) : tot ((wordsS s).map L) + bks (L s) = s.size := by
  have := wds_tot (L s) []
  rw [words_L]
  have z : (L s).length = s.size := rfl
  simp at this
  omega
theorem words_back (s : ByteArray) : wordsS (B (9 :: wflat ((wordsS s).map L))) = wordsS s := by
  have e : wds [] (9 :: wflat ((wordsS s).map L)) = (wordsS s).map L := wback_tab _ (fun y hy => by
    obtain ⟨x, hx, rfl⟩ := List.mem_map.1 hy
    exact words_word s x hx)
  show (wds [] (L (B (9 :: wflat ((wordsS s).map L))))).map B = _
  rw [L_B, e, map_BL]
theorem word_bytes {x : ByteArray} (h : Word (L x)) : 0 < x.size ∧ ∀ j, j < x.size → bt x j ≠ 32 ∧ bt x j ≠ 9 := by
  constructor
  · rcases Nat.eq_zero_or_pos x.size with k | k
    · exact absurd ((L_nil x).2 k) h.1
    · exact k
  · intro j hj
    obtain ⟨c, h1, _, h3⟩ := drop_at x j hj
    have := h.2 c (List.mem_of_getElem? h3)
    rw [Bool.eq_false_iff] at this
    constructor
    · intro k; exact this ((blk_nat c).2 (.inl (by omega)))
    · intro k; exact this ((blk_nat c).2 (.inr (by omega)))
theorem flat_B (l : List ByteArray) (p : Nat) (h : p < l.length) : B (9 :: wflat ((l.take p).map L)) ++ l[p] ++ ⟨#[32, 9]⟩ = B (9 :: wflat ((l.take (p + 1)).map L)) := by
  apply L_inj
  rw [L_app, L_app, L_B, L_B, take_snoc l p h, wflat_snoc, show L ⟨#[32, 9]⟩ = [32, 9] from rfl]
  simp
theorem bks_take (s : ByteArray) (q : Nat) (h : q < s.size) : bks ((L s).take (q + 1)) = bks ((L s).take q) + (if bt s q = 32 ∨ bt s q = 9 then 1 else 0) := by
  obtain ⟨c, h1, _, h3⟩ := drop_at s q h
  rw [List.take_add_one, h3]
  show bks ((L s).take q ++ [c]) = _
  rw [bks_snoc]
  congr 1
  by_cases k : blk c = true
  · rw [if_pos k, if_pos (by have := (blk_nat c).1 k; omega)]
  · rw [if_neg k, if_neg (fun j => k ((blk_nat c).2 (by omega)))]
theorem bks_part (s : ByteArray) (q : Nat) : bks ((L s).take q) ≤ s.size := by
  have := bks_le ((L s).take q)
  have z : (L s).length = s.size := rfl
  rw [List.length_take] at this
  omega

/-- at the head of a word. -/
def OHead (l : List ByteArray) (t n i : Value) : Prop := ∃ p : Nat, p ≤ l.length ∧ i = .int .i64 p ∧ t = .string (B (9 :: wflat ((l.take p).map L))) ∧ n = .int .i64 (tot ((l.take p).map L) : Nat)
def IHead (x : ByteArray) (k : Value) : Prop := ∃ q : Nat, q ≤ x.size ∧ k = .int .i64 q
def KHead (s : ByteArray) (m : Nat) (n i : Value) : Prop := ∃ q : Nat, q ≤ s.size ∧ i = .int .i64 q ∧ n = .int .i64 (m + bks ((L s).take q) : Nat)

set_option maxRecDepth 100000 in
set_option maxHeartbeats 4000000 in
theorem walk (s : ByteArray) (hs : s.size ≤ maxLen) (w : World) (T : ML w) : Calls Try.prog 5 #[.string s] w fun e w' => e = .returned (.bool true) ∧ Below w.heap.size w w' := by
  unfold maxLen at hs
  have S := Lib.hid (fun W hb => small_true T W hb)
  have B0 : Below w.heap.size w w := Below.refl _ _
  clear T
  by_cases h1 : 500 < s.size
  · go_enter Try.func5, Try.ntmps5
    go_wp2_with (first
      | (go_at_call 10; (with_reducible refine (S.out _ (by assumption)).mono ?_; rintro e w1 ⟨rfl, hb1⟩)))
    go_ret
    exact ⟨rfl, by assumption⟩
  have W1 := Lib.hid (words_t (w := w) s (by omega))
  have ht := words_tot s
  have hl := wordsS_len s
  have flz : (B (9 :: wflat ((wordsS s).map L))).size ≤ 1600 := by
    rw [B_size, List.length_cons, wflat_len, List.length_map]
    omega
  have W2 := Lib.hid (words_t (w := w) (B (9 :: wflat ((wordsS s).map L))) (by omega))
  rw [words_back] at W2
  have HW := Lib.hid (fun x (hx : x ∈ wordsS s) => words_word s x hx)
  generalize wordsS s = l at *
  have HT := Lib.hid ht
  have tb : tot (l.map L) ≤ 500 := by omega
  clear ht
  go_enter Try.func5, Try.ntmps5
  go_wp2_with (first
    | (go_at_call 10; (with_reducible refine (S.out _ (by assumption)).mono ?_); rintro e w1 ⟨rfl, hb1⟩)
    | (go_at_call 18; (with_reducible refine (W1.out _ (by assumption)).mono ?_); rintro e w2 ⟨A2, c2, rfl, hs2, hl2, hb2⟩))
  go_loop [5, 6, 7] (fun t n i => OHead l t n i) (fun _ _ i => l.length - (intOf i).toNat)
  case atStart => exact ⟨0, by omega, rfl, rfl, rfl⟩
  case round =>
    obtain ⟨p, hp, rfl, rfl, rfl⟩ := hrel
    by_cases hlt : p < l.length
    · have hne : l ≠ [] := by rintro rfl; simp at hlt
      have HS := Lib.hid hs2
      obtain ⟨b, o, rfl, hb, hc⟩ := hs2 hne
      have g := hc p hlt
      obtain ⟨x0, xn⟩ := word_bytes (HW.out l[p] (List.getElem_mem hlt))
      have f1 := Lib.hid (flat_B l p hlt)
      have tk := tot_take l p
      have n1 : (B (9 :: wflat ((l.take p).map L))).size ≤ 1600 := by
        rw [B_size, List.length_cons, wflat_len, List.length_map, List.length_take]
        omega
      have tn : Hid (tot ((l.take (p + 1)).map L) = tot ((l.take p).map L) + l[p].size) := by
        show _ = _
        rw [take_snoc l p hlt, tot_snoc]
        rfl
      have xz : l[p].size ≤ 500 := by
        have := tot_take l (p + 1)
        have := tn.out
        omega
      generalize B (9 :: wflat ((l.take p).map L)) = s1 at *
      generalize tot ((l.take p).map L) = n0 at *
      generalize l[p] = x at *
      have XN := Lib.hid xn
      have t1 := tl_ne x0
      clear hc xn
      go_wp2
      go_loop [8] (fun k => IHead x k) (fun k => x.size - (intOf k).toNat)
      case atStart => exact ⟨0, by omega, rfl⟩
      case round =>
        obtain ⟨q, hq, rfl⟩ := hrel
        by_cases hlq : q < x.size
        · have b1 := bt_at x q hlq
          obtain ⟨k1, k2⟩ := XN.out q hlq
          have t2 : ((bt x q : Int) == 32) = false := by simp; omega
          have t3 : ((bt x q : Int) == 9) = false := by simp; omega
          clear k1 k2
          go_wp2
          go_round
          case rel => exact ⟨q + 1, by omega, by go_num⟩
          case measure => simp [intOf]; omega
        · obtain rfl : q = x.size := by omega
          go_wp2
          go_round
          case rel => exact ⟨p + 1, by omega, by go_num, by rw [f1.out], by rw [tn.out]; go_num⟩
          case measure => simp [intOf]; omega
    · obtain rfl : p = l.length := by omega
      rw [List.take_of_length_le (Nat.le_refl _)]
      generalize B (9 :: wflat (l.map L)) = s1 at *
      generalize tot (l.map L) = m at *
      go_wp2
      go_loop [6, 9] (fun n i => KHead s m n i) (fun _ i => s.size - (intOf i).toNat)
      case atStart => exact ⟨0, by omega, rfl, rfl⟩
      case round =>
        obtain ⟨q, hq, rfl, rfl⟩ := hrel
        have bp := bks_part s q
        by_cases hlq : q < s.size
        · have b1 := bt_at s q hlq
          have bk := bks_take s q hlq
          by_cases k : bt s q = 32 ∨ bt s q = 9
          · rw [if_pos k] at bk
            have BK := Lib.hid bk
            clear bk
            generalize bks ((L s).take q) = z at *
            rcases k with k | k
            · have t2 : ((bt s q : Int) == 32) = true := by simp; omega
              clear k
              go_wp2
              go_round
              case rel => exact ⟨q + 1, by omega, by go_num, by rw [BK.out]; go_num⟩
              case measure => simp [intOf]; omega
            · have t2 : ((bt s q : Int) == 32) = false := by simp; omega
              have t3 : ((bt s q : Int) == 9) = true := by simp; omega
              clear k
              go_wp2
              go_round
              case rel => exact ⟨q + 1, by omega, by go_num, by rw [BK.out]; go_num⟩
              case measure => simp [intOf]; omega
          · rw [if_neg k] at bk
            have BK := Lib.hid bk
            clear bk
            generalize bks ((L s).take q) = z at *
            have t2 : ((bt s q : Int) == 32) = false := by simp; omega
            have t3 : ((bt s q : Int) == 9) = false := by simp; omega
            clear k
            go_wp2
            go_round
            case rel => exact ⟨q + 1, by omega, by go_num, by rw [BK.out]; rfl⟩
            case measure => simp [intOf]; omega
        · obtain rfl : q = s.size := by omega
          rw [List.take_of_length_le (Nat.le_of_eq (L_len s))]
          have hz := HT.out
          generalize bks (L s) = z at *
          have HZ : ((m + z : Nat) : Int) = (s.size : Int) := by omega
          go_wp2_with (first
            | (go_at_call 18; (with_reducible refine (W2.out _ (by assumption)).mono ?_); rintro e w3 ⟨A3, c3, rfl, hs3, hl3, hb3⟩; have hs2' := hs2.below hl3)
            | (go_at_call 15; (with_reducible refine (ref05.same_on (w := w) _ hb3 l _ _ _ _ (by omega) hs3 hs2').mono ?_); rintro e w4 ⟨rfl, hb4⟩))
          all_goals
            go_ret
            exact ⟨ret_bool (by first | rfl | (simp; done) | (simp; omega)), by assumption⟩
set_option maxRecDepth 100000 in
theorem lifted (os : Os) (started : os.Started) (H : Type) (enc : TypeId × Value → H) :
    ReturnsInHanded {} Try.checked os 5 .any (Rows.linesWordsSpec.pre6 enc Try.prog Try.f5 Rows.linesWordsRow.domain false) (Rows.linesWordsSpec.post enc Try.prog Try.f5 false true false false) := by
  refine returnsInHanded_of_change_shaped (C := Try.checked) law.own started (by kernel_rfl) Try.func5
    (ChangeSpec.witness6 (enc := enc) (C := Try.checked) false ⟨#[], #[.string ByteArray.empty], []⟩ 8 (by kernel_rfl) (by kernel_rfl) (by kernel_rfl) (by kernel_rfl)) ?_
  intro W base args ds gs before hval0 hW hcnd _ hsh _
  have hval : ∀ (j : Nat) t v, Try.f5.params[j]? = some t → args[j]? = some v → Value.okWide Try.prog W .any base t v := hval0
  have hW' := hW
  obtain ⟨p, q, hA0, hV, rfl, hfz, hnd⟩ := hW
  have hA : DataW.TrodAll enc Try.prog W 0 (fun _ => true) true Try.f5.params.toList args.toList ds p := hA0
  rw [Try.params5] at hA hval
  obtain ⟨v0, vs0, d0, ds0, p0, q0, hargs, rfl, rfl, h0, r0⟩ := trodAll_cons hA
  obtain ⟨rfl, rfl, rfl⟩ := trodAll_nil r0
  obtain rfl : args = #[v0] := by cases args; simp_all
  obtain ⟨rfl, rfl⟩ := trodVars_none hV
  clear hA0 hval0
  obtain ⟨a0, rfl, hd0, hp0, w0⟩ := ChangeMaps.open_string Try.underlying9 (hval 0 9 v0 rfl rfl) h0
  refine (Calls.mono (R := fun e w' => e = .returned (.bool true) ∧ Below W.heap.size W w') ?_ fun e W' ⟨he, hb⟩ => ?_)
  · exact walk a0 w0 W (lines.ml_of hsh)
  · subst he
    exact ⟨_, rfl, law.post law.laidOut (by kernel_rfl) rfl rfl Try.underlying4 rfl hW' hb⟩

theorem over : Rows.linesWordsRow.holds Try.pinned (OpenSpec.ofChange Rows.linesWordsSpec) :=
  OpenClaim.holds_of_wide 5 Try.f5 rfl rfl rfl rfl rfl rfl rfl ⟨rfl, rfl, rfl, rfl, rfl⟩ rfl rfl rfl rfl rfl (by kernel_rfl) Try.func5 (by kernel_rfl)
    (of_decide_eq_true (by kernel_rfl)) (by unfold Func.isWrapper; first | (rw [if_pos (by decide +kernel)]; kernel_rfl) | (rw [if_neg (by decide +kernel)]; exact ⟨rfl, rfl⟩))
    (fun os started H enc _ => lifted os started H enc)

theorem proved : Rows.LinesWordsSaid := over
end Go.Proofs.Ytnmaffkcfoddgaa.linesWords
