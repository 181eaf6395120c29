/-
  What the document's own Words of layer 5 is: the words of a text. Condition: the text is no longer than a slice can count.
-/
import Derived.Test.YtfnkloecfjppeaaDoorRef05
import Derived.Test.YtfnkloecfjppeaaDoorLinesWords
namespace Go.Proofs.YtfnkloecfjppeaaDoor.ref05
open Go.ChangeShapes Go.WideShapes Go.ChangeAt Go.RowKit
open lx lines
set_option linter.unusedVariables false

def XHead (s : ByteArray) (w : World) (t i : Value) (W : World) : Prop :=
  ∃ (p : Nat) (ls : List ByteArray) (v : Value), v = t ∧ i = .int .i64 p ∧ p ≤ s.size + 1 ∧ ls.map L ++ wds [] ((L s).drop p) = wds [] (L s) ∧ W.ownsRow w.heap.size 9 1 v ls.length (ls.map Value.string) ∧ Below w.heap.size w W
def YHead (s : ByteArray) (p : Nat) (i : Value) : Prop := ∃ q : Nat, i = .int .i64 q ∧ p ≤ q ∧ q ≤ s.size ∧ ∀ j, p ≤ j → j < q → bt s j ≠ 32 ∧ bt s j ≠ 9
theorem word_step (s : ByteArray) (p q : Nat) (h : p < q) (hq : q ≤ s.size) (hn : ∀ j, p ≤ j → j < q → bt s j ≠ 32 ∧ bt s j ≠ 9) (he : q = s.size ∨ bt s q = 32 ∨ bt s q = 9) : wds [] ((L s).drop p) = cur s p q :: wds [] ((L s).drop (q + 1)) := by
  have e := wds_go s p p (q - p) (Nat.le_refl _) (fun j h1 h2 => hn j h1 (by omega))
  rw [cur_same, show p + (q - p) = q by omega] at e
  rw [e]
  by_cases hs : q = s.size
  · subst hs
    rw [wds_last s p s.size h (Nat.le_refl _) (Nat.le_refl _), drop_end s (s.size + 1) (by omega)]
    rfl
  · rw [wds_cut s p q h (by omega) (by omega), cur_same]
theorem gap_step (s : ByteArray) (p : Nat) (h : p < s.size) (hn : bt s p = 32 ∨ bt s p = 9) : wds [] ((L s).drop p) = wds [] ((L s).drop (p + 1)) := by
  have e := wds_gap s p h hn
  rw [cur_same, cur_same] at e
  exact e
theorem xhead_cut {s : ByteArray} {w W W1 : World} {v v' : Value} {ls : List ByteArray} {p q : Nat} (e : ls.map L ++ wds [] ((L s).drop p) = wds [] (L s)) (ho : W.ownsRow w.heap.size 9 1 v ls.length (ls.map Value.string)) (hb : Below w.heap.size w W)
    (h : p < q) (hq : q ≤ s.size) (hn : ∀ j, p ≤ j → j < q → bt s j ≠ 32 ∧ bt s j ≠ 9) (he : q = s.size ∨ bt s q = 32 ∨ bt s q = 9)
    (ho' : W1.ownsRow w.heap.size 9 1 v' (ls ++ [s.extract p q]).length ((ls ++ [s.extract p q]).map Value.string)) (hg : W.grownBy W1 v.ownBlock) : XHead s w v' (.int .i64 ((q : Int) + 1)) W1 := by
  refine ⟨q + 1, _, v', rfl, rfl, by omega, ?_, ho', hb.grown hg hb.size fun k hk => (ho.lt k hk).1⟩
  rw [← e, word_step s p q h hq hn he, List.map_append, List.map_cons, List.map_nil, cur_ext, List.append_assoc, List.singleton_append]
theorem words_told {s : ByteArray} {w W : World} {v : Value} {ls : List ByteArray} (e : ls.map L = wds [] (L s)) (ho : W.ownsRow w.heap.size 9 1 v ls.length (ls.map Value.string)) (hb : Below w.heap.size w W) : lines.Told w (wordsS s) (.returned v) W := by
  have e2 : wordsS s = ls := by
    unfold wordsS
    rw [← e, map_BL]
  rw [e2]
  obtain ⟨A, c, rfl, hs, hc⟩ := Strs.of_own ho
  exact ⟨A, c, rfl, hs, hc, hb⟩

set_option maxHeartbeats 2000000 in
theorem words_at (s : ByteArray) (w : World) (hs : s.size < 4294967281) : Calls Tryd.prog 26 #[.string s] w (lines.Told w (wordsS s)) := by
  go_enter Tryd.func26, Tryd.ntmps26
  go_wp2
  go_loopw [3, 4] (fun t i W => XHead s w t i W) (fun _ i _ => s.size + 1 - (intOf i).toNat)
  case atStart => exact ⟨0, [], _, rfl, rfl, by omega, rfl, World.ownsRow_nil _ _ _ _, Below.refl _ _⟩
  case round =>
    obtain ⟨p, ls, v, rfl, rfl, hp, e, ho, hb⟩ := hrel
    have hl := wlen e
    by_cases hlt : p < s.size
    · have hbt := bt_at s p hlt
      by_cases hbk : bt s p = 32 ∨ bt s p = 9
      · have C := Lib.hid (fun W => blank_yes (bt s p) W hbk)
        have E : Hid (ls.map L ++ wds [] ((L s).drop (p + 1)) = wds [] (L s)) := by
          show _ = _
          rw [← gap_step s p hlt hbk]
          exact e
        clear hbk e
        go_wp2_with (go_at_call 32; (with_reducible refine (C.out _).mono ?_); rintro e w' ⟨rfl, rfl⟩)
        go_roundw
        case rel => exact ⟨p + 1, ls, v, rfl, by go_num, by omega, E.out, ho, hb⟩
        case measure => simp [intOf]; omega
      · have C := Lib.hid (fun W => blank_no (bt s p) W (by omega) (by omega))
        have E := Lib.hid e
        have HO := Lib.hid ho
        have HN : Hid (bt s p ≠ 32 ∧ bt s p ≠ 9) := ⟨by omega, by omega⟩
        clear e ho hbk
        go_wp2_with (go_at_call 32; (with_reducible refine (C.out _).mono ?_); rintro e w' ⟨rfl, rfl⟩)
        go_loop [4] (fun i => YHead s p i) (fun i => s.size - (intOf i).toNat)
        case atStart => exact ⟨p, rfl, by omega, by omega, fun j h1 h2 => by omega⟩
        case round =>
          obtain ⟨q, rfl, hpq, hq, hn⟩ := hrel
          by_cases hlq : q < s.size
          · have hbq := bt_at s q hlq
            by_cases hbk : bt s q = 32 ∨ bt s q = 9
            · have C2 := Lib.hid (fun W => blank_yes (bt s q) W hbk)
              have hpq2 : p < q := by
                rcases Nat.lt_or_ge p q with k | k
                · exact k
                · obtain rfl : q = p := by omega
                  have := HN.out
                  omega
              have R := Lib.hid (fun v' W1 ho' hg => xhead_cut (v' := v') (W1 := W1) E.out HO.out hb hpq2 hq hn (.inr hbk) ho' hg)
              clear hn hbk
              go_wp2_with (first
                | (go_at_call 32; (with_reducible refine (C2.out _).mono ?_); rintro e w' ⟨rfl, rfl⟩)
                | (at_builtin; refine app_one rfl _ _ rfl w.heap.size wr v ls _ rfl rfl HO.out (by omega) hb.size ?_; intro v' w1 ho' hg))
              go_roundw
              case rel => exact R.out _ _ ho' hg
              case measure => simp [intOf]; omega
            · have C2 := Lib.hid (fun W => blank_no (bt s q) W (by omega) (by omega))
              have hn2 : Hid (∀ j, p ≤ j → j < q + 1 → bt s j ≠ 32 ∧ bt s j ≠ 9) := by
                intro j h1 h2
                rcases Nat.lt_or_ge j q with k | k
                · exact hn j h1 k
                · obtain rfl : q = j := by omega
                  omega
              clear hn hbk
              go_wp2_with (go_at_call 32; (with_reducible refine (C2.out _).mono ?_); rintro e w' ⟨rfl, rfl⟩)
              go_round
              case rel => exact ⟨q + 1, by go_num, by omega, by omega, hn2.out⟩
              case measure => simp [intOf]; omega
          · obtain rfl : q = s.size := by omega
            have R := Lib.hid (fun v' W1 ho' hg => xhead_cut (v' := v') (W1 := W1) E.out HO.out hb hlt hq hn (.inl rfl) ho' hg)
            clear hn
            go_wp2_with (at_builtin; refine app_one rfl _ _ rfl w.heap.size wr v ls _ rfl rfl HO.out (by omega) hb.size ?_; intro v' w1 ho' hg)
            go_roundw
            case rel => exact R.out _ _ ho' hg
            case measure => simp [intOf]; omega
    · have e2 : ls.map L = wds [] (L s) := by
        rw [← e, drop_end s p (by omega), wds_end0, List.append_nil]
      have R := Lib.hid (words_told e2 ho hb)
      clear e e2 ho
      go_wp2
      go_ret
      exact R.out
theorem words_on {w : World} (W : World) (hb : Below w.heap.size w W) (s : ByteArray) (hs : s.size < 4294967281) : Calls Tryd.prog 26 #[.string s] W (lines.Told W (wordsS s)) := words_at s W hs
end Go.Proofs.YtfnkloecfjppeaaDoor.ref05
