/-
  What the document's own Same, Fold, Split and Words of layer 5 are: the same answers as the plain functions of rows of bytes. Conditions: the texts are no longer than a slice can count; of Same: two slices that read alike.
-/
import Derived.Test.YtnmaffkcfoddgaaRef05
namespace Go.Proofs.Ytnmaffkcfoddgaa.ref05
open Go.ChangeShapes Go.WideShapes Go.ChangeAt Go.RowKit
open lx lines
set_option linter.unusedVariables false

/-! Same -/
def EHead (n : Nat) (w : World) (i : Value) (W : World) : Prop := ∃ k d : Nat, k ≤ n ∧ i = .int .i64 k ∧ W = w.drewN d
set_option maxHeartbeats 1000000 in
theorem same_at (W : World) (l : List ByteArray) (A A' : Option Addr) (c c' : Nat) (hl : l.length < 4294967281) (h : Strs W A l) (h' : Strs W A' l) :
    Calls Try.prog 15 #[.slice A l.length c, .slice A' l.length c'] W fun e w' => e = .returned (.bool true) ∧ Below W.heap.size W w' := by
  go_enter Try.func15, Try.ntmps15
  go_wp2
  go_loopw [5] (fun i w' => EHead l.length W i w') (fun i _ => l.length - (intOf i).toNat)
  case atStart => exact ⟨0, 0, by omega, rfl, rfl⟩
  case round =>
    obtain ⟨k, d, hk, rfl, rfl⟩ := hrel
    by_cases hlt : k < l.length
    · have hne : l ≠ [] := by rintro rfl; simp at hlt
      obtain ⟨b, o, rfl, hb, hc⟩ := h hne
      obtain ⟨b', o', rfl, hb', hc'⟩ := h' hne
      have g := hc k hlt
      have g' := hc' k hlt
      clear h h' hc hc'
      generalize l[k] = x at *
      go_wp2
      go_quiet (fail)
      go_wp2
      go_roundw
      case rel => exact ⟨k + 1, _, by omega, by go_num, rfl⟩
      case measure => simp [intOf]; omega
    · clear h h'
      go_wp2
      go_ret
      exact ⟨rfl, below_drewN (Below.refl _ _) d⟩
theorem same_on {w : World} (W : World) (hb : Below w.heap.size w W) (l : List ByteArray) (A A' : Option Addr) (c c' : Nat) (hl : l.length < 4294967281) (h : Strs W A l) (h' : Strs W A' l) :
    Calls Try.prog 15 #[.slice A l.length c, .slice A' l.length c'] W fun e w' => e = .returned (.bool true) ∧ Below w.heap.size w w' :=
  (same_at W l A A' c c' hl h h').mono fun e w' ⟨he, hw⟩ => ⟨he, hb.trans (hw.mono hb.size)⟩

/-! Fold -/
theorem fld_snoc (s : ByteArray) (k : Nat) (h : k < s.size) : ∃ c : UInt8, (c.toNat = if 65 ≤ bt s k ∧ bt s k ≤ 90 then bt s k + 32 else bt s k) ∧ ((L s).take (k + 1)).map fld = ((L s).take k).map fld ++ [c] := by
  obtain ⟨c, h1, _, h3⟩ := drop_at s k h
  refine ⟨fld c, by rw [fld_nat, h1], ?_⟩
  rw [List.take_add_one, h3]
  simp
def GHead (s : ByteArray) (w : World) (t i : Value) (W : World) : Prop :=
  ∃ (k : Nat) (v : Value) (l : List UInt8), k ≤ s.size ∧ v = t ∧ i = .int .i64 k ∧ l = ((L s).take k).map fld ∧ W.ownsRow w.heap.size 5 1 v l.length (bl l) ∧ Below w.heap.size w W
theorem ghead_step {s : ByteArray} {w W W1 : World} {k : Nat} {v v' : Value} {l : List UInt8} {c : UInt8} (hk : k < s.size) (ho : W.ownsRow w.heap.size 5 1 v l.length (bl l)) (hb : Below w.heap.size w W) (hl : ((L s).take (k + 1)).map fld = l ++ [c])
    (ho' : W1.ownsRow w.heap.size 5 1 v' (l ++ [c]).length (bl (l ++ [c]))) (hg : W.grownBy W1 v.ownBlock) : GHead s w v' (.int .i64 ((k : Int) + 1)) W1 :=
  ⟨k + 1, v', l ++ [c], hk, rfl, rfl, hl.symm, ho', hb.grown hg hb.size fun k hk => (ho.lt k hk).1⟩
theorem fold_conv {s : ByteArray} {w W : World} {v : Value} (ho : W.ownsRow w.heap.size 5 1 v ((L s).map fld).length (bl ((L s).map fld))) : (convert 34 9 v).run Try.prog W = .ok (.string (foldS s)) W := by
  have h0 := ho
  rcases ho.2 with ⟨rfl, hn⟩ | ⟨g, cap, cs, rfl, hb, hh, hnc, _⟩
  · rw [run_convert_bytes_nil W 34 5 Try.underlying34 Try.underlying5 0 0 9 Try.underlying9]
    have : (L s).map fld = [] := List.eq_nil_of_length_eq_zero hn
    unfold foldS
    rw [this]
    rfl
  · refine from_bytes W (foldS s) g _ cap (by unfold foldS; rw [B_size]) fun j hj => ?_
    have hj2 : j < ((L s).map fld).length := by unfold foldS at hj; rw [B_size] at hj; exact hj
    rw [h0.cellAt j (by omega)]
    unfold bl bt foldS
    rw [L_B, List.getElem?_map, List.getElem?_eq_getElem hj2, List.getD_eq_getElem?_getD, List.getElem?_eq_getElem hj2]
    rfl
set_option maxHeartbeats 1000000 in
theorem fold_at (s : ByteArray) (w : World) (hs : s.size < 4294967281) : Calls Try.prog 21 #[.string s] w fun e w' => e = .returned (.string (foldS s)) ∧ Below w.heap.size w w' := by
  go_enter Try.func21, Try.ntmps21
  go_wp2
  go_loopw [3, 4] (fun t i W => GHead s w t i W) (fun _ i _ => s.size - (intOf i).toNat)
  case atStart => exact ⟨0, _, [], by omega, rfl, rfl, rfl, World.ownsRow_nil _ _ _ _, Below.refl _ _⟩
  case round =>
    obtain ⟨k, v, l, hk, rfl, rfl, el, ho, hb⟩ := hrel
    have ll : l.length ≤ s.size := by
      rw [el, List.length_map, List.length_take]
      omega
    have HO := Lib.hid ho
    by_cases hlt : k < s.size
    · have hbt := bt_at s k hlt
      have bd := bt_lt s k
      obtain ⟨c, hc, hsn⟩ := fld_snoc s k hlt
      rw [← el] at hsn
      have R := Lib.hid (fun v' W1 ho' hg => ghead_step (v' := v') (W1 := W1) hlt ho hb hsn ho' hg)
      by_cases hd : 65 ≤ bt s k ∧ bt s k ≤ 90
      · rw [if_pos hd] at hc
        obtain ⟨d1, d2⟩ := hd
        have HZ : Hid ((bt s k : Int) + 32 = (c.toNat : Nat)) := by show _ = _; rw [hc]; rfl
        clear hc hsn ho el
        go_wp2_with (at_builtin; refine app_byte rfl _ _ rfl w.heap.size wr v l c ((bt s k : Int) + 32) HZ.out rfl rfl HO.out (by omega) hb.size ?_; intro v' w1 ho' hg)
        go_roundw
        case rel => exact R.out _ _ ho' hg
        case measure => simp [intOf]; omega
      · rw [if_neg hd] at hc
        have HZ : Hid ((bt s k : Int) = (c.toNat : Nat)) := by show _ = _; rw [hc]
        clear hc hsn ho el
        by_cases d1 : 65 ≤ bt s k
        · have d2 : 90 < bt s k := by omega
          clear hd
          go_wp2_with (at_builtin; refine app_byte rfl _ _ rfl w.heap.size wr v l c ((bt s k : Int)) HZ.out rfl rfl HO.out (by omega) hb.size ?_; intro v' w1 ho' hg)
          go_roundw
          case rel => exact R.out _ _ ho' hg
          case measure => simp [intOf]; omega
        · have d2 : bt s k < 65 := by omega
          clear hd
          go_wp2_with (at_builtin; refine app_byte rfl _ _ rfl w.heap.size wr v l c ((bt s k : Int)) HZ.out rfl rfl HO.out (by omega) hb.size ?_; intro v' w1 ho' hg)
          go_roundw
          case rel => exact R.out _ _ ho' hg
          case measure => simp [intOf]; omega
    · have e2 : l = (L s).map fld := by rw [el, List.take_of_length_le (by rw [L_len]; omega)]
      rw [e2] at ho
      have hcv := fold_conv ho
      clear ho e2 el HO
      go_wp2
      go_ret
      exact ⟨rfl, hb⟩
theorem fold_on {w : World} (W : World) (hb : Below w.heap.size w W) (s : ByteArray) (hs : s.size < 4294967281) : Calls Try.prog 21 #[.string s] W fun e w' => e = .returned (.string (foldS s)) ∧ Below w.heap.size w w' :=
  (fold_at s W hs).mono fun e w' ⟨he, hw⟩ => ⟨he, hb.trans (hw.mono hb.size)⟩

/-! Split -/
def PHead (s : ByteArray) (w : World) (t f i : Value) (W : World) : Prop :=
  ∃ (a p : Nat) (ls : List ByteArray) (v : Value), v = t ∧ f = .int .i64 a ∧ i = .int .i64 p ∧ a ≤ p ∧ p ≤ s.size ∧ ls.map L ++ spl (cur s a p) ((L s).drop p) = spl [] (L s) ∧ W.ownsRow w.heap.size 9 1 v ls.length (ls.map Value.string) ∧ Below w.heap.size w W
theorem plen {s : ByteArray} {ls : List ByteArray} {r : List (List UInt8)} (e : ls.map L ++ r = spl [] (L s)) : ls.length ≤ s.size := by
  have h := spl_len (L s) []
  rw [← e] at h
  have : (L s).length = s.size := rfl
  simp at h
  omega
theorem phead_cut {s : ByteArray} {w W W1 : World} {v v' : Value} {ls : List ByteArray} {a p : Nat} (e : ls.map L ++ spl (cur s a p) ((L s).drop p) = spl [] (L s)) (ho : W.ownsRow w.heap.size 9 1 v ls.length (ls.map Value.string)) (hb : Below w.heap.size w W)
    (hp : p < s.size) (h10 : bt s p = 10) (ho' : W1.ownsRow w.heap.size 9 1 v' (ls ++ [B (trim (L (s.extract a p)))]).length ((ls ++ [B (trim (L (s.extract a p)))]).map Value.string)) (hg : W.grownBy W1 v.ownBlock) :
    PHead s w v' (.int .i64 ((p : Int) + 1)) (.int .i64 ((p : Int) + 1)) W1 := by
  refine ⟨p + 1, p + 1, _, v', rfl, rfl, rfl, by omega, by omega, ?_, ho', hb.grown hg hb.size fun k hk => (ho.lt k hk).1⟩
  rw [← e, spl_cut s a p hp h10, List.map_append, List.map_cons, List.map_nil, L_B, cur_ext, List.append_assoc, List.singleton_append]
theorem split_told {s : ByteArray} {w W : World} {v : Value} {ls : List ByteArray} (e : ls.map L = spl [] (L s)) (ho : W.ownsRow w.heap.size 9 1 v ls.length (ls.map Value.string)) (hb : Below w.heap.size w W) : lines.Told w (splitS s) (.returned v) W := by
  have e2 : splitS s = ls := by
    unfold splitS
    rw [← e, map_BL]
  rw [e2]
  obtain ⟨A, c, rfl, hs, hc⟩ := Strs.of_own ho
  exact ⟨A, c, rfl, hs, hc, hb⟩
theorem split_last {s : ByteArray} {w W W1 : World} {v v' : Value} {ls : List ByteArray} {a : Nat} (e : ls.map L ++ spl (cur s a s.size) ((L s).drop s.size) = spl [] (L s)) (ho : W.ownsRow w.heap.size 9 1 v ls.length (ls.map Value.string)) (hb : Below w.heap.size w W)
    (ha : a < s.size) (ho' : W1.ownsRow w.heap.size 9 1 v' (ls ++ [B (trim (L (s.extract a s.size)))]).length ((ls ++ [B (trim (L (s.extract a s.size)))]).map Value.string)) (hg : W.grownBy W1 v.ownBlock) : lines.Told w (splitS s) (.returned v') W1 := by
  refine split_told ?_ ho' (hb.grown hg hb.size fun k hk => (ho.lt k hk).1)
  rw [← e, spl_last s a s.size ha (Nat.le_refl _) (Nat.le_refl _), List.map_append, List.map_cons, List.map_nil, L_B, cur_ext]
set_option maxHeartbeats 1000000 in
theorem split_at (s : ByteArray) (w : World) (hs : s.size < 4294967281) : Calls Try.prog 17 #[.string s] w (lines.Told w (splitS s)) := by
  go_enter Try.func17, Try.ntmps17
  go_wp2
  go_loopw [3, 4, 5] (fun t f i W => PHead s w t f i W) (fun _ _ i _ => s.size - (intOf i).toNat)
  case atStart => exact ⟨0, 0, [], _, rfl, rfl, rfl, by omega, by omega, rfl, World.ownsRow_nil _ _ _ _, Below.refl _ _⟩
  case round =>
    obtain ⟨a, p, ls, v, rfl, rfl, rfl, ha, hp, e, ho, hb⟩ := hrel
    have hl := plen e
    have HO := Lib.hid ho
    by_cases hlt : p < s.size
    · have hbt := bt_at s p hlt
      by_cases h10 : bt s p = 10
      · have R := Lib.hid (fun v' W1 ho' hg => phead_cut (v' := v') (W1 := W1) e ho hb hlt h10 ho' hg)
        have TR := Lib.hid (fun W => trimmed_is (s.extract a p) W (by simp; omega))
        clear e ho
        go_wp2_with (first
          | (go_at_call 26; (with_reducible refine (TR.out _).mono ?_); rintro e w' ⟨rfl, rfl⟩)
          | (at_builtin; refine app_one rfl _ _ rfl w.heap.size wr v ls _ rfl rfl HO.out (by omega) hb.size ?_; intro v' w1 ho' hg))
        go_roundw
        case rel => exact R.out _ _ ho' hg
        case measure => simp [intOf]; omega
      · have t1 : ((bt s p : Int) == 10) = false := by simp; omega
        have E := Lib.hid e
        have G := Lib.hid (spl_go s a p ha hlt h10)
        clear e h10
        go_wp2
        go_roundw
        case rel => exact ⟨a, p + 1, ls, v, rfl, rfl, by go_num, by omega, by omega, by rw [← G.out]; exact E.out, ho, hb⟩
        case measure => simp [intOf]; omega
    · obtain rfl : s.size = p := by omega
      by_cases hfp : a < s.size
      · have R := Lib.hid (fun v' W1 ho' hg => split_last (v' := v') (W1 := W1) e ho hb hfp ho' hg)
        have TR := Lib.hid (fun W => trimmed_is (s.extract a s.size) W (by simp; omega))
        clear e ho
        go_wp2_with (first
          | (go_at_call 26; (with_reducible refine (TR.out _).mono ?_); rintro e w' ⟨rfl, rfl⟩)
          | (at_builtin; refine app_one rfl _ _ rfl w.heap.size wr v ls _ rfl rfl HO.out (by omega) hb.size ?_; intro v' w1 ho' hg))
        go_ret
        exact R.out _ _ ho' hg
      · obtain rfl : a = s.size := by omega
        rw [spl_none s s.size (Nat.le_refl _), List.append_nil] at e
        have R := Lib.hid (split_told e ho hb)
        clear e ho
        go_wp2
        go_ret
        exact R.out
theorem split_on {w : World} (W : World) (hb : Below w.heap.size w W) (s : ByteArray) (hs : s.size < 4294967281) : Calls Try.prog 17 #[.string s] W (lines.Told W (splitS s)) := split_at s W hs
end Go.Proofs.Ytnmaffkcfoddgaa.ref05
