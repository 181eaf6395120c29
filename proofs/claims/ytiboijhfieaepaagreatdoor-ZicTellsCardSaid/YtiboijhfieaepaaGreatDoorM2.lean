/-
  What the document's own trimmed, blank, Number, Cut, Fold and Same of layer 5 are: the same answers as the plain functions of rows of bytes. Conditions: the texts are no longer than an int can tell; of Same: two slices that read alike.
-/
import Derived.Test.YtiboijhfieaepaaGreatDoorLinesSplit
import Derived.Test.YtiboijhfieaepaaGreatDoorLinesCur
import Derived.Test.YtiboijhfieaepaaGreatDoorLinesNumber
import Derived.Test.YtiboijhfieaepaaGreatDoorLinesFold
import Derived.Deep.QuietTactic
import Derived.BigQuiet
import Derived.Test.YtiboijhfieaepaaGreatDoorLinesWords
namespace Go.Proofs.YtiboijhfieaepaaGreatDoor.ref05
open Go.ChangeShapes Go.WideShapes Go.ChangeAt Go.RowKit
open lx lines
set_option linter.unusedVariables false
set_option maxRecDepth 100000

/-! trimmed, blank -/
theorem trim_yes {s : ByteArray} (h : 0 < s.size) (h13 : bt s (s.size - 1) = 13) : s.extract 0 (s.size - 1) = B (trim (L s)) := by
  obtain ⟨c, e1, e2, _⟩ := drop_at s (s.size - 1) (by omega)
  obtain rfl : c = 13 := UInt8.toNat_inj.1 (by rw [e1, h13]; rfl)
  rw [drop_end s (s.size - 1 + 1) (by omega)] at e2
  have e3 : L s = (L s).take (s.size - 1) ++ [13] := by rw [← e2, List.take_append_drop]
  rw [ext_B, List.drop_zero, Nat.sub_zero]
  conv => rhs; rw [e3]
  rw [trim_off]
theorem trim_no {s : ByteArray} (h : s.size = 0 ∨ bt s (s.size - 1) ≠ 13) : s = B (trim (L s)) := by
  rw [trim_keep, B_L]
  intro m e
  have z : (L s).length = s.size := rfl
  have hl := congrArg List.length e
  simp at hl
  rcases h with h | h
  · omega
  · apply h
    unfold bt
    rw [e, List.getD_eq_getElem?_getD, List.getElem?_append_right (by omega), show s.size - 1 - m.length = 0 by omega]
    rfl
theorem ret_s {a b : ByteArray} (h : a = b) : Ending.returned (.string a) = .returned (.string b) := by rw [h]
theorem trimmed_is (s : ByteArray) (W : World) (hs : s.size < 4294967281) : Calls Tryz.prog 48 #[.string s] W fun e w' => e = .returned (.string (B (trim (L s)))) ∧ W = w' := by
  by_cases h0 : s.size = 0
  · have E := Lib.hid (trim_no (s := s) (.inl h0))
    generalize B (trim (L s)) = X at *
    obtain rfl := tl_nil h0
    clear h0 hs
    go_enter Tryz.func48, Tryz.ntmps48
    go_wp2
    go_ret
    exact ⟨ret_s E.out, rfl⟩
  · have hp : 0 < s.size := by omega
    have hb := bt_at s (s.size - 1) (by omega)
    by_cases h : bt s (s.size - 1) = 13
    · have E := Lib.hid (trim_yes hp h)
      generalize B (trim (L s)) = X at *
      go_enter Tryz.func48, Tryz.ntmps48
      go_wp2
      go_ret
      exact ⟨ret_s E.out, rfl⟩
    · have E := Lib.hid (trim_no (s := s) (.inr h))
      have t1 : ((bt s (s.size - 1) : Int) == 13) = false := by simp; omega
      generalize B (trim (L s)) = X at *
      clear h
      go_enter Tryz.func48, Tryz.ntmps48
      go_wp2
      go_ret
      exact ⟨ret_s E.out, rfl⟩
theorem blank_yes (b : Nat) (W : World) (h : b = 32 ∨ b = 9) : Calls Tryz.prog 94 #[.int .u8 (b : Nat)] W fun e w' => e = .returned (.bool true) ∧ W = w' := by
  rcases h with rfl | rfl
  · go_enter Tryz.func94, Tryz.ntmps94
    go_wp2
    go_ret
    exact ⟨rfl, rfl⟩
  · go_enter Tryz.func94, Tryz.ntmps94
    go_wp2
    go_ret
    exact ⟨rfl, rfl⟩
theorem blank_no (b : Nat) (W : World) (h1 : b ≠ 32) (h2 : b ≠ 9) : Calls Tryz.prog 94 #[.int .u8 (b : Nat)] W fun e w' => e = .returned (.bool false) ∧ W = w' := by
  have t1 : ((b : Int) == 32) = false := by simp; omega
  have t2 : ((b : Int) == 9) = false := by simp; omega
  clear h1 h2
  go_enter Tryz.func94, Tryz.ntmps94
  go_wp2
  go_ret
  exact ⟨rfl, rfl⟩

/-! Number -/
def RHead (s : ByteArray) (t i : Value) : Prop :=
  ∃ (p : Nat) (n : Int), t = .int .i64 n ∧ i = .int .i64 p ∧ p ≤ s.size ∧ 0 ≤ n ∧ n ≤ 9223372036854775807 ∧ nmb n ((L s).drop p) = nm (L s)
set_option maxHeartbeats 1000000 in
theorem number_at (s : ByteArray) (w : World) (hs : s.size < 4294967281) : Calls Tryz.prog 40 #[.string s] w (NTold s w) := by
  by_cases h0 : s.size = 0
  · obtain rfl := tl_nil h0
    have R := Lib.hid (ntold_no (s := ⟨#[]⟩) (w := w) (W := w) rfl (Below.refl _ _))
    clear h0 hs
    go_enter Tryz.func40, Tryz.ntmps40
    go_wp2
    refine wp_loop_rounds 1 ?_
    rw [rounds_succ]
    go_wp2
    go_ret2
    exact R.out
  have t0 := tl_ne (show 0 < s.size by omega)
  have N0 := Lib.hid (nm_of s (by omega))
  go_enter Tryz.func40, Tryz.ntmps40
  go_wp2
  go_loop [4, 5] (fun t i => RHead s t i) (fun _ i => s.size - (intOf i).toNat)
  case atStart => exact ⟨0, 0, rfl, rfl, by omega, by omega, by omega, N0.out.symm⟩
  case round =>
    obtain ⟨p, n, rfl, rfl, hp, hn0, hn1, e⟩ := hrel
    by_cases hlt : p < s.size
    · have hb := bt_at s p hlt
      have bd := bt_lt s p
      by_cases hd : 48 ≤ bt s p ∧ bt s p ≤ 57
      · obtain ⟨d1, d2⟩ := hd
        by_cases hq : 10 * n + ((bt s p : Int) - 48) ≤ 9223372036854775807
        · have E2 := Lib.hid ((nmb_go s p n hlt d1 d2 hq).symm.trans e)
          have q1 : ¬ ((9223372036854775807 - ((bt s p : Int) - 48)) / 10 < n) := by omega
          clear e
          go_wp2
          go_round
          case rel => exact ⟨p + 1, _, rfl, by go_num, by omega, by omega, by omega, E2.out⟩
          case measure => simp [intOf]; omega
        · have R := Lib.hid (ntold_no (w := w) (W := w) (e.symm.trans (nmb_stop s p n hlt (by omega))) (Below.refl _ _))
          have q1 : ((9223372036854775807 - ((bt s p : Int) - 48)) / 10 < n) := by omega
          clear e
          go_wp2
          go_ret2
          exact R.out
      · have R := Lib.hid (ntold_no (w := w) (W := w) (e.symm.trans (nmb_stop s p n hlt (by omega))) (Below.refl _ _))
        clear e
        by_cases d1 : bt s p < 48
        · clear hd
          go_wp2
          go_ret2
          exact R.out
        · have d2 : 57 < bt s p := by omega
          clear hd
          go_wp2
          go_ret2
          exact R.out
    · have R := Lib.hid (ntold_yes (w := w) (W := w) (e.symm.trans (nmb_done s p n (by omega))) (Below.refl _ _))
      clear e
      go_wp2
      go_ret2
      exact R.out
theorem number_on {w : World} (W : World) (hb : Below w.heap.size w W) (s : ByteArray) (hs : s.size < 4294967281) : Calls Tryz.prog 40 #[.string s] W fun e w' => e = .returned (.tuple #[.int .i64 (nmI (L s)), .bool (nmT (L s))]) ∧ Below w.heap.size w w' :=
  (number_at s W hs).mono fun e w' ⟨he, hw⟩ => ⟨he, hb.trans (hw.mono hb.size)⟩

/-! Cut -/
def CHead (m : Nat) (i : Value) : Prop := ∃ k : Nat, k ≤ m ∧ i = .int .i64 k
set_option maxHeartbeats 1000000 in
theorem cut_hit {w : World} (W : World) (hb : Below w.heap.size w W) (s t : ByteArray) (i : Nat) (hs : s.size < 4294967281) (h : Hit s t i) :
    Calls Tryz.prog 39 #[.string s, .string t] W fun e w' => e = .returned (.tuple #[.string (s.extract 0 i), .string (s.extract (i + t.size) s.size), .bool true]) ∧ Below w.heap.size w w' := by
  have t0 := tl_ne h.1
  have z := h.2.1
  go_enter Tryz.func39, Tryz.ntmps39
  go_wp2
  go_loop [7] (fun k => CHead i k) (fun k => s.size - (intOf k).toNat)
  case atStart => exact ⟨0, by omega, rfl⟩
  case round =>
    obtain ⟨k, hk, rfl⟩ := hrel
    have hroom : k + t.size ≤ s.size := by omega
    have oc := beq_s (s.extract k (k + t.size)) t
    rw [← occ_ext s t k hroom] at oc
    have hsl := fun W => sl_run W s k (k + t.size) ((k : Int) + (t.size : Int)) rfl (by omega) hroom
    by_cases hlt : k < i
    · rw [h.2.2.2 k hlt] at oc
      have z0 := h.1
      clear h
      go_wp2
      go_round
      case rel => exact ⟨k + 1, by omega, by go_num⟩
      case measure => simp [intOf]; omega
    · obtain rfl : i = k := by omega
      rw [h.2.2.1] at oc
      clear h
      have hs2 := fun W => sl_from W s (i + t.size) ((i : Int) + (t.size : Int)) rfl hroom
      go_wp2
      have hw : IntKind.i64.wrap ((i : Int) + (t.size : Int)) = (i : Int) + (t.size : Int) := IntWalk.i64_in _ (by omega)
      go_quiet (fail)
      go_wp2
      go_ret3
      exact ⟨rfl, below_drewN hb _⟩
set_option maxHeartbeats 1000000 in
theorem cut_miss {w : World} (W : World) (hb : Below w.heap.size w W) (s t : ByteArray) (hs : s.size < 4294967281) (ht : t.size < 4294967281) (h : Miss s t) :
    Calls Tryz.prog 39 #[.string s, .string t] W fun e w' => e = .returned (.tuple #[.string s, .string ⟨#[]⟩, .bool false]) ∧ Below w.heap.size w w' := by
  by_cases h0 : t.size = 0
  · obtain rfl := tl_nil h0
    clear h h0
    go_enter Tryz.func39, Tryz.ntmps39
    go_wp2
    refine wp_loop_rounds 1 ?_
    rw [rounds_succ]
    go_wp2
    go_ret3
    exact ⟨rfl, hb⟩
  · have t0 := tl_ne (show 0 < t.size by omega)
    go_enter Tryz.func39, Tryz.ntmps39
    go_wp2
    go_loop [7] (fun k => CHead (s.size + 1) k) (fun k => s.size + 1 - (intOf k).toNat)
    case atStart => exact ⟨0, by omega, rfl⟩
    case round =>
      obtain ⟨k, hk, rfl⟩ := hrel
      by_cases hroom : k + t.size ≤ s.size
      · have oc := beq_s (s.extract k (k + t.size)) t
        rw [← occ_ext s t k hroom] at oc
        rw [(by rcases h with h | h; exact absurd h h0; exact h k (by omega) : Lib.occAt (L s) (L t) k = false)] at oc
        have hsl := fun W => sl_run W s k (k + t.size) ((k : Int) + (t.size : Int)) rfl (by omega) hroom
        clear h
        go_wp2
        go_round
        case rel => exact ⟨k + 1, by omega, by go_num⟩
        case measure => simp [intOf]; omega
      · clear h
        have q1 : ¬ ((k : Int) + (t.size : Int) ≤ (s.size : Int)) := by omega
        go_wp2
        go_ret3
        exact ⟨rfl, hb⟩
end Go.Proofs.YtiboijhfieaepaaGreatDoor.ref05

/-
  What the document's own Same, Fold, Split and Words of layer 5 are: the same answers as the plain functions of rows of bytes. Conditions: the texts are no longer than a slice can count; of Same: two slices that read alike.
-/
namespace Go.Proofs.YtiboijhfieaepaaGreatDoor.ref05
open Go.ChangeShapes Go.WideShapes Go.ChangeAt Go.RowKit
open lx lines
set_option linter.unusedVariables false
set_option maxRecDepth 100000

/-! Same -/
def EHead (n : Nat) (w : World) (i : Value) (W : World) : Prop := ∃ k d : Nat, k ≤ n ∧ i = .int .i64 k ∧ W = w.drewN d
/-! Fold -/
theorem fld_snoc (s : ByteArray) (k : Nat) (h : k < s.size) : ∃ c : UInt8, (c.toNat = if 65 ≤ bt s k ∧ bt s k ≤ 90 then bt s k + 32 else bt s k) ∧ ((L s).take (k + 1)).map fld = ((L s).take k).map fld ++ [c] := by
  obtain ⟨c, h1, _, h3⟩ := drop_at s k h
  refine ⟨fld c, by rw [fld_nat, h1], ?_⟩
  rw [List.take_add_one, h3]
  simp
def GHead (s : ByteArray) (w : World) (t i : Value) (W : World) : Prop :=
  ∃ (k : Nat) (v : Value) (l : List UInt8), k ≤ s.size ∧ v = t ∧ i = .int .i64 k ∧ l = ((L s).take k).map fld ∧ W.ownsRow w.heap.size 5 1 v l.length (bl l) ∧ Below w.heap.size w W
theorem ghead_step {s : ByteArray} {w W W1 : World} {k : Nat} {v v' : Value} {l : List UInt8} {c : UInt8} (hk : k < s.size) (ho : W.ownsRow w.heap.size 5 1 v l.length (bl l)) (hb : Below w.heap.size w W) (hl : ((L s).take (k + 1)).map fld = l ++ [c])
    (ho' : W1.ownsRow w.heap.size 5 1 v' (l ++ [c]).length (bl (l ++ [c]))) (hg : W.grownBy W1 v.ownBlock) : GHead s w v' (.int .i64 ((k : Int) + 1)) W1 :=
  ⟨k + 1, v', l ++ [c], hk, rfl, rfl, hl.symm, ho', hb.grown hg hb.size fun k hk => (ho.lt k hk).1⟩
theorem fold_conv {s : ByteArray} {w W : World} {v : Value} (ho : W.ownsRow w.heap.size 5 1 v ((L s).map fld).length (bl ((L s).map fld))) : (convert 57 9 v).run Tryz.prog W = .ok (.string (foldS s)) W := by
  have h0 := ho
  rcases ho.2 with ⟨rfl, hn⟩ | ⟨g, cap, cs, rfl, hb, hh, hnc, _⟩
  · rw [run_convert_bytes_nil W 57 5 Tryz.underlying57 Tryz.underlying5 0 0 9 Tryz.underlying9]
    have : (L s).map fld = [] := List.eq_nil_of_length_eq_zero hn
    unfold foldS
    rw [this]
    rfl
  · refine from_bytes W (foldS s) g _ cap (by unfold foldS; rw [B_size]) fun j hj => ?_
    have hj2 : j < ((L s).map fld).length := by unfold foldS at hj; rw [B_size] at hj; exact hj
    rw [h0.cellAt j (by omega)]
    unfold bl bt foldS
    rw [L_B, List.getElem?_map, List.getElem?_eq_getElem hj2, List.getD_eq_getElem?_getD, List.getElem?_eq_getElem hj2]
    rfl
set_option maxHeartbeats 1000000 in
theorem fold_at (s : ByteArray) (w : World) (hs : s.size < 4294967281) : Calls Tryz.prog 34 #[.string s] w fun e w' => e = .returned (.string (foldS s)) ∧ Below w.heap.size w w' := by
  go_enter Tryz.func34, Tryz.ntmps34
  go_wp2
  go_loopw [3, 4] (fun t i W => GHead s w t i W) (fun _ i _ => s.size - (intOf i).toNat)
  case atStart => exact ⟨0, _, [], by omega, rfl, rfl, rfl, World.ownsRow_nil _ _ _ _, Below.refl _ _⟩
  case round =>
    obtain ⟨k, v, l, hk, rfl, rfl, el, ho, hb⟩ := hrel
    have ll : l.length ≤ s.size := by
      rw [el, List.length_map, List.length_take]
      omega
    have HO := Lib.hid ho
    by_cases hlt : k < s.size
    · have hbt := bt_at s k hlt
      have bd := bt_lt s k
      obtain ⟨c, hc, hsn⟩ := fld_snoc s k hlt
      rw [← el] at hsn
      have R := Lib.hid (fun v' W1 ho' hg => ghead_step (v' := v') (W1 := W1) hlt ho hb hsn ho' hg)
      by_cases hd : 65 ≤ bt s k ∧ bt s k ≤ 90
      · rw [if_pos hd] at hc
        obtain ⟨d1, d2⟩ := hd
        have HZ : Hid ((bt s k : Int) + 32 = (c.toNat : Nat)) := by show _ = _; rw [hc]; rfl
        clear hc hsn ho el
        go_wp2_with (at_builtin; refine app_byte rfl _ _ rfl w.heap.size wr v l c ((bt s k : Int) + 32) HZ.out rfl rfl HO.out (by omega) hb.size ?_; intro v' w1 ho' hg)
        go_roundw
        case rel => exact R.out _ _ ho' hg
        case measure => simp [intOf]; omega
      · rw [if_neg hd] at hc
        have HZ : Hid ((bt s k : Int) = (c.toNat : Nat)) := by show _ = _; rw [hc]
        clear hc hsn ho el
        by_cases d1 : 65 ≤ bt s k
        · have d2 : 90 < bt s k := by omega
          clear hd
          go_wp2_with (at_builtin; refine app_byte rfl _ _ rfl w.heap.size wr v l c ((bt s k : Int)) HZ.out rfl rfl HO.out (by omega) hb.size ?_; intro v' w1 ho' hg)
          go_roundw
          case rel => exact R.out _ _ ho' hg
          case measure => simp [intOf]; omega
        · have d2 : bt s k < 65 := by omega
          clear hd
          go_wp2_with (at_builtin; refine app_byte rfl _ _ rfl w.heap.size wr v l c ((bt s k : Int)) HZ.out rfl rfl HO.out (by omega) hb.size ?_; intro v' w1 ho' hg)
          go_roundw
          case rel => exact R.out _ _ ho' hg
          case measure => simp [intOf]; omega
    · have e2 : l = (L s).map fld := by rw [el, List.take_of_length_le (by rw [L_len]; omega)]
      rw [e2] at ho
      have hcv := fold_conv ho
      clear ho e2 el HO
      go_wp2
      go_ret
      exact ⟨rfl, hb⟩
theorem fold_on {w : World} (W : World) (hb : Below w.heap.size w W) (s : ByteArray) (hs : s.size < 4294967281) : Calls Tryz.prog 34 #[.string s] W fun e w' => e = .returned (.string (foldS s)) ∧ Below w.heap.size w w' :=
  (fold_at s W hs).mono fun e w' ⟨he, hw⟩ => ⟨he, hb.trans (hw.mono hb.size)⟩

/-! Split -/
def PHead (s : ByteArray) (w : World) (t f i : Value) (W : World) : Prop :=
  ∃ (a p : Nat) (ls : List ByteArray) (v : Value), v = t ∧ f = .int .i64 a ∧ i = .int .i64 p ∧ a ≤ p ∧ p ≤ s.size ∧ ls.map L ++ spl (cur s a p) ((L s).drop p) = spl [] (L s) ∧ W.ownsRow w.heap.size 9 1 v ls.length (ls.map Value.string) ∧ Below w.heap.size w W
theorem plen {s : ByteArray} {ls : List ByteArray} {r : List (List UInt8)} (e : ls.map L ++ r = spl [] (L s)) : ls.length ≤ s.size := by
  have h := spl_len (L s) []
  rw [← e] at h
  have : (L s).length = s.size := rfl
  simp at h
  omega
theorem phead_cut {s : ByteArray} {w W W1 : World} {v v' : Value} {ls : List ByteArray} {a p : Nat} (e : ls.map L ++ spl (cur s a p) ((L s).drop p) = spl [] (L s)) (ho : W.ownsRow w.heap.size 9 1 v ls.length (ls.map Value.string)) (hb : Below w.heap.size w W)
    (hp : p < s.size) (h10 : bt s p = 10) (ho' : W1.ownsRow w.heap.size 9 1 v' (ls ++ [B (trim (L (s.extract a p)))]).length ((ls ++ [B (trim (L (s.extract a p)))]).map Value.string)) (hg : W.grownBy W1 v.ownBlock) :
    PHead s w v' (.int .i64 ((p : Int) + 1)) (.int .i64 ((p : Int) + 1)) W1 := by
  refine ⟨p + 1, p + 1, _, v', rfl, rfl, rfl, by omega, by omega, ?_, ho', hb.grown hg hb.size fun k hk => (ho.lt k hk).1⟩
  rw [← e, spl_cut s a p hp h10, List.map_append, List.map_cons, List.map_nil, L_B, cur_ext, List.append_assoc, List.singleton_append]
theorem split_told {s : ByteArray} {w W : World} {v : Value} {ls : List ByteArray} (e : ls.map L = spl [] (L s)) (ho : W.ownsRow w.heap.size 9 1 v ls.length (ls.map Value.string)) (hb : Below w.heap.size w W) : lines.Told w (splitS s) (.returned v) W := by
  have e2 : splitS s = ls := by
    unfold splitS
    rw [← e, map_BL]
  rw [e2]
  obtain ⟨A, c, rfl, hs, hc⟩ := Strs.of_own ho
  exact ⟨A, c, rfl, hs, ⟨hc, fun b o e => (ho.lt b (by rw [e]; rfl)).1⟩, hb⟩
theorem split_last {s : ByteArray} {w W W1 : World} {v v' : Value} {ls : List ByteArray} {a : Nat} (e : ls.map L ++ spl (cur s a s.size) ((L s).drop s.size) = spl [] (L s)) (ho : W.ownsRow w.heap.size 9 1 v ls.length (ls.map Value.string)) (hb : Below w.heap.size w W)
    (ha : a < s.size) (ho' : W1.ownsRow w.heap.size 9 1 v' (ls ++ [B (trim (L (s.extract a s.size)))]).length ((ls ++ [B (trim (L (s.extract a s.size)))]).map Value.string)) (hg : W.grownBy W1 v.ownBlock) : lines.Told w (splitS s) (.returned v') W1 := by
  refine split_told ?_ ho' (hb.grown hg hb.size fun k hk => (ho.lt k hk).1)
  rw [← e, spl_last s a s.size ha (Nat.le_refl _) (Nat.le_refl _), List.map_append, List.map_cons, List.map_nil, L_B, cur_ext]
set_option maxHeartbeats 1000000 in
theorem split_at (s : ByteArray) (w : World) (hs : s.size < 4294967281) : Calls Tryz.prog 22 #[.string s] w (lines.Told w (splitS s)) := by
  go_enter Tryz.func22, Tryz.ntmps22
  go_wp2
  go_loopw [3, 4, 5] (fun t f i W => PHead s w t f i W) (fun _ _ i _ => s.size - (intOf i).toNat)
  case atStart => exact ⟨0, 0, [], _, rfl, rfl, rfl, by omega, by omega, rfl, World.ownsRow_nil _ _ _ _, Below.refl _ _⟩
  case round =>
    obtain ⟨a, p, ls, v, rfl, rfl, rfl, ha, hp, e, ho, hb⟩ := hrel
    have hl := plen e
    have HO := Lib.hid ho
    by_cases hlt : p < s.size
    · have hbt := bt_at s p hlt
      by_cases h10 : bt s p = 10
      · have R := Lib.hid (fun v' W1 ho' hg => phead_cut (v' := v') (W1 := W1) e ho hb hlt h10 ho' hg)
        have TR := Lib.hid (fun W => trimmed_is (s.extract a p) W (by simp; omega))
        clear e ho
        go_wp2_with (first
          | (go_at_call 48; (with_reducible refine (TR.out _).mono ?_); rintro e w' ⟨rfl, rfl⟩)
          | (at_builtin; refine app_one rfl _ _ rfl w.heap.size wr v ls _ rfl rfl HO.out (by omega) hb.size ?_; intro v' w1 ho' hg))
        go_roundw
        case rel => exact R.out _ _ ho' hg
        case measure => simp [intOf]; omega
      · have t1 : ((bt s p : Int) == 10) = false := by simp; omega
        have E := Lib.hid e
        have G := Lib.hid (spl_go s a p ha hlt h10)
        clear e h10
        go_wp2
        go_roundw
        case rel => exact ⟨a, p + 1, ls, v, rfl, rfl, by go_num, by omega, by omega, by rw [← G.out]; exact E.out, ho, hb⟩
        case measure => simp [intOf]; omega
    · obtain rfl : s.size = p := by omega
      by_cases hfp : a < s.size
      · have R := Lib.hid (fun v' W1 ho' hg => split_last (v' := v') (W1 := W1) e ho hb hfp ho' hg)
        have TR := Lib.hid (fun W => trimmed_is (s.extract a s.size) W (by simp; omega))
        clear e ho
        go_wp2_with (first
          | (go_at_call 48; (with_reducible refine (TR.out _).mono ?_); rintro e w' ⟨rfl, rfl⟩)
          | (at_builtin; refine app_one rfl _ _ rfl w.heap.size wr v ls _ rfl rfl HO.out (by omega) hb.size ?_; intro v' w1 ho' hg))
        go_ret
        exact R.out _ _ ho' hg
      · obtain rfl : a = s.size := by omega
        rw [spl_none s s.size (Nat.le_refl _), List.append_nil] at e
        have R := Lib.hid (split_told e ho hb)
        clear e ho
        go_wp2
        go_ret
        exact R.out
theorem split_on {w : World} (W : World) (hb : Below w.heap.size w W) (s : ByteArray) (hs : s.size < 4294967281) : Calls Tryz.prog 22 #[.string s] W (lines.Told W (splitS s)) := split_at s W hs
end Go.Proofs.YtiboijhfieaepaaGreatDoor.ref05

/-
  What the document's own Words of layer 5 is: the words of a text. Condition: the text is no longer than a slice can count.
-/
namespace Go.Proofs.YtiboijhfieaepaaGreatDoor.ref05
open Go.ChangeShapes Go.WideShapes Go.ChangeAt Go.RowKit
open lx lines
set_option linter.unusedVariables false
set_option maxRecDepth 100000

def XHead (s : ByteArray) (w : World) (t i : Value) (W : World) : Prop :=
  ∃ (p : Nat) (ls : List ByteArray) (v : Value), v = t ∧ i = .int .i64 p ∧ p ≤ s.size + 1 ∧ ls.map L ++ wds [] ((L s).drop p) = wds [] (L s) ∧ W.ownsRow w.heap.size 9 1 v ls.length (ls.map Value.string) ∧ Below w.heap.size w W
def YHead (s : ByteArray) (p : Nat) (i : Value) : Prop := ∃ q : Nat, i = .int .i64 q ∧ p ≤ q ∧ q ≤ s.size ∧ ∀ j, p ≤ j → j < q → bt s j ≠ 32 ∧ bt s j ≠ 9
theorem word_step (s : ByteArray) (p q : Nat) (h : p < q) (hq : q ≤ s.size) (hn : ∀ j, p ≤ j → j < q → bt s j ≠ 32 ∧ bt s j ≠ 9) (he : q = s.size ∨ bt s q = 32 ∨ bt s q = 9) : wds [] ((L s).drop p) = cur s p q :: wds [] ((L s).drop (q + 1)) := by
  have e := wds_go s p p (q - p) (Nat.le_refl _) (fun j h1 h2 => hn j h1 (by omega))
  rw [cur_same, show p + (q - p) = q by omega] at e
  rw [e]
  by_cases hs : q = s.size
  · subst hs
    rw [wds_last s p s.size h (Nat.le_refl _) (Nat.le_refl _), drop_end s (s.size + 1) (by omega)]
    rfl
  · rw [wds_cut s p q h (by omega) (by omega), cur_same]
theorem gap_step (s : ByteArray) (p : Nat) (h : p < s.size) (hn : bt s p = 32 ∨ bt s p = 9) : wds [] ((L s).drop p) = wds [] ((L s).drop (p + 1)) := by
  have e := wds_gap s p h hn
  rw [cur_same, cur_same] at e
  exact e
theorem xhead_cut {s : ByteArray} {w W W1 : World} {v v' : Value} {ls : List ByteArray} {p q : Nat} (e : ls.map L ++ wds [] ((L s).drop p) = wds [] (L s)) (ho : W.ownsRow w.heap.size 9 1 v ls.length (ls.map Value.string)) (hb : Below w.heap.size w W)
    (h : p < q) (hq : q ≤ s.size) (hn : ∀ j, p ≤ j → j < q → bt s j ≠ 32 ∧ bt s j ≠ 9) (he : q = s.size ∨ bt s q = 32 ∨ bt s q = 9)
    (ho' : W1.ownsRow w.heap.size 9 1 v' (ls ++ [s.extract p q]).length ((ls ++ [s.extract p q]).map Value.string)) (hg : W.grownBy W1 v.ownBlock) : XHead s w v' (.int .i64 ((q : Int) + 1)) W1 := by
  refine ⟨q + 1, _, v', rfl, rfl, by omega, ?_, ho', hb.grown hg hb.size fun k hk => (ho.lt k hk).1⟩
  rw [← e, word_step s p q h hq hn he, List.map_append, List.map_cons, List.map_nil, cur_ext, List.append_assoc, List.singleton_append]
theorem words_told {s : ByteArray} {w W : World} {v : Value} {ls : List ByteArray} (e : ls.map L = wds [] (L s)) (ho : W.ownsRow w.heap.size 9 1 v ls.length (ls.map Value.string)) (hb : Below w.heap.size w W) : lines.Told w (wordsS s) (.returned v) W := by
  have e2 : wordsS s = ls := by
    unfold wordsS
    rw [← e, map_BL]
  rw [e2]
  obtain ⟨A, c, rfl, hs, hc⟩ := Strs.of_own ho
  exact ⟨A, c, rfl, hs, ⟨hc, fun b o e => (ho.lt b (by rw [e]; rfl)).1⟩, hb⟩

set_option maxHeartbeats 2000000 in
theorem words_at (s : ByteArray) (w : World) (hs : s.size < 4294967281) : Calls Tryz.prog 74 #[.string s] w (lines.Told w (wordsS s)) := by
  go_enter Tryz.func74, Tryz.ntmps74
  go_wp2
  go_loopw [3, 4] (fun t i W => XHead s w t i W) (fun _ i _ => s.size + 1 - (intOf i).toNat)
  case atStart => exact ⟨0, [], _, rfl, rfl, by omega, rfl, World.ownsRow_nil _ _ _ _, Below.refl _ _⟩
  case round =>
    obtain ⟨p, ls, v, rfl, rfl, hp, e, ho, hb⟩ := hrel
    have hl := wlen e
    by_cases hlt : p < s.size
    · have hbt := bt_at s p hlt
      by_cases hbk : bt s p = 32 ∨ bt s p = 9
      · have C := Lib.hid (fun W => blank_yes (bt s p) W hbk)
        have E : Hid (ls.map L ++ wds [] ((L s).drop (p + 1)) = wds [] (L s)) := by
          show _ = _
          rw [← gap_step s p hlt hbk]
          exact e
        clear hbk e
        go_wp2_with (go_at_call 94; (with_reducible refine (C.out _).mono ?_); rintro e w' ⟨rfl, rfl⟩)
        go_roundw
        case rel => exact ⟨p + 1, ls, v, rfl, by go_num, by omega, E.out, ho, hb⟩
        case measure => simp [intOf]; omega
      · have C := Lib.hid (fun W => blank_no (bt s p) W (by omega) (by omega))
        have E := Lib.hid e
        have HO := Lib.hid ho
        have HN : Hid (bt s p ≠ 32 ∧ bt s p ≠ 9) := ⟨by omega, by omega⟩
        clear e ho hbk
        go_wp2_with (go_at_call 94; (with_reducible refine (C.out _).mono ?_); rintro e w' ⟨rfl, rfl⟩)
        go_loop [4] (fun i => YHead s p i) (fun i => s.size - (intOf i).toNat)
        case atStart => exact ⟨p, rfl, by omega, by omega, fun j h1 h2 => by omega⟩
        case round =>
          obtain ⟨q, rfl, hpq, hq, hn⟩ := hrel
          by_cases hlq : q < s.size
          · have hbq := bt_at s q hlq
            by_cases hbk : bt s q = 32 ∨ bt s q = 9
            · have C2 := Lib.hid (fun W => blank_yes (bt s q) W hbk)
              have hpq2 : p < q := by
                rcases Nat.lt_or_ge p q with k | k
                · exact k
                · obtain rfl : q = p := by omega
                  have := HN.out
                  omega
              have R := Lib.hid (fun v' W1 ho' hg => xhead_cut (v' := v') (W1 := W1) E.out HO.out hb hpq2 hq hn (.inr hbk) ho' hg)
              clear hn hbk
              go_wp2_with (first
                | (go_at_call 94; (with_reducible refine (C2.out _).mono ?_); rintro e w' ⟨rfl, rfl⟩)
                | (at_builtin; refine app_one rfl _ _ rfl w.heap.size wr v ls _ rfl rfl HO.out (by omega) hb.size ?_; intro v' w1 ho' hg))
              go_roundw
              case rel => exact R.out _ _ ho' hg
              case measure => simp [intOf]; omega
            · have C2 := Lib.hid (fun W => blank_no (bt s q) W (by omega) (by omega))
              have hn2 : Hid (∀ j, p ≤ j → j < q + 1 → bt s j ≠ 32 ∧ bt s j ≠ 9) := by
                intro j h1 h2
                rcases Nat.lt_or_ge j q with k | k
                · exact hn j h1 k
                · obtain rfl : q = j := by omega
                  omega
              clear hn hbk
              go_wp2_with (go_at_call 94; (with_reducible refine (C2.out _).mono ?_); rintro e w' ⟨rfl, rfl⟩)
              go_round
              case rel => exact ⟨q + 1, by go_num, by omega, by omega, hn2.out⟩
              case measure => simp [intOf]; omega
          · obtain rfl : q = s.size := by omega
            have R := Lib.hid (fun v' W1 ho' hg => xhead_cut (v' := v') (W1 := W1) E.out HO.out hb hlt hq hn (.inl rfl) ho' hg)
            clear hn
            go_wp2_with (at_builtin; refine app_one rfl _ _ rfl w.heap.size wr v ls _ rfl rfl HO.out (by omega) hb.size ?_; intro v' w1 ho' hg)
            go_roundw
            case rel => exact R.out _ _ ho' hg
            case measure => simp [intOf]; omega
    · have e2 : ls.map L = wds [] (L s) := by
        rw [← e, drop_end s p (by omega), wds_end0, List.append_nil]
      have R := Lib.hid (words_told e2 ho hb)
      clear e e2 ho
      go_wp2
      go_ret
      exact R.out
theorem words_on {w : World} (W : World) (hb : Below w.heap.size w W) (s : ByteArray) (hs : s.size < 4294967281) : Calls Tryz.prog 74 #[.string s] W (lines.Told W (wordsS s)) := words_at s W hs
end Go.Proofs.YtiboijhfieaepaaGreatDoor.ref05
