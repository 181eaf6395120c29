/-
  What list.read answers: the words and numbers of a stamp, an expiry or data, in new memory, where it is right; nothing of other kinds. Conditions: the library's variable MaxLen holds some number; the line has fewer than 2^32 - 15 bytes.
-/
import Derived.Test.YtpkohihnocblfaaGreatDoorG24
import Derived.Test.YtpkohihnocblfaaGreatDoorG22
import Derived.Test.YtpkohihnocblfaaGreatDoorG23
import Derived.Maps.GroupsBeside
import Derived.Maps.Views
import Derived.WalkSpells
namespace Go.Proofs.YtpkohihnocblfaaGreatDoor.list
open Go.ChangeShapes Go.WideShapes Go.ChangeAt Go.RowKit
open lx ls mem
set_option linter.unusedVariables false
set_option maxRecDepth 100000

/-! what stands ahead of the first '#' -/
theorem occ_hash (l : List UInt8) (j : Nat) : Lib.occAt l [35] j = decide (l[j]? = some 35) := by
  unfold Lib.occAt
  by_cases h : j < l.length
  · rw [List.drop_eq_getElem_cons h, List.getElem?_eq_getElem h]
    generalize l[j] = c
    by_cases e : c = 35
    · subst e; simp
    · rw [List.isPrefixOf_cons_cons, beq_eq_false_iff_ne.2 (fun k => e k.symm), Bool.false_and, decide_eq_false (fun k => e (Option.some.inj k))]
  · rw [List.drop_of_length_le (by omega), List.getElem?_eq_none (by omega)]
    simp
theorem ahd_hit {s : ByteArray} {i : Nat} (h : Hit s ⟨#[35]⟩ i) : ahd (L s) = L (s.extract 0 i) := by
  have e := congrArg L (hit_parts h)
  rw [L_app, L_app, show L ⟨#[35]⟩ = [35] from rfl] at e
  have no : ∀ c ∈ L (s.extract 0 i), decide (c ≠ 35) = true := by
    intro c hc
    rw [decide_eq_true_eq]
    intro k
    subst k
    obtain ⟨j, hj, he⟩ := List.getElem_of_mem hc
    have h1 : j < i := by rw [L_ext] at hj; simp at hj; omega
    have := h.2.2.2 j h1
    rw [show L ⟨#[35]⟩ = [35] from rfl, occ_hash] at this
    have k := of_decide_eq_false this
    apply k
    rw [← e, List.append_assoc, List.getElem?_append_left hj, List.getElem?_eq_getElem hj, he]
  unfold ahd
  rw [← e, List.append_assoc, List.takeWhile_append_of_pos no, List.singleton_append, List.takeWhile_cons_of_neg (by decide), List.append_nil]
theorem ahd_miss {s : ByteArray} (h : Miss s ⟨#[35]⟩) : ahd (L s) = L s := by
  unfold ahd
  have h := h
  suffices no : ∀ c ∈ L s, decide (c ≠ 35) = true by
    have := List.takeWhile_append_of_pos (l₂ := []) no
    rw [List.append_nil, List.takeWhile_nil, List.append_nil] at this
    exact this
  intro c hc
  rw [decide_eq_true_eq]
  intro k
  subst k
  obtain ⟨j, hj, he⟩ := List.getElem_of_mem hc
  rcases h with h | h
  · cases h
  · have := h j (by have : (L s).length = s.size := rfl; omega)
    rw [show L ⟨#[35]⟩ = [35] from rfl, occ_hash] at this
    apply of_decide_eq_false this
    rw [List.getElem?_eq_getElem hj, he]
theorem cut_any {w : World} (T : lines.ML w) (s : ByteArray) (hs : s.size < 4294967281) :
    Calls Tryz.prog 24 #[.string s, .string ⟨#[35]⟩] w fun e w' => ∃ Z f, e = .returned (.tuple #[.string (B (ahd (L s))), .string Z, .bool f]) ∧ Below w.heap.size w w' := by
  rcases hit_or s ⟨#[35]⟩ with hm | ⟨i, hi⟩
  · refine (lines.cut_miss T w (Below.refl _ _) s ⟨#[35]⟩ hs hm).mono ?_
    rintro e w' ⟨rfl, hb⟩
    rw [ahd_miss hm, B_L]
    exact ⟨_, _, rfl, hb⟩
  · refine (lines.cut_hit T w (Below.refl _ _) s ⟨#[35]⟩ i hs hi).mono ?_
    rintro e w' ⟨rfl, hb⟩
    rw [ahd_hit hi, B_L]
    exact ⟨_, _, rfl, hb⟩

/-! rows of numbers of the call's own -/
/-- a slice that reads as a row of numbers. -/
def Ints (w : World) (A : Option Addr) (l : List Int) : Prop :=
  l ≠ [] → ∃ b o, A = some ⟨b, o, none⟩ ∧ b < w.heap.size ∧ ∀ k (h : k < l.length), w.cell? ⟨b, o + k, none⟩ = some (.int .i64 l[k])
theorem Ints.of_own {w : World} {base : Nat} {v : Value} {l : List Int} (h : w.ownsRow base 3 1 v l.length (l.map (Value.int .i64))) :
    ∃ A c, v = .slice A l.length c ∧ Ints w A l := by
  have h0 := h
  rcases h.2 with ⟨rfl, hn⟩ | ⟨g, cap, cur, rfl, hb, hh, hnc, _⟩
  · rw [hn]
    exact ⟨none, 0, rfl, fun hl => absurd (List.eq_nil_of_length_eq_zero hn) hl⟩
  · refine ⟨_, _, rfl, fun hl => ⟨g, 0, rfl, ?_, fun k hk => ?_⟩⟩
    · rcases Nat.lt_or_ge g w.heap.size with k | k
      · exact k
      · rw [Array.getElem?_eq_none k] at hh
        cases hh
    · rw [Nat.zero_add, h0.cellAt k (by omega), List.getElem?_map, List.getElem?_eq_getElem hk]
      rfl
theorem infoI : (Tryz.prog.info? 3).map (fun i => (i.zero, i.size, i.bytes)) = some (some (.int .i64 0), 1, 8) := by kernel_rfl
theorem ints_one (l : List Int) : ∀ u ∈ l.map (Value.int .i64), u.oneCell' = true := by
  intro u hu
  obtain ⟨x, _, rfl⟩ := List.mem_map.1 hu
  rfl
/-- 'numbers = append(numbers, y)', numbers a row of the call's own. -/
theorem app_int {ops : Array Oper} {rest : List Oper} {o : Oper} {a : Act} {Q : Exit → Act → World → Prop} (hgd : o.guard = none) (s x : Operand)
    (ho : o.op = .call { callee := .builtin .append, args := #[s, x], argTypes := #[87, 87] }) (base : Nat) (W : World) (v : Value) (ls : List Int) (y : Int)
    (hs : a.eval s = v) (hx : a.eval x = .slice (some ⟨W.heap.size, 0, none⟩) 1 1) (hown : W.ownsRow base 3 1 v ls.length (ls.map (Value.int .i64))) (hn : ls.length < 8000000000000) (hbase : base ≤ W.heap.size)
    (h : ∀ v' w', w'.ownsRow base 3 1 v' (ls ++ [y]).length ((ls ++ [y]).map (Value.int .i64)) → W.grownBy w' v.ownBlock → wpList Tryz.prog ops Q rest (a.put o.dst v') w') :
    wpList Tryz.prog ops Q (o :: rest) a (W.alloc (.cells #[.int .i64 y] 3)) := by
  obtain ⟨i0, hi, hz0, hz1, hz2⟩ := info_parts infoI
  refine wpList_append_own _ hgd s x 87 ho base 3 i0 _ 1 8 Tryz.underlying87 hi hz0 hz1 hz2 rfl (by decide) v ls.length (ls.map (Value.int .i64)) hs (hown.alloc _) ⟨W.heap.size, 0, none⟩ 1 1 [.int .i64 y] hx rfl (cell_one_new _ _ _) (ints_one [y]) ?_ (by omega) (by simp; omega) ?_
  · unfold maxLen; omega
  · intro v' w' h1 h2 _
    refine h v' w' ?_ ((World.grownBy_alloc W _ _).trans h2)
    simpa using h1

/-! read -/
def wsB (k : Nat) (l : List UInt8) : List ByteArray := (ws k l).map B
def nums (X : List ByteArray) : List Int := X.map fun y => nmI (L y)
theorem nums_len (X : List ByteArray) : (nums X).length = X.length := by simp [nums]
def Kind (k : Nat) : Prop := k = 1 ∨ k = 2 ∨ k = 5
/-- what read answers. -/
def RTold (k : Nat) (l : List UInt8) (w : World) (e : Ending) (w' : World) : Prop :=
  Below w.heap.size w w' ∧ ((Kind k ∧ rk k l = true ∧ ∃ A c M m, e = .returned (.tuple #[.slice A (wsB k l).length c, .slice M (wsB k l).length m, .bool true]) ∧ lines.Strs w' A (wsB k l) ∧ Ints w' M (nums (wsB k l)) ∧ ∀ b o, A = some ⟨b, o, none⟩ → w.heap.size ≤ b) ∨
    (¬ (Kind k ∧ rk k l = true) ∧ e = .returned (.tuple #[.slice none 0 0, .slice none 0 0, .bool false])))
/-- at the head of a round. -/
def RHead (X : List ByteArray) (W0 : World) (v i : Value) (W : World) : Prop :=
  ∃ (k : Nat) (x : Value), i = .int .i64 (k : Nat) ∧ x = v ∧ k ≤ X.length ∧ W.ownsRow W0.heap.size 3 1 v ((nums X).take k).length (((nums X).take k).map (Value.int .i64)) ∧ Below W0.heap.size W0 W ∧ ∀ j (h : j < X.length), j < k → nmT (L X[j]) = true
theorem rk_no_len {k : Nat} {l : List UInt8} (h : (wsB k l).length ≠ cn k) : rk k l = false := by
  unfold rk
  unfold wsB at h
  rw [List.length_map] at h
  rw [decide_eq_false h, Bool.false_and]
theorem rk_no {k : Nat} {l : List UInt8} {j : Nat} (hj : j < (wsB k l).length) (h : nmT (L ((wsB k l)[j])) = false) : rk k l = false := by
  unfold rk
  rw [Bool.and_eq_false_iff]
  right
  unfold wsB at hj h
  rw [List.getElem_map, L_B] at h
  rw [List.all_eq_false]
  exact ⟨_, List.getElem_mem _, by rw [h]; decide⟩
theorem rk_yes {k : Nat} {l : List UInt8} (hn : (wsB k l).length = cn k) (h : ∀ j (hj : j < (wsB k l).length), nmT (L ((wsB k l)[j])) = true) : rk k l = true := by
  unfold rk
  have hn' : (ws k l).length = cn k := by unfold wsB at hn; rw [List.length_map] at hn; exact hn
  rw [decide_eq_true hn', Bool.true_and, List.all_eq_true]
  intro x hx
  obtain ⟨j, hj, rfl⟩ := List.getElem_of_mem hx
  have := h j (by unfold wsB; rw [List.length_map]; exact hj)
  unfold wsB at this
  rw [List.getElem_map, L_B] at this
  exact this
theorem word_size {Y x : ByteArray} (h : x ∈ wordsS Y) : x.size ≤ Y.size := by
  obtain ⟨k, hk⟩ := List.mem_iff_getElem?.1 h
  exact ntp.wat_size hk
theorem nums_step (X : List ByteArray) (k : Nat) (h : k < X.length) : (nums X).take k ++ [nmI (L X[k])] = (nums X).take (k + 1) := by
  rw [List.take_succ_eq_append_getElem (by rw [nums_len]; exact h)]
  unfold nums
  rw [List.getElem_map]
theorem rhead_step {X : List ByteArray} {W0 W W1 W2 : World} {v v' : Value} {k : Nat} {x : ByteArray} (h : k < X.length) (hx : X[k] = x) (hok : ∀ j (h : j < X.length), j < k → nmT (L X[j]) = true) (hn : nmT (L x) = true)
    (ho : W.ownsRow W0.heap.size 3 1 v ((nums X).take k).length (((nums X).take k).map (Value.int .i64))) (hb : Below W0.heap.size W0 W) (hb1 : Below W.heap.size W W1)
    (ho' : W2.ownsRow W0.heap.size 3 1 v' ((nums X).take k ++ [nmI (L x)]).length (((nums X).take k ++ [nmI (L x)]).map (Value.int .i64))) (hg : W1.grownBy W2 v.ownBlock) : RHead X W0 v' (.int .i64 ((k : Int) + 1)) W2 := by
  subst hx
  rw [nums_step X k h] at ho'
  refine ⟨k + 1, v', rfl, rfl, h, ho', (btr hb hb1).grown hg ((btr hb hb1).size) fun j hj => (ho.lt j hj).1, fun j hj hjk => ?_⟩
  rcases Nat.eq_or_lt_of_le (Nat.le_of_lt_succ hjk) with rfl | g
  · exact hn
  · exact hok j hj g
theorem rtold_yes {k : Nat} {l : List UInt8} {w W0 W : World} {A : Option Addr} {c : Nat} {v : Value} (hk : Kind k) (hn : (wsB k l).length = cn k) (hw : Below w.heap.size w W0) (hf : ∀ b o, A = some ⟨b, o, none⟩ → w.heap.size ≤ b) (hS : lines.Strs W0 A (wsB k l)) (hb : Below W0.heap.size W0 W)
    (ho : W.ownsRow W0.heap.size 3 1 v ((nums (wsB k l)).take (wsB k l).length).length (((nums (wsB k l)).take (wsB k l).length).map (Value.int .i64))) (hok : ∀ j (h : j < (wsB k l).length), j < (wsB k l).length → nmT (L (wsB k l)[j]) = true) :
    RTold k l w (.returned (.tuple #[.slice A (wsB k l).length c, v, .bool true])) W := by
  rw [List.take_of_length_le (by rw [nums_len]; exact Nat.le_refl _)] at ho
  obtain ⟨M, m, rfl, hI⟩ := Ints.of_own ho
  rw [nums_len]
  exact ⟨btr hw hb, .inl ⟨hk, rk_yes hn (fun j h => hok j h h), A, c, M, m, rfl, hS.below hb, hI, hf⟩⟩
theorem rtold_no {k : Nat} {l : List UInt8} {w W : World} (h : rk k l = false) (hb : Below w.heap.size w W) : RTold k l w (.returned (.tuple #[.slice none 0 0, .slice none 0 0, .bool false])) W :=
  ⟨hb, .inr ⟨fun g => by rw [h] at g; exact absurd g.2 (by decide), rfl⟩⟩
theorem Kind.cn {k : Nat} (h : Kind k) : cn k = 1 ∨ cn k = 2 := by
  rcases h with rfl | rfl | rfl
  · exact .inl rfl
  · exact .inl rfl
  · exact .inr rfl
set_option maxHeartbeats 4000000 in
theorem read_at (k : Nat) (s : ByteArray) (w : World) (T : lines.ML w) (hk : k ≤ 5) (h2 : k = 1 ∨ k = 2 → 2 ≤ s.size) (hs : s.size < 4294967281) : Calls Tryz.prog 41 #[.string (kS k), .string s] w (RTold k (L s) w) := by
  by_cases hK : Kind k
  · -- the text whose words are asked
    have CU : Hid (Calls Tryz.prog 24 #[.string s, .string ⟨#[35]⟩] w fun e w' => ∃ Z f, e = .returned (.tuple #[.string (B (ahd (L s))), .string Z, .bool f]) ∧ Below w.heap.size w w') := cut_any T s hs
    have hY : ∀ (k : Nat), (B (sd k (L s))).size < 4294967281 := by
      intro k
      rw [B_size]
      unfold sd
      have hl : (L s).length = s.size := rfl
      split
      · unfold ahd
        have := (List.takeWhile_sublist (l := L s) (fun c => decide (c ≠ 35))).length_le
        omega
      · rw [List.length_drop]; omega
    have WO := Lib.hid (fun k W => lines.words_at (B (sd k (L s))) W (hY k))
    have hX : ∀ k, wordsS (B (sd k (L s))) = wsB k (L s) := fun k => by unfold wsB ws wordsS; rw [L_B]
    unfold lines.Told at WO
    simp only [hX] at WO
    have hWS := Lib.hid (fun k x (hx : x ∈ wsB k (L s)) => (show x.size < 4294967281 from by rw [← hX] at hx; have := word_size hx; have := hY k; omega))
    have hsl : 2 ≤ s.size → ∀ k, k ≠ 5 → ∀ W, (Instr.slice 9 (.string s) (some (.int .i64 2)) none none).run Tryz.prog W = .ok (.string (B (sd k (L s)))) W := fun h k hk W => by
      rw [lines.sl_from W s 2 2 rfl h, ext_B, List.take_of_length_le (by rw [List.length_drop]; exact Nat.le_refl _)]
      unfold sd
      rw [if_neg hk]
    have HE := Lib.hid hX
    clear hX hY T
    have hkk := hK
    by_cases hn : (wsB k (L s)).length = cn k
    · have RY := Lib.hid (fun W0 W A c v hw hf hS hb ho hok => rtold_yes (w := w) (W0 := W0) (W := W) (A := A) (c := c) (v := v) hkk hn hw hf hS hb ho hok)
      have RN := Lib.hid (fun (j : Nat) (hj : j < (wsB k (L s)).length) (h : nmT (L ((wsB k (L s))[j])) = false) (W : World) (hb : Below w.heap.size w W) => rtold_no (rk_no hj h) hb)
      have W1 := Lib.hid (WO.out k)
      have S1 := Lib.hid (fun x hx => hWS.out k x hx)
      have hn2 : (wsB k (L s)).length ≤ 2 := by rw [hn]; rcases hkk.cn with h | h <;> omega
      clear WO hWS HE
      have SL := Lib.hid hsl
      clear hsl
      unfold Kind at hK
      rcases hK with rfl | rfl | rfl
      have hsl := SL.out (h2 (by simp)) 1 (by decide)
      have t1 : (((wsB 1 (L s)).length : Int) != 1) = false := by rw [hn]; rfl
      rw [show kS 1 = ⟨#[35, 36]⟩ from rfl]
      clear SL h2 CU hn
      generalize B (sd 1 (L s)) = Y at *
      generalize wsB 1 (L s) = X at *
      go_enter Tryz.func41, Tryz.ntmps41
      go_wp2_with (go_at_call 25; with_reducible refine (W1.out _).mono ?_; rintro e W0 ⟨A, c, rfl, hS, ⟨hc, hf⟩, hb1⟩; have HF := Lib.hid hf; clear hf)
      rotate_left
      have hsl := SL.out (h2 (by simp)) 2 (by decide)
      have t1 : (((wsB 2 (L s)).length : Int) != 1) = false := by rw [hn]; rfl
      rw [show kS 2 = ⟨#[35, 64]⟩ from rfl]
      clear SL h2 CU hn
      generalize B (sd 2 (L s)) = Y at *
      generalize wsB 2 (L s) = X at *
      go_enter Tryz.func41, Tryz.ntmps41
      go_wp2_with (go_at_call 25; with_reducible refine (W1.out _).mono ?_; rintro e W0 ⟨A, c, rfl, hS, ⟨hc, hf⟩, hb1⟩; have HF := Lib.hid hf; clear hf)
      rotate_left
      have t1 : (((wsB 5 (L s)).length : Int) != 2) = false := by rw [hn]; rfl
      rw [show kS 5 = ⟨#[100, 97, 116, 97]⟩ from rfl]
      rw [show ahd (L s) = sd 5 (L s) from rfl] at CU
      clear SL h2 hn
      generalize B (sd 5 (L s)) = Y at *
      generalize wsB 5 (L s) = X at *
      go_enter Tryz.func41, Tryz.ntmps41
      go_wp2_with (first
        | (go_at_call 24; with_reducible refine CU.out.mono ?_; rintro e w5 ⟨Z, f, rfl, hb5⟩)
        | (go_at_call 25; with_reducible refine (W1.out _).mono ?_; rintro e W0 ⟨A, c, rfl, hS, ⟨hc, hf⟩, hb6⟩; have HF := Lib.hid (fun b o e => Nat.le_trans hb5.size (hf b o e)); clear hf; have hb1 := btr hb5 hb6))
      rotate_left
      all_goals
        go_loopw [10, 40] (fun v i W => RHead X W0 v i W) (fun _ i _ => X.length - (intOf i).toNat)
        case atStart => exact ⟨0, _, rfl, rfl, Nat.zero_le _, World.ownsRow_nil _ _ _ _, Below.refl _ _, fun j _ h => by omega⟩
        case round =>
          obtain ⟨k, v, rfl, rfl, hkn, ho, hb, hok⟩ := hrel
          by_cases hlt : k < X.length
          · obtain ⟨b, o, rfl, hbl, hcell⟩ := hS (by intro e; rw [e] at hlt; simp at hlt)
            have c0 : wr.cell? ⟨b, o + k, none⟩ = some (.string (X[k]'hlt)) := (hb.cell (p := ⟨b, o + k, none⟩) hbl).trans (hcell k hlt)
            have NB := Lib.hid (lines.number_at (X[k]'hlt) wr (S1.out _ (List.getElem_mem hlt)))
            unfold lines.NTold at NB
            have RK := Lib.hid (RN.out k hlt)
            obtain ⟨x, hxk⟩ : ∃ x, X[k]'hlt = x := ⟨_, rfl⟩
            rw [hxk] at c0 NB RK
            cases hq : nmT (L x) with
            | true =>
              rw [hq] at NB
              have ST := Lib.hid (fun W1 W2 v' hb1 ho' hg => rhead_step (v := v) (v' := v') (W1 := W1) (W2 := W2) hlt hxk hok hq ho hb hb1 ho' hg)
              have HO := Lib.hid (fun W1 (hb1 : Below wr.heap.size wr W1) => ntp.own_keep ho hb1)
              have hsz := hb.size
              have d1 : decide ((k : Int) < (X.length : Int)) = true := by simp; omega
              have d2 : decide (k < X.length) = true := by simp; omega
              have hll : ((nums X).take k).length < 8000000000000 := by rw [List.length_take, nums_len]; omega
              clear RY RN W1 S1 RK hS hc hcell hok ho hq hxk
              generalize nmI (L x) = a at *
              go_wp2_with (first
                | (go_at_call 55; (with_reducible refine NB.out.mono ?_); rintro e w2 ⟨rfl, hb2⟩; have HO2 := Lib.hid (HO.out _ hb2); have hsz2 := Nat.le_trans hsz hb2.size)
                | (at_builtin; refine app_int rfl _ _ rfl W0.heap.size w2 v ((nums X).take k) a rfl rfl HO2.out hll hsz2 ?_; intro v' w3 ho' hg))
              go_roundw
              case rel => exact ST.out _ _ _ hb2 ho' hg
              case measure => simp [intOf]; omega
            | false =>
              rw [hq] at NB
              have RK := Lib.hid (RK.out hq)
              clear RY RN W1 S1 hS hc hcell hok ho hq hxk
              generalize nmI (L x) = a at *
              go_wp2_with (go_at_call 55; (with_reducible refine NB.out.mono ?_); rintro e w2 ⟨rfl, hb2⟩)
              go_ret3
              exact RK.out _ (btr hb1 (btr hb hb2))
          · obtain rfl : k = X.length := by omega
            have R := Lib.hid (RY.out W0 wr A c v hb1 HF.out hS hb ho hok)
            clear RY RN W1 S1 hS hc hok ho
            go_wp2
            go_ret3
            exact R.out
    · have RN := Lib.hid (fun W (hb : Below w.heap.size w W) => rtold_no (rk_no_len hn) hb)
      have W1 := Lib.hid (WO.out k)
      clear WO hWS HE
      have SL := Lib.hid hsl
      clear hsl
      unfold Kind at hK
      rcases hK with rfl | rfl | rfl
      · have hsl := SL.out (h2 (by simp)) 1 (by decide)
        have t1 : (((wsB 1 (L s)).length : Int) != 1) = true := by simp; have : cn 1 = 1 := rfl; omega
        rw [show kS 1 = ⟨#[35, 36]⟩ from rfl]
        clear SL h2 CU hn
        generalize B (sd 1 (L s)) = Y at *
        generalize wsB 1 (L s) = X at *
        go_enter Tryz.func41, Tryz.ntmps41
        go_wp2_with (go_at_call 25; with_reducible refine (W1.out _).mono ?_; rintro e W0 ⟨A, c, rfl, hS, hc, hb1⟩)
        go_ret3
        exact RN.out _ hb1
      · have hsl := SL.out (h2 (by simp)) 2 (by decide)
        have t1 : (((wsB 2 (L s)).length : Int) != 1) = true := by simp; have : cn 2 = 1 := rfl; omega
        rw [show kS 2 = ⟨#[35, 64]⟩ from rfl]
        clear SL h2 CU hn
        generalize B (sd 2 (L s)) = Y at *
        generalize wsB 2 (L s) = X at *
        go_enter Tryz.func41, Tryz.ntmps41
        go_wp2_with (go_at_call 25; with_reducible refine (W1.out _).mono ?_; rintro e W0 ⟨A, c, rfl, hS, hc, hb1⟩)
        go_ret3
        exact RN.out _ hb1
      · have t1 : (((wsB 5 (L s)).length : Int) != 2) = true := by simp; have : cn 5 = 2 := rfl; omega
        rw [show kS 5 = ⟨#[100, 97, 116, 97]⟩ from rfl]
        rw [show ahd (L s) = sd 5 (L s) from rfl] at CU
        clear SL h2 hn
        generalize B (sd 5 (L s)) = Y at *
        generalize wsB 5 (L s) = X at *
        go_enter Tryz.func41, Tryz.ntmps41
        go_wp2_with (first
          | (go_at_call 24; with_reducible refine CU.out.mono ?_; rintro e w5 ⟨Z, f, rfl, hb5⟩)
          | (go_at_call 25; with_reducible refine (W1.out _).mono ?_; rintro e W0 ⟨A, c, rfl, hS, hc, hb6⟩))
        go_ret3
        exact RN.out _ (btr hb5 hb6)
  · have R : Hid (∀ W, Below w.heap.size w W → RTold k (L s) w (.returned (.tuple #[.slice none 0 0, .slice none 0 0, .bool false])) W) := fun W hb => ⟨hb, .inr ⟨fun h => hK h.1, rfl⟩⟩
    have hk3 : k = 0 ∨ k = 3 ∨ k = 4 := by unfold Kind at hK; omega
    clear hK h2
    rcases hk3 with rfl | rfl | rfl
    all_goals
      unfold kS
      go_enter Tryz.func41, Tryz.ntmps41
      go_wp2
      go_ret3
      exact R.out _ (Below.refl _ _)
end Go.Proofs.YtpkohihnocblfaaGreatDoor.list

/-
  A map of rows of bytes that a call makes: what stands at each kind, and what storing at one of them does. Conditions: as said.
-/
namespace Go.Proofs.YtpkohihnocblfaaGreatDoor.list
open Go.ChangeShapes Go.WideShapes Go.ChangeAt Go.RowKit
open lx ls mem
open Go.Maps (Keyed string_keyed)
open Go.ChangeMaps Go.MapKept Go.WideElems
open sha (nats)
set_option linter.unusedVariables false
set_option maxRecDepth 100000

def kl (k : Nat) : Lit := .string (L (kS k))
theorem lawS : Keyed Tryz.prog 9 := string_keyed Tryz.underlying9
theorem kS_size (k : Nat) : (kS k).size ≤ 5 := by
  unfold kS
  split <;> decide
theorem key_is (k : Nat) : keyOf Tryz.prog 9 (.string (kS k)) = some (kl k) := Go.WideMaps.keyOf_string_mk Tryz.underlying9 (by have := kS_size k; unfold maxLen; omega)
theorem kl_ne {j k : Nat} (hj : j ≤ 5) (hk : k ≤ 5) (h : j ≠ k) : kl j ≠ kl k := by
  intro e
  have e : L (kS j) = L (kS k) := by
    unfold kl at e
    injection e
  have : ∀ j, j ≤ 5 → ∀ k, k ≤ 5 → j ≠ k → L (kS j) ≠ L (kS k) := by decide
  exact this j hj k hk h e
theorem zeroB (w : World) : (zeroValue 42).run Tryz.prog w = .ok (.slice none 0 0) w := by kernel_rfl

/-- what stands at a kind. -/
def ints (l : List Nat) : List Int := l.map Int.ofNat
def At (D : DataW Unit) (k : Nat) (l : List Nat) : Prop := (D.atKey (kl k) .nil = .nil ∧ l = []) ∨ D.atKey (kl k) .nil = .slice (lits .u8 (ints l)) []
theorem lits_inj : ∀ {a b : List Int}, (lits (H := Unit) .u8 a) = lits .u8 b → a = b
  | [], [], _ => rfl
  | [], y :: b, h => by simp [lits] at h
  | x :: a, [], h => by simp [lits] at h
  | x :: a, y :: b, h => by
    unfold lits at h
    rw [List.map_cons, List.map_cons] at h
    injection h with h1 h2
    injection h1 with h1
    injection h1 with _ h1
    rw [h1, lits_inj h2]
theorem At.get {D : DataW Unit} {k : Nat} {l : List Nat} {W : World} {base : Nat} {v : Value} {zs : List Int} (h : At D k l) (hat : D.atKey (kl k) .nil = rowDatum .u8 v zs) (hoi : W.ownsInts base 5 .u8 v zs) : zs = ints l := by
  rcases hoi.datum (H := Unit) with ⟨e, rfl⟩ | e
  · rcases h with ⟨_, rfl⟩ | h
    · rfl
    · rw [hat, e] at h
      cases h
  · rcases h with ⟨h, _⟩ | h
    · rw [hat, e] at h
      cases h
    · rw [hat, e] at h
      injection h with h
      exact lits_inj h
theorem At.same {D : DataW Unit} (hD : Maps.IsMap D) {k : Nat} {l : List Nat} {W : World} {base : Nat} {v : Value} {zs : List Int} (hoi : W.ownsInts base 5 .u8 v zs) (hz : zs = ints l) : At (D.put (kl k) (rowDatum .u8 v zs)) k l := by
  unfold At
  rw [Maps.atKey_put_same hD (show WideAt.IsKeyLit (kl k) from trivial)]
  rcases hoi.datum (H := Unit) with ⟨e, rfl⟩ | e
  · left
    refine ⟨e, ?_⟩
    cases l with
    | nil => rfl
    | cons a b => cases hz
  · right
    rw [e, hz]
theorem At.other {D : DataW Unit} {j k : Nat} {l : List Nat} (hj : j ≤ 5) (hk : k ≤ 5) (hne : j ≠ k) (h : At D j l) (d : DataW Unit) : At (D.put (kl k) d) j l := by
  unfold At
  rw [Maps.atKey_put_other (kl_ne hj hk hne)]
  exact h
/-- what stands at the kinds that are hashed. -/
def GR (f : Nat → List Nat) (D : DataW Unit) : Prop := ∀ i, Kind i → At D i (f i)
theorem Kind.le {i : Nat} (h : Kind i) : i ≤ 5 := by unfold Kind at h; omega
theorem GR.put {f g : Nat → List Nat} {D : DataW Unit} (h : GR f D) (hD : Maps.IsMap D) {k : Nat} (hk : k ≤ 5) {W : World} {base : Nat} {v : Value} {zs : List Int} (hoi : W.ownsInts base 5 .u8 v zs)
    (h1 : zs = ints (g k)) (h2 : ∀ i, i ≠ k → g i = f i) : GR g (D.put (kl k) (rowDatum .u8 v zs)) := by
  intro i hi
  by_cases e : i = k
  · subst e
    exact At.same hD hoi h1
  · rw [h2 i e]
    exact At.other hi.le hk e (h i hi) _

/-! the groups in the world's words -/
abbrev Grp (m n : Nat) (D : DataW Unit) (W : World) : Prop := W.ownsGroups Tryz.prog 9 (m + 1) 5 .u8 m n D
theorem grp_mono {m n n' : Nat} {D : DataW Unit} {W : World} (h : Grp m n D W) (hn : n ≤ n') : Grp m n' D W := by
  obtain ⟨es, clock, h1, h2, h3, h4, h5, h6, h7⟩ := h
  exact ⟨es, clock, h1, h2, Nat.le_trans h3 hn, h4, h5, fun x hx zs hz => Nat.le_trans (h6 x hx zs hz) hn, h7⟩
theorem grp_map {m n : Nat} {D : DataW Unit} {W : World} (h : Grp m n D W) : Maps.IsMap D := by
  obtain ⟨es, clock, h1, h2, h3, h4, _⟩ := h
  exact ⟨_, h4⟩
theorem grown_of {W W' : World} (h : Below W.heap.size W W') : W.grownBy W' none := ⟨h.os, h.tape, h.output, h.size, fun k hk _ => h.block k hk⟩
theorem grp_below {m n : Nat} {D : DataW Unit} {W W' : World} (h : Grp m n D W) (hb : Below W.heap.size W W') : Grp m n D W' :=
  World.ownsGroups.kept h (grown_of hb) (by simp) (fun es clock hm x hx => by cases x.val.ownBlock <;> simp)
theorem shuns_below {m : Nat} {No : Nat → Prop} {W W' : World} (h : W.Shuns m No) (hlt : m < W.heap.size) (hb : Below W.heap.size W W') : W'.Shuns m No := h.kept (grown_of hb) hlt (by simp)
theorem strs_grown {W W' : World} {row : Option Nat} {A : Option Addr} {l : List ByteArray} (h : lines.Strs W A l) (hg : W.grownBy W' row) (hne : ∀ b o, A = some ⟨b, o, none⟩ → row ≠ some b) : lines.Strs W' A l := by
  intro hl
  obtain ⟨b, o, e, hlt, hc⟩ := h hl
  refine ⟨b, o, e, Nat.lt_of_lt_of_le hlt hg.size, fun k hk => ?_⟩
  rw [World.cell?_of_block (a := ⟨b, o + k, none⟩) (hg.block b hlt (fun k => hne b o e k.symm))]
  exact hc k hk
/-- a slice's block. -/
def Blk (A : Option Addr) (g : Nat) : Prop := ∃ o, A = some ⟨g, o, none⟩

/-- 'append(row, s...)', s a text with a byte at least: where the new slice lies. -/
theorem app_loc (W : World) (base : Nat) (ty : TypeId) (v : Value) (zs : List Int) (s : ByteArray) (h : W.ownsInts base 5 .u8 v zs) (hs : 0 < s.size) (hn : zs.length + s.size ≤ 8000000000000) (hb : base ≤ W.heap.size) :
    ∃ v' w', (Builtin.append_ #[42, 9] ty #[v, .string s]).run Tryz.prog W = .ok v' w' ∧ w'.ownsInts base 5 .u8 v' (zs ++ ints (nats (L s))) ∧ W.grownBy w' v.ownBlock ∧
      (v'.ownBlock = v.ownBlock ∨ ∃ g, v'.ownBlock = some g ∧ W.heap.size ≤ g) := by
  obtain ⟨i0, hi, hz0, hz1, hz2⟩ := info_parts lines.infoB
  obtain ⟨v', w', hr, ho, hg, _⟩ := Lib.run_append_own_string (P := Tryz.prog) W base 42 9 ty 5 i0 Tryz.underlying42 Tryz.underlying9 hi hz0 hz1 hz2 v zs.length (zs.map (Value.int .u8)) h.1 s (by unfold maxLen; omega) (by omega) hb
  refine ⟨v', w', hr, ⟨?_, ?_⟩, hg, ?_⟩
  · have e : (zs ++ ints (nats (L s))).length = zs.length + s.size := by
      rw [List.length_append]
      unfold ints
      rw [List.length_map, sha.nats_len, L_len]
    rw [e, List.map_append]
    have e2 : (ints (nats (L s))).map (Value.int .u8) = Lib.strCells s := by
      rw [ntp.str_bc]
      unfold ints sha.bc
      rw [List.map_map]
      rfl
    rw [e2]
    exact ho
  · intro z hz
    rw [List.mem_append] at hz
    rcases hz with hz | hz
    · exact h.2 z hz
    · unfold ints nats at hz
      rw [List.map_map] at hz
      obtain ⟨c, _, rfl⟩ := List.mem_map.1 hz
      have := c.toNat_lt
      show (Lit.int .u8 ((c.toNat : Nat) : Int)).wf = true
      show (decide ((0 : Int) ≤ ((c.toNat : Nat) : Int)) && decide (((c.toNat : Nat) : Int) ≤ 255)) = true
      simp
      omega
  · rcases h.1.2 with ⟨rfl, hn0⟩ | ⟨g, cap, cur, rfl, hbg, hh, hnc, hcm, hcs, htake⟩
    · right
      have := run_append_nil_string (P := Tryz.prog) W 42 9 ty 5 i0 (.int .u8 0) Tryz.underlying42 Tryz.underlying9 hi hz0 s (by omega) (by omega) (by rw [hz2]; omega)
      rw [this] at hr
      injection hr with h1 h2
      subst h1
      exact ⟨_, rfl, Nat.le_refl _⟩
    · by_cases hroom : zs.length + s.size ≤ cap
      · left
        have := Lib.run_append_room_string (P := Tryz.prog) W 42 9 ty 5 i0 Tryz.underlying42 Tryz.underlying9 hi hz1 g zs.length cap cur hh s hroom (by rw [hcs]; omega)
        rw [this] at hr
        injection hr with h1 h2
        subst h1
        rfl
      · right
        have := Lib.run_append_grow_string (P := Tryz.prog) W 42 9 ty 5 i0 (.int .u8 0) Tryz.underlying42 Tryz.underlying9 hi hz0 ⟨g, 0, none⟩ zs.length cap (zs.map (Value.int .u8)) (by simp [hz1]) (fun j u hu => h.1.cells (g := g) rfl j u hu) s (by omega) (by omega) (by rw [hz2]; exact growslice_fits (by omega) (by omega))
        rw [this] at hr
        injection hr with h1 h2
        subst h1
        exact ⟨_, rfl, Nat.le_refl _⟩
theorem list_app {P : Program} {ops : Array Oper} {o : Oper} {rest : List Oper} {a : Act} {W : World} {Q : Exit → Act → World → Prop} (hgd : o.guard = none) (s x : Operand) (t u : TypeId)
    (ho : o.op = .call { callee := .builtin .append, args := #[s, x], argTypes := #[t, u] }) (va vx v : Value) (W' : World) (hs : a.eval s = va) (hx : a.eval x = vx)
    (run : (Builtin.append_ #[t, u] o.type #[va, vx]).run P W = .ok v W') (h : wpList P ops Q rest (a.put o.dst v) W') : wpList P ops Q (o :: rest) a W := by
  refine wpList_plain hgd fun K hK => ?_
  unfold Oper.wp execOp
  simp only [ho, resolve, invoke, builtin, Sem.run_bind, Sem.run_pure, Result.andThen_ok, List.map_toArray, List.map_cons, List.map_nil, hs, hx, run]
  exact hK _ _ h
end Go.Proofs.YtpkohihnocblfaaGreatDoor.list
