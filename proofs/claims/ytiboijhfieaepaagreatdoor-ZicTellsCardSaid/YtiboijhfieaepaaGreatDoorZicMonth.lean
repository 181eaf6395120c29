/-
  What zic.Month, clockPart, Clock, kindOf, readKind and readMoment answer, as plain mathematics (zs) tells. Conditions: the names of months of package zic, and the tables of package day, hold what their initialisers lay; the library's variable MaxLen holds some number; the texts have fewer than 2^32 - 15 bytes.
-/
import Derived.Test.YtiboijhfieaepaaGreatDoorZicMath
import Derived.Test.YtiboijhfieaepaaGreatDoorLinesFold
import Derived.Test.YtiboijhfieaepaaGreatDoorLinesNumber
import Derived.Test.YtiboijhfieaepaaGreatDoorStamp
import Derived.Test.YtiboijhfieaepaaGreatDoorDayNum
import Derived.Test.YtiboijhfieaepaaGreatDoorLeapAdd
import Derived.Test.YtiboijhfieaepaaGreatDoorMem
namespace Go.Proofs.YtiboijhfieaepaaGreatDoor.zic
open Go.ChangeShapes Go.WideShapes Go.ChangeAt Go.RowKit
open lx zs mem stx cal
set_option linter.unusedVariables false
set_option maxRecDepth 100000

theorem ret_ib {a b : Int} {c d : Bool} (h1 : a = b) (h2 : c = d) : Ending.returned (.tuple #[.int .i64 a, .bool c]) = .returned (.tuple #[.int .i64 b, .bool d]) := by rw [h1, h2]
/-! the names of months, as they are laid -/
def nmA : Array Value := (names.map fun n => Value.string (B n)).toArray
def Nm (w : World) : Prop := ∃ t fr, w.heap[0]? = some (.cells nmA t fr)
theorem Nm.below {w W : World} (h : Nm w) (hb : Below w.heap.size w W) : Nm W := by
  obtain ⟨t, fr, h⟩ := h
  exact ⟨t, fr, kept h hb⟩
theorem nmA_get (j : Nat) (h : j < 12) : nmA[j]? = some (.string (B (names.getD j []))) := by
  unfold nmA
  rw [List.getElem?_toArray, List.getElem?_map, List.getD_eq_getElem?_getD, List.getElem?_eq_getElem (show j < names.length from h)]
  rfl
theorem szN : (Tryz.prog.info? 67).map (·.size) = some nmA.size := by
  have h : (Tryz.prog.info? 67).map (·.size) = some 12 := by kernel_rfl
  exact h
theorem run_nm (w : World) (j : Nat) (h : j < 12) : (Instr.index 67 (.agg nmA) (.int .i64 (j : Nat))).run Tryz.prog w = .ok (.string (B (names.getD j []))) w := by
  rcases (show j = 0 ∨ j = 1 ∨ j = 2 ∨ j = 3 ∨ j = 4 ∨ j = 5 ∨ j = 6 ∨ j = 7 ∨ j = 8 ∨ j = 9 ∨ j = 10 ∨ j = 11 by omega) with rfl | rfl | rfl | rfl | rfl | rfl | rfl | rfl | rfl | rfl | rfl | rfl <;> kernel_rfl
theorem names_drop (j : Nat) (h : j < 12) : names.drop j = names.getD j [] :: names.drop (j + 1) := by
  rw [List.drop_eq_getElem_cons (show j < names.length from h), List.getD_eq_getElem?_getD, List.getElem?_eq_getElem (show j < names.length from h)]
  rfl
theorem pre_B (x : List UInt8) (b : List UInt8) : Lib.hasPrefix (B x).data.toList (B b).data.toList = b.isPrefixOf x := by
  unfold Lib.hasPrefix
  show List.isPrefixOf (L (B b)) (L (B x)) = _
  rw [L_B, L_B]
theorem pre_at (x b : List UInt8) (W : World) : Calls Tryz.prog 33 #[.string (B x), .string (B b)] W fun e w' => e = .returned (.bool (b.isPrefixOf x)) ∧ W = w' := by
  have := Tryz.strings_HasPrefix (B x) (B b) W
  rw [pre_B] at this
  refine this.mono ?_
  rintro e w' ⟨rfl, rfl⟩
  exact ⟨rfl, rfl⟩
set_option maxHeartbeats 2000000 in
theorem month_at (s : ByteArray) (w : World) (T : Nm w) (hs : s.size < 4294967281) : Calls Tryz.prog 10 #[.string s] w fun e w' => e = .returned (.tuple #[.int .i64 (mon (L s)), .bool (decide (mon (L s) ≠ 0))]) ∧ Below w.heap.size w w' := by
  by_cases h3 : s.size < 3
  · have E : Hid (mon (L s) = 0) := by
      show _ = _
      unfold mon monN
      rw [if_pos (by rw [L_len]; exact h3)]
      rfl
    have t1 : decide ((s.size : Int) < 3) = true := by simp; omega
    have t2 : decide (s.size < 3) = true := by simp; omega
    clear T
    go_enter Tryz.func10, Tryz.ntmps10
    go_wp2
    go_ret2
    exact ⟨ret_ib E.out.symm (by rw [E.out]; rfl), Below.refl _ _⟩
  · have C := Lib.hid (lines.fold_at s w hs)
    have NL : Hid (∀ W, Below w.heap.size w W → ∃ t fr, W.heap[0]? = some (.cells nmA t fr)) := fun W hb => T.below hb
    have t1 : decide ((s.size : Int) < 3) = false := by simp; omega
    have t2 : decide (s.size < 3) = false := by simp; omega
    have E : Hid (monN (L s) = monF ((L s).map fld) names 1) := by
      show _ = _
      unfold monN
      rw [if_neg (by rw [L_len]; exact h3)]
    have PR := Lib.hid (fun x W => pre_at x ((L s).map fld) W)
    unfold foldS at C
    unfold mon
    generalize (L s).map fld = b at *
    generalize monN (L s) = m at *
    clear T hs
    go_enter Tryz.func10, Tryz.ntmps10
    go_wp2_with (first
      | (go_at_call 32; with_reducible refine C.out.mono ?_; rintro e w1 ⟨rfl, hb1⟩; obtain ⟨t, fr, g1⟩ := NL.out _ hb1)
      | (refine wpList_load_row rfl 67 (.global 0) rfl 0 rfl _ _ _ _ g1 Tryz.underlying67 rfl szN ?_))
    have HB := Lib.hid hb1
    clear C NL g1
    go_loop [13] (fun t => ∃ j : Nat, j ≤ 12 ∧ t = .int .i64 (j : Nat) ∧ monF b names 1 = monF b (names.drop j) (j + 1)) (fun t => 12 - (intOf t).toNat)
    case atStart => exact ⟨0, by omega, rfl, rfl⟩
    case round =>
      obtain ⟨j, hj, rfl, hm⟩ := hrel
      by_cases hlt : j < 12
      · have c0 := run_nm w1 j hlt
        have P := Lib.hid (PR.out (names.getD j []))
        rw [names_drop j hlt] at hm
        have d1 : decide ((j : Int) < 12) = true := decide_eq_true (by omega)
        have d2 : decide (j < 12) = true := decide_eq_true hlt
        generalize names.getD j [] = x at *
        cases hp : b.isPrefixOf x with
        | true =>
          rw [hp] at P
          have e : m = j + 1 := by rw [E.out, hm]; unfold monF; rw [if_pos hp]
          subst e
          clear hm E hp PR
          go_wp2_with (go_at_call 33; with_reducible refine (P.out _).mono ?_; rintro e w2 ⟨rfl, rfl⟩)
          go_ret2
          exact ⟨ret_ib rfl (decide_eq_true (show ((j + 1 : Nat) : Int) ≠ 0 by omega)).symm, HB.out⟩
        | false =>
          rw [hp] at P
          have hm2 : Hid (monF b names 1 = monF b (names.drop (j + 1)) (j + 1 + 1)) := by
            show _ = _
            rw [hm]
            show (if b.isPrefixOf x = true then _ else _) = _
            rw [if_neg (by rw [hp]; decide)]
          clear hm E hp PR
          go_wp2_with (go_at_call 33; with_reducible refine (P.out _).mono ?_; rintro e w2 ⟨rfl, rfl⟩)
          go_round
          case rel => exact ⟨j + 1, by omega, rfl, hm2.out⟩
          case measure => simp [intOf]; omega
      · obtain rfl : j = 12 := by omega
        have e : m = 0 := by rw [E.out, hm]; rfl
        subst e
        clear hm E PR
        go_wp2
        go_ret2
        exact ⟨rfl, HB.out⟩

/-! clocks -/
theorem occ_one (c : UInt8) (l : List UInt8) (j : Nat) : Lib.occAt l [c] j = decide (l[j]? = some c) := by
  unfold Lib.occAt
  by_cases h : j < l.length
  · rw [List.drop_eq_getElem_cons h, List.getElem?_eq_getElem h]
    generalize l[j] = d
    by_cases e : d = c
    · subst e; simp
    · rw [List.isPrefixOf_cons_cons, beq_eq_false_iff_ne.2 (fun k => e k.symm), Bool.false_and, decide_eq_false (fun k => e (Option.some.inj k))]
  · rw [List.drop_of_length_le (by omega), List.getElem?_eq_none (by omega)]
    simp
theorem one_hit {c : UInt8} {s : ByteArray} {i : Nat} (h : Hit s ⟨#[c]⟩ i) : ahd c (L s) = L (s.extract 0 i) ∧ bhd c (L s) = L (s.extract (i + 1) s.size) := by
  have e := congrArg L (hit_parts h)
  rw [L_app, L_app, show L ⟨#[c]⟩ = [c] from rfl] at e
  have no : ∀ x ∈ L (s.extract 0 i), x ≠ c := by
    intro x hx k
    subst k
    obtain ⟨j, hj, he⟩ := List.getElem_of_mem hx
    have h1 : j < i := by rw [L_ext] at hj; simp at hj; omega
    have := h.2.2.2 j h1
    rw [show L ⟨#[x]⟩ = [x] from rfl, occ_one] at this
    have k := of_decide_eq_false this
    apply k
    rw [← e, List.append_assoc, List.getElem?_append_left hj, List.getElem?_eq_getElem hj, he]
  rw [List.append_assoc, List.singleton_append] at e
  obtain ⟨a, b⟩ := ahd_some no (L (s.extract (i + (ByteArray.mk #[c]).size) s.size))
  rw [e] at a b
  exact ⟨a, b⟩
theorem one_miss {c : UInt8} {s : ByteArray} (h : Miss s ⟨#[c]⟩) : ahd c (L s) = L s ∧ bhd c (L s) = [] := by
  refine ahd_none fun x hx k => ?_
  subst k
  obtain ⟨j, hj, he⟩ := List.getElem_of_mem hx
  rcases h with h | h
  · cases h
  · have := h j (by have : (L s).length = s.size := rfl; omega)
    rw [show L ⟨#[x]⟩ = [x] from rfl, occ_one] at this
    apply of_decide_eq_false this
    rw [List.getElem?_eq_getElem hj, he]
theorem cut_at (c : UInt8) {w : World} (T : lines.ML w) (s : List UInt8) (hs : s.length < 4294967281) :
    Calls Tryz.prog 16 #[.string (B s), .string ⟨#[c]⟩] w fun e w' => ∃ f, e = .returned (.tuple #[.string (B (ahd c s)), .string (B (bhd c s)), .bool f]) ∧ Below w.heap.size w w' := by
  have hz : (B s).size < 4294967281 := by rw [B_size]; exact hs
  rcases hit_or (B s) ⟨#[c]⟩ with hm | ⟨i, hi⟩
  · refine (lines.cut_miss T w (Below.refl _ _) (B s) ⟨#[c]⟩ hz hm).mono ?_
    rintro e w' ⟨rfl, hb⟩
    obtain ⟨a, b⟩ := one_miss hm
    rw [L_B] at a b
    rw [a, b]
    exact ⟨_, rfl, hb⟩
  · refine (lines.cut_hit T w (Below.refl _ _) (B s) ⟨#[c]⟩ i hz hi).mono ?_
    rintro e w' ⟨rfl, hb⟩
    obtain ⟨a, b⟩ := one_hit hi
    rw [L_B] at a b
    rw [a, b, B_L, B_L]
    exact ⟨_, rfl, hb⟩
theorem part_at (x : List UInt8) (w : World) (hx : x.length < 4294967281) : Calls Tryz.prog 37 #[.string (B x)] w fun e w' => e = .returned (.tuple #[.int .i64 (cpI x), .bool (cpT x)]) ∧ Below w.heap.size w w' := by
  have hz := B_size x
  have C := Lib.hid (lines.number_at (B x) w (by rw [hz]; exact hx))
  unfold lines.NTold at C
  rw [L_B] at C
  by_cases h : 2 < x.length
  · have E : Hid (cpI x = 0 ∧ cpT x = false) := by
      show _ ∧ _
      unfold cpI cpT cpt
      rw [if_pos h]
      exact ⟨rfl, rfl⟩
    rw [← hz] at h
    have t1 : decide ((((B x).size : Nat) : Int) > 2) = true := by simp; omega
    have t2 : decide (2 < (((B x).size : Nat) : Int)) = true := by simp; omega
    have t3 : decide (2 < (B x).size) = true := by simp; omega
    clear C hz
    go_enter Tryz.func37, Tryz.ntmps37
    go_wp2
    go_ret2
    exact ⟨ret_ib E.out.1.symm E.out.2.symm, Below.refl _ _⟩
  · have E : Hid (cpI x = nmI x ∧ cpT x = nmT x) := by
      show _ ∧ _
      unfold cpI cpT cpt nmI nmT
      rw [if_neg h]
      exact ⟨rfl, rfl⟩
    rw [← hz] at h
    have t1 : decide ((((B x).size : Nat) : Int) > 2) = false := by simp; omega
    have t2 : decide (2 < (((B x).size : Nat) : Int)) = false := by simp; omega
    have t3 : decide (2 < (B x).size) = false := by simp; omega
    clear hz
    generalize nmI x = n at *
    generalize nmT x = b at *
    go_enter Tryz.func37, Tryz.ntmps37
    go_wp2_with (go_at_call 68; with_reducible refine C.out.mono ?_; rintro e w1 ⟨rfl, hb1⟩)
    go_ret2
    exact ⟨ret_ib E.out.1.symm E.out.2.symm, hb1⟩
theorem second_at (a b c : Int) (W : World) : Calls Tryz.prog 38 #[.int .i64 a, .int .i64 b, .int .i64 c] W fun e w' => e = .returned (.tuple #[.int .i64 (if clkB a b c = true then secN a b c else 0), .bool (clkB a b c)]) ∧ W = w' := by
  cases h : clkB a b c with
  | true =>
    rw [if_pos rfl]
    exact stamp.second_yes a b c _ W ((clkB_iff _ _ _).1 h) rfl
  | false =>
    rw [if_neg (by decide)]
    exact stamp.second_no a b c W (fun k => by rw [(clkB_iff _ _ _).2 k] at h; cases h)
set_option maxHeartbeats 2000000 in
theorem clock_at (s : List UInt8) (w : World) (T : lines.ML w) (hs : s.length < 4294967281) : Calls Tryz.prog 12 #[.string (B s)] w fun e w' => e = .returned (.tuple #[.int .i64 (clkI s), .bool (clkT s)]) ∧ Below w.heap.size w w' := by
  have l1 := ahd_len 58 s
  have l2 := ahd_len 58 (bhd 58 s)
  have C1 : Hid (∀ W, Below w.heap.size w W → Calls Tryz.prog 16 #[.string (B s), .string ⟨#[58]⟩] W fun e w' => ∃ f, e = .returned (.tuple #[.string (B (ahd 58 s)), .string (B (bhd 58 s)), .bool f]) ∧ Below W.heap.size W w') := fun W hb => cut_at 58 (T.below hb) s hs
  have C2 : Hid (∀ W, Below w.heap.size w W → Calls Tryz.prog 16 #[.string (B (bhd 58 s)), .string ⟨#[58]⟩] W fun e w' => ∃ f, e = .returned (.tuple #[.string (B (c2 s)), .string (B (c3 s)), .bool f]) ∧ Below W.heap.size W w') := fun W hb => cut_at 58 (T.below hb) _ (by omega)
  have P1 := Lib.hid (fun W => part_at (c1 s) W (by unfold c1; omega))
  have P2 := Lib.hid (fun W => part_at (c2 s) W (by unfold c2; omega))
  have P3 := Lib.hid (fun W => part_at (c3 s) W (by unfold c3; omega))
  have E : Hid (clkT s = (cpT (c1 s) && (cpT (c2 s) && (cpT (c3 s) && clkB (cpI (c1 s)) (cpI (c2 s)) (cpI (c3 s)))))) := rfl
  have E2 : Hid (clkI s = if (cpT (c1 s) && (cpT (c2 s) && cpT (c3 s))) = true then (if clkB (cpI (c1 s)) (cpI (c2 s)) (cpI (c3 s)) = true then secN (cpI (c1 s)) (cpI (c2 s)) (cpI (c3 s)) else 0) else 0) := by
    show _ = _
    unfold clkI clkT
    cases cpT (c1 s) <;> cases cpT (c2 s) <;> cases cpT (c3 s) <;> simp
  have S := Lib.hid (fun W => second_at (cpI (c1 s)) (cpI (c2 s)) (cpI (c3 s)) W)
  rw [show ahd 58 s = c1 s from rfl] at C1
  generalize clkT s = kT at *
  generalize clkI s = kI at *
  generalize c1 s = x1 at *
  generalize c2 s = x2 at *
  generalize c3 s = x3 at *
  generalize bhd 58 s = r1 at *
  generalize cpI x1 = i1 at *
  generalize cpI x2 = i2 at *
  generalize cpI x3 = i3 at *
  generalize cpT x1 = b1 at *
  generalize cpT x2 = b2 at *
  generalize cpT x3 = b3 at *
  generalize (if clkB i1 i2 i3 = true then secN i1 i2 i3 else 0) = sI at *
  generalize clkB i1 i2 i3 = sT at *
  clear T l1 l2
  cases b1 <;> cases b2 <;> cases b3
  all_goals
    go_enter Tryz.func12, Tryz.ntmps12
    go_wp2_with (first
      | (go_at_call 16; first
        | (with_reducible refine (C1.out _ (Below.refl _ _)).mono ?_; rintro e w1 ⟨f1, rfl, hb1⟩; clear C1)
        | (with_reducible refine (C2.out _ hb1).mono ?_; rintro e w2 ⟨f2, rfl, hb2⟩; have hb2 := btr hb1 hb2))
      | (go_at_call 37; first
        | (with_reducible refine (P1.out _).mono ?_; rintro e w3 ⟨rfl, hb3⟩; clear P1; have hb3 := btr hb2 hb3)
        | (with_reducible refine (P2.out _).mono ?_; rintro e w4 ⟨rfl, hb4⟩; clear P2; have hb4 := btr hb3 hb4)
        | (with_reducible refine (P3.out _).mono ?_; rintro e w5 ⟨rfl, hb5⟩; clear P3; have hb5 := btr hb4 hb5))
      | (go_at_call 38; with_reducible refine (S.out _).mono ?_; rintro e w6 ⟨rfl, rfl⟩))
    go_ret2
    exact ⟨ret_ib E2.out.symm E.out.symm, hb5⟩
end Go.Proofs.YtiboijhfieaepaaGreatDoor.zic
