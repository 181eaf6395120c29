/-
  A line as the document's own reader of layer 11 tells it: a row of seven. Plain mathematics (zs). No condition.
-/
import Derived.Test.YtiboijhfieaepaaGreatDoorZicText
import Derived.Test.YtiboijhfieaepaaGreatDoorZicWrite
import Derived.Test.YtiboijhfieaepaaGreatDoorM2
import Derived.Test.YtiboijhfieaepaaGreatDoorM1
import Derived.Test.YtiboijhfieaepaaGreatDoorZicTx
import Derived.Test.YtiboijhfieaepaaGreatDoorRef09
import Derived.Laws.IdiomStrings
import Derived.WalkSmall
import Derived.Lib.QuietBelow
namespace Go.Proofs.YtiboijhfieaepaaGreatDoor.zs
open lx cal stx
set_option linter.unusedVariables false
set_option maxRecDepth 100000

def zrow : Array Value := #[.int .i64 0, .int .i64 0, .int .i64 0, .int .i64 0, .int .i64 0, .string ⟨#[]⟩, .bool false]
def brow : Array Value := #[.int .i64 3, .int .i64 0, .int .i64 0, .int .i64 0, .int .i64 0, .string ⟨#[]⟩, .bool false]
def lrow (ws : List (List UInt8)) : Array Value := #[.int .i64 1, .int .i64 (nmI (g ws 1)), .int .i64 (mon (g ws 2)), .int .i64 (nmI (g ws 3)), .int .i64 (clkI (g ws 4)), .string (B (g ws 5)), .bool (rkR (g ws 6))]
def xrow (ws : List (List UInt8)) : Array Value := #[.int .i64 2, .int .i64 (nmI (g ws 1)), .int .i64 (mon (g ws 2)), .int .i64 (nmI (g ws 3)), .int .i64 (clkI (g ws 4)), .string ⟨#[]⟩, .bool false]
def rowC (ws : List (List UInt8)) : Array Value := if kd ws = 0 then zrow else if kd ws = 1 ∧ lfT ws = true then lrow ws else if kd ws = 2 ∧ moT (mo ws) = true then xrow ws else brow
theorem g_mo (ws : List (List UInt8)) (k : Nat) (h : k < 4) : g (mo ws) k = g ws (k + 1) := by
  unfold g mo
  rw [List.getD_eq_getElem?_getD, List.getD_eq_getElem?_getD, List.getElem?_take, if_pos h, List.getElem?_drop, Nat.add_comm 1 k]
/-- a line of seven words, the first one 'leap'. -/
theorem seven {ws : List (List UInt8)} (h : kd ws = 1) : ∃ a0 a1 a2 a3 a4 a5 a6, ws = [a0, a1, a2, a3, a4, a5, a6] ∧ a0.map fld = leapL := by
  have hl := kd_len.1 h
  match ws, hl with
  | [a0, a1, a2, a3, a4, a5, a6], _ =>
    refine ⟨a0, a1, a2, a3, a4, a5, a6, rfl, ?_⟩
    unfold kd at h
    rw [if_neg (by simp)] at h
    by_cases q : fw [a0, a1, a2, a3, a4, a5, a6] = leapL ∧ [a0, a1, a2, a3, a4, a5, a6].length = 7
    · exact q.1
    · rw [if_neg q] at h
      split at h <;> cases h
theorem five {ws : List (List UInt8)} (h : kd ws = 2) : ∃ a0 a1 a2 a3 a4, ws = [a0, a1, a2, a3, a4] ∧ a0.map fld = expL := by
  have hl := kd_len.2.1 h
  match ws, hl with
  | [a0, a1, a2, a3, a4], _ =>
    refine ⟨a0, a1, a2, a3, a4, rfl, ?_⟩
    unfold kd at h
    rw [if_neg (by simp), if_neg (fun k => by simp at k)] at h
    by_cases q : fw [a0, a1, a2, a3, a4] = expL ∧ [a0, a1, a2, a3, a4].length = 5
    · exact q.1
    · rw [if_neg q] at h
      cases h
/-- a line that is neither. -/
theorem other {ws : List (List UInt8)} (h : kd ws = 3) : ∃ a0 r, ws = a0 :: r ∧ ¬ (a0.map fld = leapL ∧ r.length = 6) ∧ ¬ (a0.map fld = expL ∧ r.length = 4) := by
  unfold kd at h
  match ws with
  | [] => simp at h
  | a0 :: r =>
    refine ⟨a0, r, rfl, fun k => ?_, fun k => ?_⟩
    · rw [if_neg (by simp), if_pos ⟨k.1, by rw [List.length_cons, k.2]⟩] at h
      cases h
    · rw [if_neg (by simp)] at h
      split at h
      · cases h
      · rw [if_pos ⟨k.1, by rw [List.length_cons, k.2]⟩] at h
        cases h
end Go.Proofs.YtiboijhfieaepaaGreatDoor.zs

/-
  The document's own answers of layer 11: months, begins, Month, Clock, words of epactref11. Conditions: the texts have fewer than 2^32 - 15 bytes.
-/
namespace Go.Proofs.YtiboijhfieaepaaGreatDoor.ref11
open Go.ChangeShapes Go.WideShapes Go.ChangeAt Go.RowKit
open lx zs mem stx cal
open zic (ret_ib names_drop one_hit one_miss occ_one sl_to sl_off)
set_option linter.unusedVariables false
set_option maxRecDepth 100000

def mA : Array Value := #[.string ⟨#[106, 97, 110, 117, 97, 114, 121]⟩, .string ⟨#[102, 101, 98, 114, 117, 97, 114, 121]⟩, .string ⟨#[109, 97, 114, 99, 104]⟩, .string ⟨#[97, 112, 114, 105, 108]⟩, .string ⟨#[109, 97, 121]⟩, .string ⟨#[106, 117, 110, 101]⟩, .string ⟨#[106, 117, 108, 121]⟩, .string ⟨#[97, 117, 103, 117, 115, 116]⟩, .string ⟨#[115, 101, 112, 116, 101, 109, 98, 101, 114]⟩, .string ⟨#[111, 99, 116, 111, 98, 101, 114]⟩, .string ⟨#[110, 111, 118, 101, 109, 98, 101, 114]⟩, .string ⟨#[100, 101, 99, 101, 109, 98, 101, 114]⟩]
theorem mA_get (j : Nat) (hj : j < 12) : mA[j]? = some (.string (B (names.getD j []))) := by
  rcases (show j = 0 ∨ j = 1 ∨ j = 2 ∨ j = 3 ∨ j = 4 ∨ j = 5 ∨ j = 6 ∨ j = 7 ∨ j = 8 ∨ j = 9 ∨ j = 10 ∨ j = 11 by omega) with rfl | rfl | rfl | rfl | rfl | rfl | rfl | rfl | rfl | rfl | rfl | rfl <;> rfl
theorem months_at (W : World) : Calls Tryz.prog 35 #[] W fun e w' => e = .returned (.slice (some ⟨W.heap.size, 0, none⟩) 12 12) ∧ w' = W.alloc (.cells mA 9) := by
  go_enter Tryz.func35, Tryz.ntmps35
  go_wp2
  go_ret
  exact ⟨rfl, rfl⟩
theorem mA_cell (w1 W' : World) (j : Nat) (hj : j < 12) (hb : Below (w1.alloc (.cells mA 9)).heap.size (w1.alloc (.cells mA 9)) W') : W'.cell? ⟨w1.heap.size, j, none⟩ = some (.string (B (names.getD j []))) :=
  (row_cell (kept (hp_new w1 _) hb) j).trans (mA_get j hj)
theorem pre_take {s t : List UInt8} (h : s.length ≤ t.length) : decide (B (t.take s.length) = B s) = s.isPrefixOf t := by
  rw [Bool.eq_iff_iff, decide_eq_true_iff, List.isPrefixOf_iff_prefix, List.prefix_iff_eq_take]
  exact ⟨fun k => (B_inj k).symm, fun k => by rw [← k]⟩
theorem pre_far {s t : List UInt8} (h : ¬ s.length ≤ t.length) : s.isPrefixOf t = false := by
  rw [Bool.eq_false_iff]
  intro k
  exact h (List.isPrefixOf_iff_prefix.1 k).length_le
theorem begins_at (s t : List UInt8) (W : World) (hs : s.length < 4294967281) (ht : t.length < 4294967281) : Calls Tryz.prog 36 #[.string (B s), .string (B t)] W fun e w' => e = .returned (.bool (s.isPrefixOf t)) ∧ W = w' := by
  have z1 := B_size s
  have z2 := B_size t
  by_cases h : s.length ≤ t.length
  · have sl := fun W => sl_to W t s.length (((B s).size : Nat) : Int) (by rw [z1]) h
    have oc := beq_s (B (t.take s.length)) (B s)
    rw [pre_take h] at oc
    have d1 : decide ((B s).size ≤ (B t).size) = true := decide_eq_true (by omega)
    have d2 : decide (((B s).size : Int) ≤ ((B t).size : Int)) = true := decide_eq_true (by omega)
    generalize B (t.take s.length) = X at *
    generalize s.isPrefixOf t = b at *
    generalize B s = Y at *
    generalize B t = Z at *
    clear h z1 z2 hs ht
    cases b
    all_goals
      go_enter Tryz.func36, Tryz.ntmps36
      go_wp2
      go_ret
      exact ⟨rfl, rfl⟩
  · rw [pre_far h]
    have d1 : decide ((B s).size ≤ (B t).size) = false := decide_eq_false (by omega)
    have d2 : decide (((B s).size : Int) ≤ ((B t).size : Int)) = false := decide_eq_false (by omega)
    generalize B s = Y at *
    generalize B t = Z at *
    clear h z1 z2 hs ht
    go_enter Tryz.func36, Tryz.ntmps36
    go_wp2
    go_ret
    exact ⟨rfl, rfl⟩
theorem names_len (j : Nat) : (names.getD j []).length ≤ 9 := by
  by_cases h : j < 12
  · revert j
    decide +kernel
  · rw [List.getD_eq_getElem?_getD, List.getElem?_eq_none (by show 12 ≤ j; omega)]
    decide
set_option maxHeartbeats 2000000 in
theorem month_at (s : ByteArray) (w : World) (hs : s.size < 4294967281) : Calls Tryz.prog 11 #[.string s] w fun e w' => e = .returned (.tuple #[.int .i64 (mon (L s)), .bool (decide (mon (L s) ≠ 0))]) ∧ Below w.heap.size w w' := by
  have C := Lib.hid (ref05.fold_at s w hs)
  have MS := Lib.hid (fun W => months_at W)
  unfold foldS at C
  have hsz : (B ((L s).map fld)).size = s.size := by rw [B_size, List.length_map, L_len]
  have PR := Lib.hid (fun j W => begins_at ((L s).map fld) (names.getD j []) W (by rw [List.length_map, L_len]; exact hs) (by have := names_len j; omega))
  have CC := Lib.hid (fun w1 W' j hj hb => mA_cell w1 W' j hj hb)
  by_cases h3 : s.size < 3
  · have E : Hid (mon (L s) = 0) := by
      show _ = _
      unfold mon monN
      rw [if_pos (by rw [L_len]; exact h3)]
      rfl
    have z3 : (B ((L s).map fld)).size < 3 := by omega
    generalize B ((L s).map fld) = b at *
    have t1 : decide ((b.size : Int) ≥ 3) = false := by simp; omega
    have t2 : decide (3 ≤ (b.size : Int)) = false := by simp; omega
    have t3 : decide (3 ≤ b.size) = false := by simp; omega
    clear PR hs hsz h3
    go_enter Tryz.func11, Tryz.ntmps11
    go_wp2_with (first
      | (go_at_call 34; with_reducible refine C.out.mono ?_; rintro e w1 ⟨rfl, hb1⟩)
      | (go_at_call 35; with_reducible refine (MS.out _).mono ?_; rintro e w2 ⟨rfl, rfl⟩))
    have HB := Lib.hid (bal hb1 (.cells mA 9))
    clear C MS hb1
    go_loop [6] (fun t => ∃ j : Nat, j ≤ 12 ∧ t = .int .i64 (j : Nat)) (fun t => 12 - (intOf t).toNat)
    case atStart => exact ⟨0, by omega, rfl⟩
    case round =>
      obtain ⟨j, hj, rfl⟩ := hrel
      by_cases hlt : j < 12
      · have d1 : decide ((j : Int) < 12) = true := decide_eq_true (by omega)
        have d2 : decide (j < 12) = true := decide_eq_true hlt
        go_wp2
        go_round
        case rel => exact ⟨j + 1, by omega, rfl⟩
        case measure => simp [intOf]; omega
      · obtain rfl : j = 12 := by omega
        go_wp2
        go_ret2
        exact ⟨ret_ib E.out.symm (by rw [E.out]; rfl), HB.out⟩
  · have E : Hid (monN (L s) = monF ((L s).map fld) names 1) := by
      show _ = _
      unfold monN
      rw [if_neg (by rw [L_len]; exact h3)]
    have z3 : 3 ≤ (B ((L s).map fld)).size := by omega
    unfold mon
    generalize (L s).map fld = b at *
    generalize monN (L s) = m at *
    have t1 : decide (((B b).size : Int) ≥ 3) = true := by simp; omega
    have t2 : decide (3 ≤ ((B b).size : Int)) = true := by simp; omega
    have t3 : decide (3 ≤ (B b).size) = true := by simp; omega
    generalize hB : B b = bb at *
    clear hs hsz h3 hB
    go_enter Tryz.func11, Tryz.ntmps11
    go_wp2_with (first
      | (go_at_call 34; with_reducible refine C.out.mono ?_; rintro e w1 ⟨rfl, hb1⟩)
      | (go_at_call 35; with_reducible refine (MS.out _).mono ?_; rintro e w2 ⟨rfl, rfl⟩))
    have HB := Lib.hid (bal hb1 (.cells mA 9))
    clear C MS hb1
    go_loop [6] (fun t => ∃ j : Nat, j ≤ 12 ∧ t = .int .i64 (j : Nat) ∧ monF b names 1 = monF b (names.drop j) (j + 1)) (fun t => 12 - (intOf t).toNat)
    case atStart => exact ⟨0, by omega, rfl, rfl⟩
    case round =>
      obtain ⟨j, hj, rfl, hm⟩ := hrel
      by_cases hlt : j < 12
      · have c0 := CC.out w1 _ j hlt (Below.refl _ _)
        have P := Lib.hid (PR.out j)
        rw [names_drop j hlt] at hm
        have d1 : decide ((j : Int) < 12) = true := decide_eq_true (by omega)
        have d2 : decide (j < 12) = true := decide_eq_true hlt
        generalize names.getD j [] = x at *
        cases hp : b.isPrefixOf x with
        | true =>
          rw [hp] at P
          have e : m = j + 1 := by rw [E.out, hm]; unfold monF; rw [if_pos hp]
          subst e
          clear hm E hp PR CC
          go_wp2_with (go_at_call 36; with_reducible refine (P.out _).mono ?_; rintro e w2 ⟨rfl, rfl⟩)
          go_ret2
          exact ⟨ret_ib rfl (decide_eq_true (show ((j + 1 : Nat) : Int) ≠ 0 by omega)).symm, HB.out⟩
        | false =>
          rw [hp] at P
          have hm2 : Hid (monF b names 1 = monF b (names.drop (j + 1)) (j + 1 + 1)) := by
            show _ = _
            rw [hm]
            show (if b.isPrefixOf x = true then _ else _) = _
            rw [if_neg (by rw [hp]; decide)]
          clear hm E hp PR CC
          go_wp2_with (go_at_call 36; with_reducible refine (P.out _).mono ?_; rintro e w2 ⟨rfl, rfl⟩)
          go_round
          case rel => exact ⟨j + 1, by omega, rfl, hm2.out⟩
          case measure => simp [intOf]; omega
      · obtain rfl : j = 12 := by omega
        have e : m = 0 := by rw [E.out, hm]; rfl
        subst e
        clear hm E PR CC
        go_wp2
        go_ret2
        exact ⟨rfl, HB.out⟩

/-! Cut at a byte -/
def hasB (c : UInt8) (l : List UInt8) : Bool := decide (c ∈ l)
theorem hasB_no {c : UInt8} {l : List UInt8} (h : hasB c l = false) : bhd c l = [] :=
  (ahd_none (fun x hx k => of_decide_eq_false h (by rw [← k]; exact hx))).2
theorem cut_at (c : UInt8) (w : World) (s : List UInt8) (hs : s.length < 4294967281) :
    Calls Tryz.prog 39 #[.string (B s), .string ⟨#[c]⟩] w fun e w' => e = .returned (.tuple #[.string (B (ahd c s)), .string (B (bhd c s)), .bool (hasB c s)]) ∧ Below w.heap.size w w' := by
  have hz : (B s).size < 4294967281 := by rw [B_size]; exact hs
  rcases hit_or (B s) ⟨#[c]⟩ with hm | ⟨i, hi⟩
  · refine (ref05.cut_miss w (Below.refl _ _) (B s) ⟨#[c]⟩ hz (by show 1 < 4294967281; decide) hm).mono ?_
    rintro e w' ⟨rfl, hb⟩
    obtain ⟨a, b⟩ := one_miss hm
    have hn : hasB c s = false := by
      refine decide_eq_false fun hx => ?_
      obtain ⟨j, hj, he⟩ := List.getElem_of_mem hx
      rcases hm with h | h
      · cases h
      · have := h j (by rw [B_size]; omega)
        rw [show L ⟨#[c]⟩ = [c] from rfl, L_B, occ_one] at this
        apply of_decide_eq_false this
        rw [List.getElem?_eq_getElem hj, he]
    rw [L_B] at a b
    rw [a, b, hn]
    exact ⟨rfl, hb⟩
  · refine (ref05.cut_hit w (Below.refl _ _) (B s) ⟨#[c]⟩ i hz hi).mono ?_
    rintro e w' ⟨rfl, hb⟩
    obtain ⟨a, b⟩ := one_hit hi
    have hy : hasB c s = true := by
      refine decide_eq_true ?_
      have e := congrArg L (hit_parts hi)
      rw [L_app, L_app, L_B, show L ⟨#[c]⟩ = [c] from rfl] at e
      rw [← e]
      simp
    rw [L_B] at a b
    rw [a, b, B_L, B_L, hy]
    exact ⟨rfl, hb⟩
/-! Clock -/
theorem second_at (a b c : Int) (W : World) : Calls Tryz.prog 41 #[.int .i64 a, .int .i64 b, .int .i64 c] W fun e w' => e = .returned (.tuple #[.int .i64 (if clkB a b c = true then secN a b c else 0), .bool (clkB a b c)]) ∧ W = w' := by
  cases h : clkB a b c with
  | true =>
    rw [if_pos rfl]
    exact ref04.second_yes a b c _ W ((clkB_iff _ _ _).1 h) rfl
  | false =>
    rw [if_neg (by decide)]
    exact ref04.second_no a b c W (fun k => by rw [(clkB_iff _ _ _).2 k] at h; cases h)
set_option maxHeartbeats 4000000 in
theorem clock_at (s : List UInt8) (w : World) (hs : s.length < 4294967281) : Calls Tryz.prog 13 #[.string (B s)] w fun e w' => e = .returned (.tuple #[.int .i64 (clkI s), .bool (clkT s)]) ∧ Below w.heap.size w w' := by
  have l1 := ahd_len 58 s
  have l2 := ahd_len 58 (bhd 58 s)
  have C1 := Lib.hid (fun W => cut_at 58 W s hs)
  have C2 := Lib.hid (fun W => cut_at 58 W (bhd 58 s) (by omega))
  have N1 : Hid (∀ W, Calls Tryz.prog 40 #[.string (B (c1 s))] W fun e w' => e = .returned (.tuple #[.int .i64 (nmI (c1 s)), .bool (nmT (c1 s))]) ∧ Below W.heap.size W w') := fun W => by
    have := ref05.number_on W (Below.refl _ _) (B (c1 s)) (by rw [B_size]; unfold c1; omega)
    rw [L_B] at this
    exact this
  have N2 : Hid (∀ W, Calls Tryz.prog 40 #[.string (B (c2 s))] W fun e w' => e = .returned (.tuple #[.int .i64 (nmI (c2 s)), .bool (nmT (c2 s))]) ∧ Below W.heap.size W w') := fun W => by
    have := ref05.number_on W (Below.refl _ _) (B (c2 s)) (by rw [B_size]; unfold c2; omega)
    rw [L_B] at this
    exact this
  have N3 : Hid (∀ W, Calls Tryz.prog 40 #[.string (B (c3 s))] W fun e w' => e = .returned (.tuple #[.int .i64 (nmI (c3 s)), .bool (nmT (c3 s))]) ∧ Below W.heap.size W w') := fun W => by
    have := ref05.number_on W (Below.refl _ _) (B (c3 s)) (by rw [B_size]; unfold c3; omega)
    rw [L_B] at this
    exact this
  have S := Lib.hid (fun W => second_at (nmI (c1 s)) (nmI (c2 s)) (nmI (c3 s)) W)
  have nil2 : hasB 58 s = false → nmT (c2 s) = false := fun h => by unfold c2; rw [hasB_no h]; rfl
  have nil3 : hasB 58 (bhd 58 s) = false → nmT (c3 s) = false := fun h => by unfold c3; rw [hasB_no h]; rfl
  have G : Hid (nmT (c1 s) = true → nmT (c2 s) = true → nmT (c3 s) = true → (c1 s).length ≤ 2 → (c2 s).length ≤ 2 → (c3 s).length ≤ 2 → clkI s = (if clkB (nmI (c1 s)) (nmI (c2 s)) (nmI (c3 s)) = true then secN (nmI (c1 s)) (nmI (c2 s)) (nmI (c3 s)) else 0) ∧ clkT s = clkB (nmI (c1 s)) (nmI (c2 s)) (nmI (c3 s))) := by
    intro a b c x y z
    have hp : ∀ q : List UInt8, q.length ≤ 2 → nmT q = true → cpT q = true ∧ cpI q = nmI q := fun q h1 h2 => by
      unfold cpT cpI cpt nmI
      rw [if_neg (by omega)]
      exact ⟨h2, rfl⟩
    obtain ⟨a1, a2⟩ := hp _ x a
    obtain ⟨b1, b2⟩ := hp _ y b
    obtain ⟨d1, d2⟩ := hp _ z c
    unfold clkI clkT
    rw [a1, b1, d1, a2, b2, d2]
    simp
  have N : Hid (¬ (nmT (c1 s) = true ∧ nmT (c2 s) = true ∧ nmT (c3 s) = true ∧ (c1 s).length ≤ 2 ∧ (c2 s).length ≤ 2 ∧ (c3 s).length ≤ 2) → clkI s = 0 ∧ clkT s = false) := by
    intro h
    have hp : ∀ q : List UInt8, cpT q = true → q.length ≤ 2 ∧ nmT q = true := fun q => by
      unfold cpT cpt
      split
      · intro k; cases k
      · exact fun k => ⟨by omega, k⟩
    have hT : clkT s = false := by
      cases k : clkT s with
      | false => rfl
      | true =>
        unfold clkT at k
        simp only [Bool.and_eq_true] at k
        obtain ⟨k1, k2, k3, _⟩ := k
        exact absurd ⟨(hp _ k1).2, (hp _ k2).2, (hp _ k3).2, (hp _ k1).1, (hp _ k2).1, (hp _ k3).1⟩ h
    exact ⟨by unfold clkI; rw [hT]; rfl, hT⟩
  rw [← B_size (c1 s), ← B_size (c2 s), ← B_size (c3 s)] at G N
  rw [show ahd 58 s = c1 s from rfl] at C1
  rw [show ahd 58 (bhd 58 s) = c2 s from rfl, show bhd 58 (bhd 58 s) = c3 s from rfl] at C2
  have z1 : (B (c1 s)).size < 4294967281 := by rw [B_size]; unfold c1; omega
  have z2 : (B (c2 s)).size < 4294967281 := by rw [B_size]; unfold c2; omega
  have z3 : (B (c3 s)).size < 4294967281 := by rw [B_size]; unfold c3; omega
  generalize clkT s = kT at *
  generalize clkI s = kI at *
  generalize nmI (c1 s) = i1 at *
  generalize nmI (c2 s) = i2 at *
  generalize nmI (c3 s) = i3 at *
  generalize nmT (c1 s) = b1 at *
  generalize nmT (c2 s) = b2 at *
  generalize nmT (c3 s) = b3 at *
  generalize B (c1 s) = x1 at *
  generalize B (c2 s) = x2 at *
  generalize B (c3 s) = x3 at *
  generalize B (bhd 58 s) = r1 at *
  generalize B s = r0 at *
  generalize hasB 58 s = f1 at *
  generalize hasB 58 (bhd 58 s) = f2 at *
  generalize (if clkB i1 i2 i3 = true then secN i1 i2 i3 else 0) = sI at *
  generalize clkB i1 i2 i3 = sT at *
  clear l1 l2 hs
  by_cases good : b1 = true ∧ b2 = true ∧ b3 = true ∧ x1.size ≤ 2 ∧ x2.size ≤ 2 ∧ x3.size ≤ 2
  · obtain ⟨rfl, rfl, rfl, y1, y2, y3⟩ := good
    obtain ⟨rfl, rfl⟩ := G.out rfl rfl rfl y1 y2 y3
    have hf1 : f1 = true := by cases f1 with | true => rfl | false => exact absurd (nil2 rfl) (by decide)
    have hf2 : f2 = true := by cases f2 with | true => rfl | false => exact absurd (nil3 rfl) (by decide)
    subst hf1 hf2
    clear nil2 nil3 G N
    have t1 : decide (2 < x1.size) = false := decide_eq_false (by omega)
    have t2 : decide (2 < x2.size) = false := decide_eq_false (by omega)
    have t3 : decide (2 < x3.size) = false := decide_eq_false (by omega)
    go_enter Tryz.func13, Tryz.ntmps13
    go_wp2_with (first
      | (go_at_call 39; first
        | (with_reducible refine (C1.out _).mono ?_; rintro e w1 ⟨rfl, hb1⟩; clear C1)
        | (with_reducible refine (C2.out _).mono ?_; rintro e w2 ⟨rfl, hb2⟩; clear C2; have hb2 := btr hb1 hb2))
      | (go_at_call 40; first
        | (with_reducible refine (N1.out _).mono ?_; rintro e w3 ⟨rfl, hb3⟩; clear N1; have hb3 := btr hb2 hb3)
        | (with_reducible refine (N2.out _).mono ?_; rintro e w4 ⟨rfl, hb4⟩; clear N2; have hb4 := btr hb3 hb4)
        | (with_reducible refine (N3.out _).mono ?_; rintro e w5 ⟨rfl, hb5⟩; clear N3; have hb5 := btr hb4 hb5))
      | (go_at_call 41; with_reducible refine (S.out _).mono ?_; rintro e w6 ⟨rfl, rfl⟩))
    go_ret2
    exact ⟨rfl, hb5⟩
  · obtain ⟨rfl, rfl⟩ := N.out good
    clear G N S
    have D : Hid (b1 = false ∨ b2 = false ∨ b3 = false ∨ (b1 = true ∧ b2 = true ∧ b3 = true ∧ (2 < x1.size ∨ (x1.size ≤ 2 ∧ 2 < x2.size) ∨ (x1.size ≤ 2 ∧ x2.size ≤ 2 ∧ 2 < x3.size)))) := by
      show _ ∨ _
      cases b1 <;> cases b2 <;> cases b3 <;> simp at good ⊢
      omega
    clear good
    rcases D.out with rfl | rfl | rfl | ⟨rfl, rfl, rfl, h⟩
    · clear D nil2 nil3
      cases f1 <;> cases f2
      all_goals
        go_enter Tryz.func13, Tryz.ntmps13
        go_wp2_with (first
          | (go_at_call 39; first
            | (with_reducible refine (C1.out _).mono ?_; rintro e w1 ⟨rfl, hb1⟩; clear C1)
            | (with_reducible refine (C2.out _).mono ?_; rintro e w2 ⟨rfl, hb2⟩; clear C2; have hb2 := btr hb1 hb2))
          | (go_at_call 40; first
            | (with_reducible refine (N1.out _).mono ?_; rintro e w3 ⟨rfl, hb3⟩; clear N1; have hb3 := btr hb2 hb3)
            | (with_reducible refine (N2.out _).mono ?_; rintro e w4 ⟨rfl, hb4⟩; clear N2; have hb4 := btr hb3 hb4)
            | (with_reducible refine (N3.out _).mono ?_; rintro e w5 ⟨rfl, hb5⟩; clear N3; have hb5 := btr hb4 hb5)))
        go_ret2
        exact ⟨rfl, hb5⟩
    · clear D nil2 nil3
      cases f1 <;> cases f2 <;> cases b1
      all_goals
        go_enter Tryz.func13, Tryz.ntmps13
        go_wp2_with (first
          | (go_at_call 39; first
            | (with_reducible refine (C1.out _).mono ?_; rintro e w1 ⟨rfl, hb1⟩; clear C1)
            | (with_reducible refine (C2.out _).mono ?_; rintro e w2 ⟨rfl, hb2⟩; clear C2; have hb2 := btr hb1 hb2))
          | (go_at_call 40; first
            | (with_reducible refine (N1.out _).mono ?_; rintro e w3 ⟨rfl, hb3⟩; clear N1; have hb3 := btr hb2 hb3)
            | (with_reducible refine (N2.out _).mono ?_; rintro e w4 ⟨rfl, hb4⟩; clear N2; have hb4 := btr hb3 hb4)
            | (with_reducible refine (N3.out _).mono ?_; rintro e w5 ⟨rfl, hb5⟩; clear N3; have hb5 := btr hb4 hb5)))
        go_ret2
        exact ⟨rfl, hb5⟩
    · clear D nil2 nil3
      cases f1 <;> cases f2 <;> cases b1 <;> cases b2
      all_goals
        go_enter Tryz.func13, Tryz.ntmps13
        go_wp2_with (first
          | (go_at_call 39; first
            | (with_reducible refine (C1.out _).mono ?_; rintro e w1 ⟨rfl, hb1⟩; clear C1)
            | (with_reducible refine (C2.out _).mono ?_; rintro e w2 ⟨rfl, hb2⟩; clear C2; have hb2 := btr hb1 hb2))
          | (go_at_call 40; first
            | (with_reducible refine (N1.out _).mono ?_; rintro e w3 ⟨rfl, hb3⟩; clear N1; have hb3 := btr hb2 hb3)
            | (with_reducible refine (N2.out _).mono ?_; rintro e w4 ⟨rfl, hb4⟩; clear N2; have hb4 := btr hb3 hb4)
            | (with_reducible refine (N3.out _).mono ?_; rintro e w5 ⟨rfl, hb5⟩; clear N3; have hb5 := btr hb4 hb5)))
        go_ret2
        exact ⟨rfl, hb5⟩
    · have hf1 : f1 = true := by cases f1 with | true => rfl | false => exact absurd (nil2 rfl) (by decide)
      have hf2 : f2 = true := by cases f2 with | true => rfl | false => exact absurd (nil3 rfl) (by decide)
      subst hf1 hf2
      clear D nil2 nil3
      rcases h with h | ⟨h, h'⟩ | ⟨h, h', h''⟩
      all_goals
        go_enter Tryz.func13, Tryz.ntmps13
        go_wp2_with (first
          | (go_at_call 39; first
            | (with_reducible refine (C1.out _).mono ?_; rintro e w1 ⟨rfl, hb1⟩; clear C1)
            | (with_reducible refine (C2.out _).mono ?_; rintro e w2 ⟨rfl, hb2⟩; clear C2; have hb2 := btr hb1 hb2))
          | (go_at_call 40; first
            | (with_reducible refine (N1.out _).mono ?_; rintro e w3 ⟨rfl, hb3⟩; clear N1; have hb3 := btr hb2 hb3)
            | (with_reducible refine (N2.out _).mono ?_; rintro e w4 ⟨rfl, hb4⟩; clear N2; have hb4 := btr hb3 hb4)
            | (with_reducible refine (N3.out _).mono ?_; rintro e w5 ⟨rfl, hb5⟩; clear N3; have hb5 := btr hb4 hb5)))
        go_ret2
        exact ⟨rfl, hb5⟩
/-! words -/
theorem words_at (s : ByteArray) (w : World) (hs : s.size < 4294967281) : Calls Tryz.prog 49 #[.string s] w (lines.Told w ((zic.wl s).map B)) := by
  have C : Hid (Calls Tryz.prog 39 #[.string s, .string ⟨#[35]⟩] w fun e w' => e = .returned (.tuple #[.string (B (ahd 35 (L s))), .string (B (bhd 35 (L s))), .bool (hasB 35 (L s))]) ∧ Below w.heap.size w w') := by
    have := cut_at 35 w (L s) (by rw [L_len]; exact hs)
    rw [B_L] at this
    exact this
  have hl := ahd_len 35 (L s)
  rw [L_len] at hl
  have WD : Hid (∀ W, Calls Tryz.prog 74 #[.string (B (ahd 35 (L s)))] W (lines.Told W (wordsS (B (ahd 35 (L s)))))) := fun W => ref05.words_at _ W (by rw [B_size]; omega)
  rw [zic.said_words] at WD
  unfold lines.Told at WD
  rw [show lw (L s) = zic.wl s from rfl] at WD
  generalize (zic.wl s).map B = Y at *
  generalize B (ahd 35 (L s)) = a at *
  generalize B (bhd 35 (L s)) = b at *
  generalize hasB 35 (L s) = f at *
  clear hl
  go_enter Tryz.func49, Tryz.ntmps49
  go_wp2_with (first
    | (go_at_call 39; with_reducible refine C.out.mono ?_; rintro e w1 ⟨rfl, hb1⟩)
    | (go_at_call 74; with_reducible refine (WD.out _).mono ?_; rintro e w2 ⟨A, c, rfl, hS, ⟨hc, hfr⟩, hb2⟩))
  go_ret
  exact ⟨A, c, rfl, hS, ⟨hc, fun b o e => Nat.le_trans hb1.size (hfr b o e)⟩, btr hb1 hb2⟩
end Go.Proofs.YtiboijhfieaepaaGreatDoor.ref11

/-
  The document's own answers of layer 11: decimals, date and Text of epactref11. Conditions: as said.
-/
namespace Go.Proofs.YtiboijhfieaepaaGreatDoor.ref11
open Go.ChangeShapes Go.WideShapes Go.ChangeAt Go.RowKit
open lx zs mem cal
open lm (Lp ce dy st)
open leap (tcs Lps rl)
open zic (txw_snoc wls_len leap_ws)
set_option linter.unusedVariables false
set_option maxRecDepth 100000

theorem one_byte (b : Int) (h0 : 0 ≤ b) (h1 : b < 256) (W : World) : (convert 57 9 (.slice (some ⟨W.heap.size, 0, none⟩) 1 1)).run Tryz.prog (W.alloc (.cells #[.int .u8 b] 5)) = .ok (.string ⟨#[UInt8.ofNat b.toNat]⟩) (W.alloc (.cells #[.int .u8 b] 5)) := by
  refine run_convert_bytes_back (P := Tryz.prog) _ 57 9 5 ⟨W.heap.size, 0, none⟩ 1 [UInt8.ofNat b.toNat] Tryz.underlying57 Tryz.underlying5 Tryz.underlying9 ?_
  intro j hj
  obtain rfl : j = 0 := by simpa using hj
  have h : (W.alloc (.cells #[.int .u8 b] 5)).cell? ⟨W.heap.size, 0, none⟩ = some (.int .u8 b) := row_cell (hp_new _ _) 0
  have e : ((UInt8.ofNat b.toNat).toNat : Int) = b := by rw [UInt8.toNat_ofNat']; omega
  show _ = some (Value.int .u8 ((UInt8.ofNat b.toNat).toNat : Int))
  rw [e]
  exact h
theorem dcm_lo (n : Int) (h0 : 0 ≤ n) (h : n < 10) : B (dcm n) = ⟨#[UInt8.ofNat (48 + n % 10).toNat]⟩ := by
  obtain ⟨m, rfl⟩ : ∃ m : Nat, n = m := ⟨n.toNat, by omega⟩
  have h' : m < 10 := by omega
  rcases (show m = 0 ∨ m = 1 ∨ m = 2 ∨ m = 3 ∨ m = 4 ∨ m = 5 ∨ m = 6 ∨ m = 7 ∨ m = 8 ∨ m = 9 by omega) with rfl | rfl | rfl | rfl | rfl | rfl | rfl | rfl | rfl | rfl <;> (apply L_inj; rw [L_B]; unfold dcm decs; simp [dec, dgt, L])
theorem dcm_hi (n : Int) (h0 : 10 ≤ n) : B (dcm (n / 10)) ++ ⟨#[UInt8.ofNat (48 + n % 10).toNat]⟩ = B (dcm n) := by
  obtain ⟨m, rfl⟩ : ∃ m : Nat, n = m := ⟨n.toNat, by omega⟩
  apply L_inj
  rw [L_app, L_B, L_B]
  unfold dcm decs
  rw [show ((m : Int) / 10).toNat = m / 10 by omega, show ((m : Int)).toNat = m by omega, if_neg (by omega), if_neg (by omega), dec_pos (n := m) (by omega)]
  show _ ++ [UInt8.ofNat (48 + (m : Int) % 10).toNat] = _ ++ [UInt8.ofNat (48 + m % 10)]
  rw [show (48 + (m : Int) % 10).toNat = 48 + m % 10 by omega]
theorem dcm_len (n : Int) (h0 : 0 ≤ n) (h1 : n ≤ 9223372036854775807) : (B (dcm n)).size ≤ 19 := by
  rw [B_size]
  unfold dcm
  exact decs_len n.toNat (by omega)
theorem dec_on (n : Int) (h0 : 0 ≤ n) (h1 : n ≤ 9223372036854775807) (w W : World) (hb : Below w.heap.size w W) : Calls Tryz.prog 63 #[.int .i64 n] W fun e w' => e = .returned (.string (B (dcm n))) ∧ Below w.heap.size w w' := by
  have hk : ∃ k : Nat, n.toNat = k := ⟨_, rfl⟩
  obtain ⟨k, hk⟩ := hk
  induction k using Nat.strongRecOn generalizing n W with
  | _ k ih =>
    have cv := one_byte (48 + n % 10) (by omega) (by omega)
    by_cases h : n < 10
    · rw [dcm_lo n h0 h]
      clear ih hk
      generalize UInt8.ofNat (48 + n % 10).toNat = B at *
      go_enter Tryz.func63, Tryz.ntmps63
      go_wp2
      go_ret
      exact ⟨rfl, bal hb _⟩
    · have R := Lib.hid (fun W hb => ih (n / 10).toNat (by omega) (n / 10) (by omega) (by omega) W hb rfl)
      have s := dcm_len (n / 10) (by omega) (by omega)
      have E := Lib.hid (dcm_hi n (by omega))
      clear ih hk
      have h10 : 10 ≤ n := by omega
      clear h
      generalize B (dcm (n / 10)) = D at *
      generalize UInt8.ofNat (48 + n % 10).toNat = B at *
      have z1 : (9223372036854775807 < D.size + 1) = False := by simp; omega
      go_enter Tryz.func63, Tryz.ntmps63
      go_wp2_with (go_at_call 63; with_reducible refine (R.out _ (bal hb _)).mono ?_; rintro e w1 ⟨rfl, hb1⟩)
      go_ret
      exact ⟨ret_s E.out, hb1⟩
/-- a day between tabs. -/
def dtL (y m d : Int) : List UInt8 := [9] ++ dcm y ++ [9] ++ mon3 m ++ [9] ++ dcm d ++ [9]
theorem nm0 (j : Nat) (hj : j < 12) : 97 ≤ ((names.getD j []).getD 0 0).toNat ∧ ((names.getD j []).getD 0 0).toNat ≤ 122 ∧ 3 ≤ (names.getD j []).length ∧ [UInt8.ofNat (((names.getD j []).getD 0 0).toNat - 32)] ++ ((names.getD j []).drop 1).take 2 = mon3 (j + 1) := by
  revert j
  unfold mon3
  decide +kernel
theorem date_on (y m d n : Int) (v : Vld y m d) (hn : cal.num y m d = n) (w W : World) (hb : Below w.heap.size w W) : Calls Tryz.prog 29 #[.int .i64 n] W fun e w' => e = .returned (.string (B (dtL y m d))) ∧ Below w.heap.size w w' := by
  have D := Lib.hid (ref03.date_on (w := w) W hb y m d n v hn)
  have dm := cal.dim_bd y m
  have vv := v
  unfold cal.Vld at vv
  obtain ⟨j, rfl, hj⟩ : ∃ j : Nat, m = (j : Int) + 1 ∧ j < 12 := ⟨(m - 1).toNat, by omega, by omega⟩
  obtain ⟨n1, n2, n3, n4⟩ := nm0 j hj
  have CC := Lib.hid (fun w1 W' hb => mA_cell w1 W' j hj hb)
  have MS := Lib.hid (fun W => months_at W)
  have DY := Lib.hid (fun W => dec_on y (by omega) (by omega) W W (Below.refl _ _))
  have DD := Lib.hid (fun W => dec_on d (by omega) (by omega) W W (Below.refl _ _))
  have s1 := dcm_len y (by omega) (by omega)
  have s2 := dcm_len d (by omega) (by omega)
  have nl := names_len j
  generalize hX : names.getD j [] = X at *
  have z0 : 3 ≤ (B X).size := by rw [B_size]; exact n3
  have zz : (B X).size ≤ 9 := by rw [B_size]; exact nl
  have q0 : ∀ h, ((B X)[0]'h).toNat = (X.getD 0 0).toNat := fun h => by
    have := bt_at (B X) 0 h
    unfold bt at this
    rw [L_B] at this
    exact this
  have sl : ∀ W, (Instr.slice 9 (.string (B X)) (some (.int .i64 1)) (some (.int .i64 3)) none).run Tryz.prog W = .ok (.string (B ((X.drop 1).take (3 - 1)))) W := fun W => by
    have := lines.sl_run W (B X) 1 3 3 rfl (by omega) z0
    rw [ext_B, L_B] at this
    exact this
  have E : Hid (⟨#[9]⟩ ++ B (dcm y) ++ ⟨#[9]⟩ ++ ⟨#[UInt8.ofNat (((X.getD 0 0).toNat : Int) - 32).toNat]⟩ ++ B ((X.drop 1).take (3 - 1)) ++ ⟨#[9]⟩ ++ B (dcm d) ++ ⟨#[9]⟩ = B (dtL y ((j : Int) + 1) d)) := by
    show _ = _
    apply L_inj
    unfold dtL
    rw [L_B, ← n4, show (((X.getD 0 0).toNat : Int) - 32).toNat = (X.getD 0 0).toNat - 32 by omega]
    simp only [L_app, L_B]
    simp [L]
  generalize hq : (X.getD 0 0).toNat = q at *
  have CV := Lib.hid (fun W => one_byte ((q : Int) - 32) (by omega) (by omega) W)
  have wm : IntKind.i64.wrap ((j : Int) + 1 - 1) = (j : Int) := (IntWalk.i64_in _ (by omega)).trans (by omega)
  have z3 : (B ((X.drop 1).take (3 - 1))).size ≤ 2 := by rw [B_size, List.length_take]; omega
  generalize B ((X.drop 1).take (3 - 1)) = X2 at *
  generalize B X = X1 at *
  generalize B (dcm y) = Y1 at *
  generalize B (dcm d) = D1 at *
  generalize UInt8.ofNat ((q : Int) - 32).toNat = U at *
  clear v vv dm hX hq n4 n3 nl hn
  go_enter Tryz.func29, Tryz.ntmps29
  go_wp2_with (first
    | (go_at_call 62; with_reducible refine D.out.mono ?_; rintro e w1 ⟨rfl, hb1⟩)
    | (go_at_call 35; with_reducible refine (MS.out _).mono ?_; rintro e w2 ⟨rfl, rfl⟩; have c0 := CC.out w1 _ (Below.refl _ _); have hb2 := bal hb1 (.cells mA 9); have cv := CV.out (w1.alloc (.cells mA 9)); simp only [World.size_alloc] at cv))
  have hb3 := bal hb2 (.cells #[.int .u8 ((q : Int) - 32)] 5)
  generalize (w1.alloc (.cells mA 9)).alloc (.cells #[.int .u8 ((q : Int) - 32)] 5) = u3 at *
  have X1' := Lib.hid (fun d' os => below_of DY.out u3 d' os)
  have X2' := Lib.hid (fun d' os => below_of DD.out u3 d' os)
  have g1 : (9223372036854775807 < 1 + Y1.size) = False := by simp; omega
  have g2 : (9223372036854775807 < 1 + Y1.size + 1) = False := by simp; omega
  have g3 : (9223372036854775807 < 1 + Y1.size + 1 + 1) = False := by simp; omega
  have g4 : (9223372036854775807 < 1 + Y1.size + 1 + 1 + X2.size) = False := by simp; omega
  have g5 : (9223372036854775807 < 1 + Y1.size + 1 + 1 + X2.size + 1) = False := by simp; omega
  have g6 : (9223372036854775807 < 1 + Y1.size + 1 + 1 + X2.size + 1 + D1.size) = False := by simp; omega
  have g7 : (9223372036854775807 < 1 + Y1.size + 1 + 1 + X2.size + 1 + D1.size + 1) = False := by simp; omega
  refine wp_region_quiet_below (by kernel_rfl) (by kernel_rfl) ?_
  repeat (quiet_step ((go_at_call 63; first | (with_reducible exact X1'.out _ _) | (with_reducible exact X2'.out _ _))))
  refine wpQuiet_nil ?_
  intro _ hw'
  obtain ⟨⟨dq, osq⟩, hw''⟩ := hw'
  subst hw''
  have HA7 := Lib.hid (btr hb3 (below_regrown u3 dq osq))
  generalize Sort.grow (redrawn u3 dq) osq = W7 at *
  go_wp2
  go_ret
  exact ⟨ret_s E.out, HA7.out⟩
/-! lines -/
theorem tabs_line (f : List UInt8) (p q : Int × Int × Int) : tabs (lnW f p q []) = gr f ++ dtL p.1 p.2.1 p.2.2 ++ clkL q.1 q.2.1 q.2.2 := by
  unfold lnW dtL
  simp [tabs]
theorem tabs_line2 (f : List UInt8) (p q : Int × Int × Int) (a b : List UInt8) : tabs (lnW f p q [a, b]) = gr f ++ dtL p.1 p.2.1 p.2.2 ++ clkL q.1 q.2.1 q.2.2 ++ [9] ++ a ++ [9] ++ b := by
  unfold lnW dtL
  simp [tabs]
theorem clk60 : clkL 23 59 60 = [50, 51, 58, 53, 57, 58, 54, 48] := by decide +kernel
theorem clk59 : clkL 23 59 59 = [50, 51, 58, 53, 57, 58, 53, 57] := by decide +kernel
theorem gr_leap' : gr leapL = [76, 101, 97, 112] := by decide +kernel
theorem gr_exp' : gr expL = [69, 120, 112, 105, 114, 101, 115] := by decide +kernel
def sgB (s : Int) : ByteArray := if s = -1 then ⟨#[50, 51, 58, 53, 57, 58, 53, 57, 9, 45]⟩ else ⟨#[50, 51, 58, 53, 57, 58, 54, 48, 9, 43]⟩
def rlB (b : Bool) : ByteArray := if b = true then ⟨#[82]⟩ else ⟨#[83]⟩
theorem line_next (lv : List Lp) (k : Nat) : B (txw (wls lv k)) ++ ⟨#[76, 101, 97, 112]⟩ ++ B (dtL (dtm (dy lv k)).1 (dtm (dy lv k)).2.1 (dtm (dy lv k)).2.2) ++ sgB (st lv k) ++ ⟨#[9]⟩ ++ rlB (rl lv k) ++ ⟨#[10]⟩ = B (txw (wls lv (k + 1))) := by
  apply L_inj
  rw [L_B, wls_succ, txw_snoc]
  unfold wLeap
  rw [tabs_line2, gr_leap']
  unfold sgB rlB
  simp only [L_app, L_B]
  by_cases h : st lv k = -1
  · simp only [h, if_true, show ckm 86399 = (23, 59, 59) from by decide, clk59]
    cases rl lv k <;> simp [L]
  · simp only [h, if_false, show ckm 86400 = (23, 59, 60) from by decide, clk60]
    cases rl lv k <;> simp [L]
theorem txt_clock (y m d h i x : Int) : ((L (stx.txt y m d h i x)).drop 11).take 8 = clkL h i x := rfl
theorem line_last (lv : List Lp) (x : Int) : B (txw (wls lv lv.length)) ++ ⟨#[69, 120, 112, 105, 114, 101, 115]⟩ ++ B (dtL (dtm (x / 86400)).1 (dtm (x / 86400)).2.1 (dtm (x / 86400)).2.2) ++ B (clkL (ckm (x % 86400)).1 (ckm (x % 86400)).2.1 (ckm (x % 86400)).2.2) ++ ⟨#[10]⟩ = B (txw (full lv true x)) := by
  apply L_inj
  rw [L_B]
  unfold full
  rw [if_pos rfl, txw_snoc]
  unfold wExp
  rw [tabs_line, gr_exp']
  simp only [L_app, L_B]
  simp [L]
theorem div_day (a : Int) (w : World) (h : -9223372036854775808 ≤ a ∧ a ≤ 9223372036854775807) (h0 : 0 ≤ a) : Calls Tryz.prog 30 #[.int .i64 a, .int .i64 86400] w fun e w' => e = .returned (.tuple #[.int .i64 (a / 86400), .int .i64 (a % 86400), .bool true]) ∧ w = w' := by
  have h1 : 0 ≤ a % 86400 := by omega
  go_enter Tryz.func30, Tryz.ntmps30
  go_wp2
  all_goals first
    | (exfalso; omega)
    | (go_ret3; exact ⟨rfl, rfl⟩)
theorem dtL_len {y m d : Int} (v : Vld y m d) : (B (dtL y m d)).size ≤ 60 := by
  have vv := v
  unfold cal.Vld at vv
  have dm := cal.dim_bd y m
  have h1 := dcm_len y (by omega) (by omega)
  have h2 := dcm_len d (by omega) (by omega)
  obtain ⟨j, rfl, hj⟩ : ∃ j : Nat, m = (j : Int) + 1 ∧ j < 12 := ⟨(m - 1).toNat, by omega, by omega⟩
  obtain ⟨n1, n2, n3, n4⟩ := nm0 j hj
  rw [B_size] at h1 h2 ⊢
  unfold dtL
  rw [← n4]
  simp only [List.length_append, List.length_take, List.length_singleton]
  omega
end Go.Proofs.YtiboijhfieaepaaGreatDoor.ref11

/-
  The document's own Text of layer 11. Conditions: as said.
-/
namespace Go.Proofs.YtiboijhfieaepaaGreatDoor.ref11
open Go.ChangeShapes Go.WideShapes Go.ChangeAt Go.RowKit
open lx zs mem cal
open lm (Lp ce dy st)
open leap (tcs Lps rl)
open zic (txw_snoc wls_len leap_ws)
set_option linter.unusedVariables false
set_option maxRecDepth 100000

def THead (lv : List Lp) (w : World) (s i : Value) (W : World) : Prop := ∃ k : Nat, k ≤ lv.length ∧ i = .int .i64 (k : Nat) ∧ s = .string (B (txw (wls lv k))) ∧ Below w.heap.size w W
theorem thead_step {lv : List Lp} {w W : World} {k : Nat} {z : ByteArray} (h : k < lv.length) (e : z = B (txw (wls lv (k + 1)))) (hb : Below w.heap.size w W) : THead lv w (.string z) (.int .i64 ((k : Int) + 1)) W := ⟨k + 1, h, rfl, by rw [e], hb⟩
theorem sg_p : sgB 1 = ⟨#[50, 51, 58, 53, 57, 58, 54, 48, 9, 43]⟩ := rfl
theorem sg_m : sgB (-1) = ⟨#[50, 51, 58, 53, 57, 58, 53, 57, 9, 45]⟩ := rfl
theorem rl_t : rlB true = ⟨#[82]⟩ := rfl
theorem rl_f : rlB false = ⟨#[83]⟩ := rfl
set_option maxHeartbeats 8000000 in
theorem text_at (lv : List Lp) (A : Option Addr) (c : Nat) (has : Bool) (x : Int) (w : World) (hl : Lps w A lv) (hn : lv.length ≤ 9223372036854775807) :
    Calls Tryz.prog 9 #[.agg #[.slice A lv.length c, .bool has, .int .i64 x]] w (zic.TXold lv has x w) := by
  have hb0 : Below w.heap.size w (w.alloc (.cells #[.slice A lv.length c, .bool has, .int .i64 x] 24)) := bal (Below.refl _ _) _
  have hk0 : (w.alloc (.cells #[.slice A lv.length c, .bool has, .int .i64 x] 24)).heap[w.heap.size]? = some (.cells (tcs A lv.length c has x) 24 (0, 0)) := hp_new w _
  have RI : Hid (∀ W, Below w.heap.size w W → Calls Tryz.prog 26 #[.agg #[.slice A lv.length c, .bool has, .int .i64 x]] W fun e w' => e = .returned (.bool (ce lv has x == 0)) ∧ Below W.heap.size W w') := fun W hb => ref09.right_at lv A c has x W (hl.below hb) hn
  have HL := Lib.hid (fun W (hb : Below w.heap.size w W) => hl.below hb)
  have HB0 := Lib.hid hb0
  have HK0 := Lib.hid hk0
  by_cases hc : ce lv has x = 0
  · have hg := lm.good_of hc
    have xb := x_bd hc
    have u : (ce lv has x == 0) = true := by simpa using hc
    rw [u] at RI
    have hcap := hg.len
    have R : Hid (∀ W, Below w.heap.size w W → zic.TXold lv has x w (.returned (.tuple #[.string (B (txw (full lv has x))), .bool true])) W) := fun W hb => ⟨hb, .inl ⟨hc, rfl⟩⟩
    have DA : Hid (∀ k, k < lv.length → ∀ W, Calls Tryz.prog 29 #[.int .i64 (dy lv k)] W fun e w' => e = .returned (.string (B (dtL (dtm (dy lv k)).1 (dtm (dy lv k)).2.1 (dtm (dy lv k)).2.2))) ∧ Below W.heap.size W w') := fun k hk W => by
      have hd := hg.day hk
      obtain ⟨v, e⟩ := dtm_spec (n := dy lv k) (by omega) (by omega)
      exact date_on _ _ _ _ v e W W (Below.refl _ _)
    have DZ : Hid (∀ k, k < lv.length → (B (dtL (dtm (dy lv k)).1 (dtm (dy lv k)).2.1 (dtm (dy lv k)).2.2)).size ≤ 60) := fun k hk => by
      have hd := hg.day hk
      obtain ⟨v, e⟩ := dtm_spec (n := dy lv k) (by omega) (by omega)
      exact dtL_len v
    have WL : Hid (∀ k, k ≤ lv.length → (B (txw (wls lv k))).size ≤ 40200) := fun k hk => by
      have := wls_len hg k hk
      rw [B_size]
      omega
    have DS := Lib.hid (fun k (hk : k < lv.length) => hg.step hk)
    have LN := Lib.hid (fun k => line_next lv k)
    have XX : Hid (has = true → 0 ≤ x ∧ x ≤ 253402300799 ∧ ∃ (T Z : ByteArray), (∀ W, Calls Tryz.prog 29 #[.int .i64 (x / 86400)] W fun e w' => e = .returned (.string Z) ∧ Below W.heap.size W w') ∧ Z.size ≤ 60 ∧
        (∀ W, Calls Tryz.prog 31 #[.int .i64 (x / 86400), .int .i64 (x % 86400)] W fun e w' => e = .returned (.tuple #[.string T, .bool true]) ∧ Below W.heap.size W w') ∧ T.size = 20 ∧
        B (txw (wls lv lv.length)) ++ ⟨#[69, 120, 112, 105, 114, 101, 115]⟩ ++ Z ++ T.extract 11 19 ++ ⟨#[10]⟩ = B (txw (full lv true x))) := fun h => by
      subst h
      simp only [if_true] at xb
      obtain ⟨v, e⟩ := dtm_spec (n := x / 86400) (by omega) (by omega)
      obtain ⟨a, b⟩ := ckm_spec (k := x % 86400) (by omega) (by omega)
      refine ⟨by omega, by omega, stx.txt (dtm (x / 86400)).1 (dtm (x / 86400)).2.1 (dtm (x / 86400)).2.2 (ckm (x % 86400)).1 (ckm (x % 86400)).2.1 (ckm (x % 86400)).2.2, B (dtL (dtm (x / 86400)).1 (dtm (x / 86400)).2.1 (dtm (x / 86400)).2.2), fun W => date_on _ _ _ _ v e W W (Below.refl _ _), dtL_len v, fun W => ref04.text_on W (Below.refl _ _) _ _ _ _ _ _ _ _ v e a b, rfl, ?_⟩
      rw [ext_B, show 19 - 11 = 8 from rfl, txt_clock]
      exact line_last lv x
    have E0 : Hid (has = false → txw (full lv has x) = txw (wls lv lv.length)) := fun h => by
      subst h
      unfold full
      simp
    clear hb0 hk0 hl hc u xb hg
    go_enter Tryz.func9, Tryz.ntmps9
    go_wp2_with (go_at_call 26; (with_reducible refine (RI.out _ HB0.out).mono ?_); rintro e w1 ⟨rfl, hb1⟩; have HW1 := Lib.hid (btr HB0.out hb1); have BX := Lib.hid (kept HK0.out hb1))
    clear RI HB0 HK0 hb1
    go_loopw [4, 5] (fun s i W => THead lv w1 s i W) (fun _ i _ => lv.length - (intOf i).toNat)
    case atStart => exact ⟨0, Nat.zero_le _, rfl, rfl, Below.refl _ _⟩
    case round =>
      obtain ⟨k, hk, rfl, rfl, hbr⟩ := hrel
      have exr := btr HW1.out hbr
      obtain ⟨c0, c1, c2⟩ := leap.tcs_cells (kept BX.out hbr)
      have z1 := WL.out k hk
      by_cases hlt : k < lv.length
      · obtain ⟨b, o, rfl, hbl, hcell⟩ := HL.out _ exr (by intro e; rw [e] at hlt; simp at hlt)
        obtain ⟨x0, x1, x2⟩ := hcell k hlt
        have hst := DS.out k hlt
        have d1 : decide ((k : Int) < (lv.length : Int)) = true := by simp; omega
        have d2 : decide (k < lv.length) = true := by simp; omega
        have DAk := Lib.hid (DA.out k hlt)
        have z2 := DZ.out k hlt
        have LNk := LN.out k
        have HBR := Lib.hid hbr
        have ST := Lib.hid (fun W z e (hb : Below w1.heap.size w1 W) => thead_step (z := z) hlt e hb)
        clear hcell HL DS XX R E0 exr HW1 BX DA DZ WL LN hbr
        generalize B (dtL (dtm (dy lv k)).1 (dtm (dy lv k)).2.1 (dtm (dy lv k)).2.2) = DT at *
        generalize B (txw (wls lv k)) = s1 at *
        rcases hst with hst | hst <;> cases hr : rl lv k
        all_goals
          rw [hst] at x1 LNk
          rw [hr] at x2 LNk
          first | rw [sg_p] at LNk | rw [sg_m] at LNk
          first | rw [rl_t] at LNk | rw [rl_f] at LNk
          have LE := Lib.hid LNk
          clear hst hr LNk
          generalize dy lv k = D at *
          go_wp2_with (go_at_call 29; (with_reducible refine (DAk.out _).mono ?_); rintro e w5 ⟨rfl, hb5⟩; have HB5 := Lib.hid (btr (bal HBR.out _) hb5))
          go_roundw
          case rel => exact ST.out _ _ LE.out HB5.out
          case measure => simp [intOf]; omega
      · obtain rfl : k = lv.length := by omega
        have d1 : decide ((lv.length : Int) < (lv.length : Int)) = false := decide_eq_false (by omega)
        have d2 : decide (lv.length < lv.length) = false := decide_eq_false (by omega)
        have HA := Lib.hid exr
        clear HL DS DA DZ WL LN hbr HW1 BX exr
        cases has with
        | false =>
          have e0 := E0.out rfl
          rw [e0] at R
          clear E0 XX e0
          generalize B (txw (wls lv lv.length)) = s1 at *
          go_wp2
          go_ret2
          exact R.out _ HA.out
        | true =>
          obtain ⟨y1, y2, T, Z, XD, zz, XT, tz, LE⟩ := XX.out rfl
          rw [← LE] at R
          have sl : ∀ W, (Instr.slice 9 (.string T) (some (.int .i64 11)) (some (.int .i64 19)) none).run Tryz.prog W = .ok (.string (T.extract 11 19)) W := fun W => lines.sl_run W T 11 19 19 rfl (by omega) (by omega)
          have zt : (T.extract 11 19).size ≤ 20 := by simp; omega
          have XD := Lib.hid XD
          have XT := Lib.hid XT
          have DV := Lib.hid (fun W => div_day x W ⟨by omega, by omega⟩ y1)
          clear E0 XX LE
          generalize B (txw (wls lv lv.length)) = s1 at *
          generalize T.extract 11 19 = T2 at *
          have g1 : (9223372036854775807 < s1.size + 7) = False := by simp; omega
          have g2 : (9223372036854775807 < s1.size + 7 + Z.size) = False := by simp; omega
          have g3 : (9223372036854775807 < s1.size + 7 + Z.size + T2.size) = False := by simp; omega
          have g4 : (9223372036854775807 < s1.size + 7 + Z.size + T2.size + 1) = False := by simp; omega
          generalize x / 86400 = D at *
          generalize x % 86400 = S at *
          go_wp2_with (first
            | (go_at_call 30; (with_reducible refine (DV.out _).mono ?_); rintro e w2 ⟨rfl, rfl⟩)
            | (go_at_call 31; (with_reducible refine (XT.out _).mono ?_); rintro e w3 ⟨rfl, hb3⟩; have HA3 := Lib.hid (btr HA.out hb3)))
          have XQ := Lib.hid (fun d' os => below_at (w := w3) (T := fun W => Below w.heap.size w W) (fun W _ => XD.out W) (fun W hb => btr HA3.out hb) d' os)
          refine wp_region_quiet_below (by kernel_rfl) (by kernel_rfl) ?_
          repeat (quiet_step ((go_at_call 29; with_reducible exact XQ.out _ _)))
          refine wpQuiet_nil ?_
          intro _ hw'
          obtain ⟨⟨dq, osq⟩, hw''⟩ := hw'
          subst hw''
          have HA7 := Lib.hid (btr HA3.out (below_regrown _ dq osq))
          generalize Sort.grow (redrawn w3 dq) osq = W7 at *
          go_wp2
          go_ret2
          exact R.out _ HA7.out
  · have u : (ce lv has x == 0) = false := by simpa using hc
    rw [u] at RI
    have R : Hid (∀ W, Below w.heap.size w W → zic.TXold lv has x w (.returned (.tuple #[.string ⟨#[]⟩, .bool false])) W) := fun W hb => ⟨hb, .inr ⟨hc, rfl⟩⟩
    clear hb0 hl hc u hk0 HL HK0
    go_enter Tryz.func9, Tryz.ntmps9
    go_wp2_with (go_at_call 26; (with_reducible refine (RI.out _ HB0.out).mono ?_); rintro e w1 ⟨rfl, hb1⟩; have hb1 := btr HB0.out hb1)
    go_ret2
    exact R.out _ hb1
end Go.Proofs.YtiboijhfieaepaaGreatDoor.ref11
