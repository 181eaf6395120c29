/-
  The small case of layer 11, as plain mathematics: what is read of its texts, and what is written. No condition.
-/
import Derived.Test.YtiboijhfieaepaaGreatDoorZicTx
import Derived.Test.YtiboijhfieaepaaGreatDoorLeapSame
import Derived.Test.YtiboijhfieaepaaGreatDoorLeapAdd
import Derived.ChangeKeysEq
import Derived.BigFrame
import Derived.Test.YtiboijhfieaepaaGreatDoorDayDate
import Derived.Test.YtiboijhfieaepaaGreatDoorLaw
import Derived.LaidMore
import Derived.Lib.LaidTab
import Derived.Deep.Strs
import Derived.Stop.Joined
import Derived.Deep.Slices
import Derived.Lib.SmallJoins
import Derived.HandedShaped
import Derived.Lay
namespace Go.Proofs.YtiboijhfieaepaaGreatDoor.zs
open lx cal stx
open lm (Lp ce dy st)
open zic (wl)
set_option linter.unusedVariables false
set_option maxRecDepth 100000

def tA : ByteArray := ⟨#[35, 32, 120, 10, 76, 101, 97, 112, 9, 49, 57, 55, 50, 9, 74, 117, 110, 9, 51, 48, 9, 50, 51, 58, 53, 57, 58, 54, 48, 9, 43, 9, 83, 32, 35, 32, 121, 10, 10, 108, 101, 97, 112, 32, 49, 57, 55, 50, 32, 68, 69, 67, 69, 77, 66, 69, 82, 32, 51, 49, 32, 50, 51, 58, 53, 57, 58, 53, 57, 32, 45, 32, 114, 111, 108, 108, 10, 69, 120, 112, 105, 114, 101, 115, 32, 49, 57, 55, 52, 32, 74, 97, 110, 32, 49, 32, 48, 58, 48, 48, 58, 48, 53, 10]⟩
def tC : ByteArray := ⟨#[76, 101, 97, 112, 32, 49, 57, 55, 50, 32, 74, 117, 110, 32, 51, 48, 32, 50, 51, 58, 53, 57, 58, 53, 57, 32, 43, 32, 83]⟩
def tD : ByteArray := ⟨#[10, 76, 101, 97, 112, 32, 49, 57, 55, 50, 32, 74, 117, 110, 32, 50, 57, 32, 50, 51, 58, 53, 57, 58, 54, 48, 32, 43, 32, 83]⟩
def tE : ByteArray := ⟨#[76, 101, 97, 112, 32, 49, 57, 55, 50, 32, 74, 117, 110, 32, 51, 49, 32, 50, 51, 58, 53, 57, 58, 54, 48, 32, 43, 32, 83]⟩
def tF : ByteArray := ⟨#[76, 101, 97, 112, 32, 49, 57, 55, 50, 32, 74, 117, 32, 51, 48, 32, 50, 51, 58, 53, 57, 58, 54, 48, 32, 43, 32, 83]⟩
def tG : ByteArray := ⟨#[69, 120, 112, 105, 114, 101, 115, 32, 49, 57, 55, 51, 32, 74, 97, 110, 32, 49, 32, 48, 58, 48, 58, 48, 10, 69, 120, 112, 105, 114, 101, 115, 32, 49, 57, 55, 51, 32, 74, 97, 110, 32, 49, 32, 48, 58, 48, 58, 48]⟩
def tS : ByteArray := ⟨#[76, 101, 97, 112, 9, 49, 57, 55, 50, 9, 74, 117, 110, 9, 51, 48, 9, 50, 51, 58, 53, 57, 58, 54, 48, 9, 43, 9, 83, 10, 76, 101, 97, 112, 9, 49, 57, 55, 50, 9, 68, 101, 99, 9, 51, 49, 9, 50, 51, 58, 53, 57, 58, 53, 57, 9, 45, 9, 82, 10, 69, 120, 112, 105, 114, 101, 115, 9, 49, 57, 55, 52, 9, 74, 97, 110, 9, 49, 9, 48, 48, 58, 48, 48, 58, 48, 53, 10]⟩
def wa : List (List UInt8) := [[76, 101, 97, 112], [49, 57, 55, 50], [74, 117, 110], [51, 48], [50, 51, 58, 53, 57, 58, 54, 48], [43], [83]]
def wb : List (List UInt8) := [[108, 101, 97, 112], [49, 57, 55, 50], [68, 69, 67, 69, 77, 66, 69, 82], [51, 49], [50, 51, 58, 53, 57, 58, 53, 57], [45], [114, 111, 108, 108]]
def wc : List (List UInt8) := [[69, 120, 112, 105, 114, 101, 115], [49, 57, 55, 52], [74, 97, 110], [49], [48, 58, 48, 48, 58, 48, 53]]
def xc : List (List UInt8) := [[76, 101, 97, 112], [49, 57, 55, 50], [74, 117, 110], [51, 48], [50, 51, 58, 53, 57, 58, 53, 57], [43], [83]]
def xd : List (List UInt8) := [[76, 101, 97, 112], [49, 57, 55, 50], [74, 117, 110], [50, 57], [50, 51, 58, 53, 57, 58, 54, 48], [43], [83]]
def xe' : List (List UInt8) := [[76, 101, 97, 112], [49, 57, 55, 50], [74, 117, 110], [51, 49], [50, 51, 58, 53, 57, 58, 54, 48], [43], [83]]
def xf : List (List UInt8) := [[76, 101, 97, 112], [49, 57, 55, 50], [74, 117], [51, 48], [50, 51, 58, 53, 57, 58, 54, 48], [43], [83]]
def xg : List (List UInt8) := [[69, 120, 112, 105, 114, 101, 115], [49, 57, 55, 51], [74, 97, 110], [49], [48, 58, 48, 58, 48]]
theorem lines_a : (splitS tA).map wl = [[], wa, [], wb, wc] := by decide +kernel
theorem lines_c : (splitS tC).map wl = [xc] := by decide +kernel
theorem lines_d : (splitS tD).map wl = [[], xd] := by decide +kernel
theorem lines_e : (splitS tE).map wl = [xe'] := by decide +kernel
theorem lines_f : (splitS tF).map wl = [xf] := by decide +kernel
theorem lines_g : (splitS tG).map wl = [xg, xg] := by decide +kernel
def lA : List Lp := [(911, 1, false), (1095, -1, true)]
theorem goodA : lm.Good lA := by
  intro i hi
  match i, hi with
  | 0, _ => exact lm.wr_ok.2 ⟨by decide, by decide, by decide, lm.end_911, by decide, by decide⟩
  | 1, _ => exact lm.wr_ok.2 ⟨by decide, by decide, by decide, lm.end_1095, by decide, by decide⟩
theorem ceA : ce lA true 126230405 = 0 := lm.ce_ok.2 ⟨goodA, by decide⟩
theorem ce1 : ce [(911, 1, false)] false 0 = 0 := ce_good (good_take goodA 1)
theorem ce2 : ce lA false 0 = 0 := ce_good goodA
theorem end_910 : lm.endB 910 = false := lm.end_not (y := 1972) (m := 6) (d := 29) (by decide) (by decide) (by decide)
theorem ce3 : ce [(910, 1, false)] false 0 = 5 := by
  have h : lm.wr [(910, 1, false)] 0 = 5 := by
    unfold lm.wr
    rw [show lm.dy [((910 : Int), (1 : Int), false)] 0 = 910 from rfl, end_910]
    decide
  exact ((lm.ce_at (k := 0) (has := false) (x := 0) (fun i hi => absurd hi (by omega)) (by decide) (by rw [h]; decide)).2).trans h
theorem skip {s : S} (r : List (List (List UInt8))) (k : Nat) : run ([] :: r) k s = run r (k + 1) (stS [] (k + 1) s) := run_go rfl r k
theorem leap_E {w : List (List UInt8)} {s : S} {v : Int} (hk : kd w = 1) (hf : lfT w = true) (hd : moD (mo w) = true) (hs : moS (mo w) = if sgn w = -1 then 86399 else 86400) (hc : ce (s.lv ++ [lpO w]) false 0 = v) : stE w s = v := by
  unfold stE lE
  rw [hk, if_neg (by decide), if_pos rfl, hf, if_neg (by decide), hd, if_neg (by decide), if_neg (fun h => h hs), hc]
def q1 : S := stS [] 1 S0
def q2 : S := stS wa 2 q1
def q3 : S := stS [] 3 q2
def q4 : S := stS wb 4 q3
def q5 : S := stS wc 5 q4
theorem parse_a : parse ((splitS tA).map wl) = ⟨0, 0, lA, true, 126230405⟩ := by
  rw [lines_a]
  have h : run [[], wa, [], wb, wc] 0 S0 = ((0, 0), q5) := by
    rw [skip]
    show run [wa, [], wb, wc] 1 q1 = _
    rw [run_go (leap_E (by decide +kernel) (by decide +kernel) (by decide +kernel) (by decide +kernel) (by rw [show q1.lv ++ [lpO wa] = [(911, 1, false)] from by decide +kernel]; exact ce1))]
    show run [[], wb, wc] 2 q2 = _
    rw [skip]
    show run [wb, wc] 3 q3 = _
    rw [run_go (leap_E (by decide +kernel) (by decide +kernel) (by decide +kernel) (by decide +kernel) (by rw [show q3.lv ++ [lpO wb] = lA from by decide +kernel]; exact ce2))]
    show run [wc] 4 q4 = _
    have e : stE wc q4 = 0 := by
      unfold stE
      rw [show kd wc = 2 from by decide +kernel, if_neg (by decide), if_neg (by decide), if_pos rfl]
      decide +kernel
    rw [run_go e, run_nil]
    rfl
  rw [run_fin h]
  have f : q5.lv = lA ∧ q5.xl = 5 ∧ q5.ex = 126230405 := by decide +kernel
  obtain ⟨f1, f2, f3⟩ := f
  unfold fin
  rw [f1, f2, f3, if_neg (by decide), if_pos ceA]
theorem bad_run {ws : List (List (List UInt8))} {n : Nat} {c : Int} {s : S} (h : run ws 0 S0 = ((n, c), s)) (hc : c ≠ 0) : parse ws = bad n c := by
  unfold parse
  rw [h, if_pos hc]
theorem parse_c : parse ((splitS tC).map wl) = bad 1 6 := by
  rw [lines_c]
  have e : stE xc S0 = 6 := by
    unfold stE lE
    rw [show kd xc = 1 from by decide +kernel, if_neg (by decide), if_pos rfl, if_neg (by decide +kernel), if_neg (by decide +kernel), if_pos (by decide +kernel)]
  exact bad_run (s := S0) (by rw [run_no (by rw [e]; decide), e]) (by decide)
theorem parse_d : parse ((splitS tD).map wl) = bad 2 5 := by
  rw [lines_d]
  have e : stE xd q1 = 5 := leap_E (by decide +kernel) (by decide +kernel) (by decide +kernel) (by decide +kernel) (by rw [show q1.lv ++ [lpO xd] = [(910, 1, false)] from by decide +kernel]; exact ce3)
  refine bad_run (s := q1) ?_ (by decide)
  rw [skip]
  show run [xd] 1 q1 = _
  rw [run_no (by rw [e]; decide), e]
theorem parse_e : parse ((splitS tE).map wl) = bad 1 9 := by
  rw [lines_e]
  have e : stE xe' S0 = 9 := by
    unfold stE lE
    rw [show kd xe' = 1 from by decide +kernel, if_neg (by decide), if_pos rfl, if_neg (by decide +kernel), if_pos (by decide +kernel)]
  exact bad_run (s := S0) (by rw [run_no (by rw [e]; decide), e]) (by decide)
theorem parse_f : parse ((splitS tF).map wl) = bad 1 2 := by
  rw [lines_f]
  have e : stE xf S0 = 2 := by
    unfold stE lE
    rw [show kd xf = 1 from by decide +kernel, if_neg (by decide), if_pos rfl, if_pos (by decide +kernel)]
  exact bad_run (s := S0) (by rw [run_no (by rw [e]; decide), e]) (by decide)
def g1' : S := stS xg 1 S0
theorem parse_g : parse ((splitS tG).map wl) = bad 2 2 := by
  rw [lines_g]
  have k : kd xg = 2 := by decide +kernel
  have e1 : stE xg S0 = 0 := by
    unfold stE
    rw [k, if_neg (by decide), if_neg (by decide), if_pos rfl]
    decide +kernel
  have e2 : stE xg g1' = 2 := by
    unfold stE
    rw [k, if_neg (by decide), if_neg (by decide), if_pos rfl]
    decide +kernel
  refine bad_run (s := g1') ?_ (by decide)
  rw [run_go e1]
  show run [xg] 1 g1' = _
  rw [run_no (by rw [e2]; decide), e2]
theorem text_lits : B (txw (full lA true 126230405)) = tS := by
  have d1 : dtm 911 = (1972, 6, 30) := dtm_is (by decide) (by decide)
  have d2 : dtm 1095 = (1972, 12, 31) := dtm_is (by decide) (by decide)
  have d3 : dtm 1461 = (1974, 1, 1) := dtm_is (by decide) (by decide)
  have e : full lA true 126230405 = [lnW leapL (dtm 911) (ckm 86400) [[43], [83]], lnW leapL (dtm 1095) (ckm 86399) [[45], [82]], lnW expL (dtm 1461) (ckm 5) []] := rfl
  rw [e, d1, d2, d3]
  decide +kernel
theorem small_months : mon [115, 69, 112, 116] = 9 ∧ mon [109, 97] = 0 := by decide +kernel
theorem small_clocks : clkT [49, 58, 50, 58, 51] = true ∧ clkI [49, 58, 50, 58, 51] = 3723 ∧ clkT [49, 58, 50] = false ∧ clkT [48, 48, 49, 58, 50, 58, 51] = false ∧ clkI [49, 58, 50] = 0 ∧ clkI [48, 48, 49, 58, 50, 58, 51] = 0 := by decide +kernel
end Go.Proofs.YtiboijhfieaepaaGreatDoor.zs

/-
  The document's own answer of layer 9, Same, and the bound of its laws, Few, for seats that have no more of them. Condition: the slices read as the rows.
-/
namespace Go.Proofs.YtiboijhfieaepaaGreatDoor.ref09
open Go.ChangeShapes Go.WideShapes Go.ChangeAt Go.RowKit
open lm mem leap
set_option linter.unusedVariables false
set_option maxRecDepth 100000

/-- at the head of a round. -/
def SHead (l m : List Lp) (W1 : World) (i : Value) (W : World) : Prop :=
  ∃ k : Nat, k ≤ l.length ∧ i = .int .i64 (k : Nat) ∧ Below W1.heap.size W1 W ∧ ∀ j, j < k → (dy l j, lm.st l j, rl l j) = (dy m j, lm.st m j, rl m j)
set_option maxHeartbeats 2000000 in
theorem same_at (l m : List Lp) (A B : Option Addr) (c d : Nat) (h1 h2 : Bool) (x y : Int) (w : World) (h : Lps w A l) (g : Lps w B m) (hl : l.length ≤ 9223372036854775807) (hm : m.length ≤ 9223372036854775807) :
    Calls Tryz.prog 14 #[.agg #[.slice A l.length c, .bool h1, .int .i64 x], .agg #[.slice B m.length d, .bool h2, .int .i64 y]] w fun e w' => e = .returned (.bool (sm l m h1 h2 x y)) ∧ Below w.heap.size w w' := by
  have hw : Below w.heap.size w ((w.alloc (.cells #[.slice A l.length c, .bool h1, .int .i64 x] 24)).alloc (.cells #[.slice B m.length d, .bool h2, .int .i64 y] 24)) := bal (bal (Below.refl w.heap.size w) _) _
  have b0 : ((w.alloc (.cells #[.slice A l.length c, .bool h1, .int .i64 x] 24)).alloc (.cells #[.slice B m.length d, .bool h2, .int .i64 y] 24)).heap[w.heap.size]? = some (.cells (tcs A l.length c h1 x) 24) := hp_old (hp_new w _) _
  have b1 : ((w.alloc (.cells #[.slice A l.length c, .bool h1, .int .i64 x] 24)).alloc (.cells #[.slice B m.length d, .bool h2, .int .i64 y] 24)).heap[w.heap.size + 1]? = some (.cells (tcs B m.length d h2 y) 24) := hp_new1 w _ _
  have h' := h.below hw
  have g' := g.below hw
  have SI : Hid (sm l m h1 h2 x y = true ↔ l = m ∧ h1 = h2 ∧ x = y) := sm_iff
  have HB := Lib.hid hw
  clear h g hw
  by_cases hlen : l.length = m.length
  · by_cases e1 : h1 = h2
    · by_cases e2 : x = y
      · subst e1
        subst e2
        have SJ : Hid ((sm l m h1 h1 x x = true ↔ l = m)) := ⟨fun e => (SI.out.1 e).1, fun e => SI.out.2 ⟨e, rfl, rfl⟩⟩
        have q0 : ((l.length : Int) != (m.length : Int)) = false := by rw [hlen]; simp
        have HLE := Lib.hid hlen
        clear SI hlen
        go_enter Tryz.func14, Tryz.ntmps14
        go_wp2_with fail
        generalize (w.alloc (.cells #[.slice A l.length c, .bool h1, .int .i64 x] 24)).alloc (.cells #[.slice B m.length d, .bool h1, .int .i64 x] 24) = W1 at *
        go_loopw [5] (fun i W => SHead l m W1 i W) (fun i _ => l.length - (intOf i).toNat)
        case atStart => exact ⟨0, Nat.zero_le _, rfl, Below.refl _ _, fun j hj => by omega⟩
        case round =>
          obtain ⟨k, hk, rfl, hb, hok⟩ := hrel
          obtain ⟨t0, t1, t2⟩ := tcs_cells (kept b0 hb)
          obtain ⟨u0, u1, u2⟩ := tcs_cells (kept b1 hb)
          by_cases hlt : k < l.length
          · have hkm : k < m.length := by have := HLE.out; omega
            obtain ⟨b, o, rfl, hb0, hc⟩ := h'.below hb (by omega)
            obtain ⟨b', o', rfl, hb1, hc'⟩ := g'.below hb (by omega)
            obtain ⟨x0, x1, x2⟩ := hc k hlt
            obtain ⟨y0, y1, y2⟩ := hc' k hkm
            have q := eqL (dy l k) (lm.st l k) (dy m k) (lm.st m k) (rl l k) (rl m k)
            by_cases he : (dy l k, lm.st l k, rl l k) = (dy m k, lm.st m k, rl m k)
            · rw [decide_eq_true he] at q
              have R : Hid (∀ W', Below W1.heap.size W1 W' → SHead l m W1 (.int .i64 ((k : Int) + 1)) W') := fun W' hb' => ⟨k + 1, by omega, rfl, hb', fun j hj => by
                rcases Nat.eq_or_lt_of_le (Nat.le_of_lt_succ hj) with rfl | e
                · exact he
                · exact hok j e⟩
              clear hok he hc hc' h' g' b0 b1
              generalize dy l k = a0 at *
              generalize lm.st l k = a1 at *
              generalize rl l k = a2 at *
              generalize dy m k = b0 at *
              generalize lm.st m k = b1 at *
              generalize rl m k = b2 at *
              generalize l.length = n at *
              generalize m.length = n' at *
              go_wp2_with fail
              go_quiet (fail)
              go_wp2
              go_roundw
              case rel => exact R.out _ (bel_drewN hb _)
              case measure => simp [intOf]; omega
            · rw [decide_eq_false he] at q
              have E : Hid (sm l m h1 h1 x x = false) := by
                show sm l m h1 h1 x x = false
                rw [Bool.eq_false_iff]
                intro e
                exact he (by rw [SJ.out.1 e])
              clear hok he hc hc' h' g' SJ b0 b1
              generalize dy l k = a0 at *
              generalize lm.st l k = a1 at *
              generalize rl l k = a2 at *
              generalize dy m k = b0 at *
              generalize lm.st m k = b1 at *
              generalize rl m k = b2 at *
              generalize l.length = n at *
              generalize m.length = n' at *
              go_wp2_with fail
              go_quiet (fail)
              go_wp2
              go_ret
              exact ⟨(congrArg (fun b => Ending.returned (Value.bool b)) E.out).symm, bel_drewN (btr HB.out hb) _⟩
          · obtain rfl : k = l.length := by omega
            have E : Hid (sm l m h1 h1 x x = true) := SJ.out.2 (ext3 HLE.out hok)
            clear hok h' g' SJ
            go_wp2
            go_ret
            exact ⟨(congrArg (fun b => Ending.returned (Value.bool b)) E.out).symm, btr HB.out hb⟩
      · have E : sm l m h1 h2 x y = false := by
          rw [Bool.eq_false_iff]
          intro e
          exact e2 (SI.out.1 e).2.2
        rw [E]
        subst e1
        have q0 : ((l.length : Int) != (m.length : Int)) = false := by rw [hlen]; simp
        have q1 : (h1 != h1) = false := by simp
        have q2 : (x != y) = true := by simpa using e2
        clear SI E h' g' b0 b1 hlen e2
        generalize l.length = n at *
        generalize m.length = n' at *
        go_enter Tryz.func14, Tryz.ntmps14
        go_wp2
        go_ret
        exact ⟨rfl, HB.out⟩
    · have E : sm l m h1 h2 x y = false := by
        rw [Bool.eq_false_iff]
        intro e
        exact e1 (SI.out.1 e).2.1
      rw [E]
      have q0 : ((l.length : Int) != (m.length : Int)) = false := by rw [hlen]; simp
      clear SI E h' g' b0 b1 hlen
      generalize l.length = n at *
      generalize m.length = n' at *
      cases h1 <;> cases h2
      · exact absurd rfl e1
      · clear e1
        go_enter Tryz.func14, Tryz.ntmps14
        go_wp2
        go_ret
        exact ⟨rfl, HB.out⟩
      · clear e1
        go_enter Tryz.func14, Tryz.ntmps14
        go_wp2
        go_ret
        exact ⟨rfl, HB.out⟩
      · exact absurd rfl e1
  · have E : sm l m h1 h2 x y = false := by
      rw [Bool.eq_false_iff]
      intro e
      exact hlen (by rw [(SI.out.1 e).1])
    rw [E]
    have q0 : ((l.length : Int) != (m.length : Int)) = true := by simp; omega
    clear SI E h' g' b0 b1 hlen
    generalize l.length = n at *
    generalize m.length = n' at *
    go_enter Tryz.func14, Tryz.ntmps14
    go_wp2
    go_ret
    exact ⟨rfl, HB.out⟩
end Go.Proofs.YtiboijhfieaepaaGreatDoor.ref09
namespace Go.Proofs.YtiboijhfieaepaaGreatDoor.leap
open Go.ChangeShapes Go.WideShapes Go.ChangeAt Go.RowKit
open lm mem
theorem few_at (A : Option Addr) (n c : Nat) (has : Bool) (x : Int) (w : World) (hn : n ≤ 9223372036854775807) : Calls Tryz.prog 5 #[.agg #[.slice A n c, .bool has, .int .i64 x]] w fun e w' => e = .returned (.bool (decide (n ≤ 300))) ∧ Below w.heap.size w w' := by
  have hb := bal (Below.refl w.heap.size w) (.cells #[.slice A n c, .bool has, .int .i64 x] 24)
  by_cases h : n ≤ 300
  · rw [decide_eq_true h]
    have t : decide ((n : Int) ≤ 300) = true := by simp; omega
    go_enter Tryz.func5, Tryz.ntmps5
    go_wp2
    go_ret
    exact ⟨rfl, hb⟩
  · rw [decide_eq_false h]
    have t : decide ((n : Int) ≤ 300) = false := by simp; omega
    go_enter Tryz.func5, Tryz.ntmps5
    go_wp2
    go_ret
    exact ⟨rfl, hb⟩
theorem sm_self (l : List Lp) (h : Bool) (x : Int) : sm l l h h x x = true := sm_iff.2 ⟨rfl, rfl, rfl⟩
end Go.Proofs.YtiboijhfieaepaaGreatDoor.leap

/-
  The small case of layer 11 comes out true. Conditions: the listed tables hold what their initialisers lay; the library's variable MaxLen holds some number.
-/
namespace Go.Proofs.YtiboijhfieaepaaGreatDoor.zic
open Go.ChangeShapes Go.WideShapes Go.ChangeAt Go.RowKit
open lx zs mem
open leap (tcs Lps sm)
set_option linter.unusedVariables false
set_option maxRecDepth 100000

theorem eqF (a b c d : Int) (W : World) : (Op.equalIn 10000 29 (.agg #[.int .i64 a, .int .i64 b]) (.agg #[.int .i64 c, .int .i64 d])).run Tryz.prog W = .ok (a == c && b == d) W := by
  rw [run_equalIn_struct W 9999 29 _ _ (by kernel_rfl) (by kernel_rfl)]
  have hf : Tryz.prog.fieldsOf 29 = (match Tryz.prog.underlying 29 with | some (.struct fs) => fs | _ => #[]) := by kernel_rfl
  rw [Tryz.underlying29] at hf
  simp only at hf
  rw [hf]
  have p0 : ∀ x y : Int, (part 3 #[.int .i64 x, .int .i64 y] 0).run Tryz.prog W = .ok (.int .i64 x) W := fun x y => by simp [part, isAgg, run_underlying Tryz.underlying3]
  have p1 : ∀ x y : Int, (part 27 #[.int .i64 x, .int .i64 y] 1).run Tryz.prog W = .ok (.int .i64 y) W := fun x y => by simp [part, isAgg, run_underlying Tryz.underlying27]
  have e3 : ∀ x y : Int, (Op.equalIn 9999 3 (.int .i64 x) (.int .i64 y)).run Tryz.prog W = .ok (x == y) W := fun x y => run_equalIn_int W 9998 3 .i64 .i64 x y Tryz.underlying3
  have e4 : ∀ x y : Int, (Op.equalIn 9999 27 (.int .i64 x) (.int .i64 y)).run Tryz.prog W = .ok (x == y) W := fun x y => run_equalIn_int W 9998 27 .i64 .i64 x y Tryz.underlying27
  by_cases h : a = c <;> by_cases h2 : b = d <;> simp [Op.eqFields, Sem.run_bind, p0, p1, e3, e4, h, h2]
/-- blocks that hold what they hold. -/
def Bx (W : World) (l : List (Nat × Obj)) : Prop := ∀ (k : Nat) (p : Nat × Obj), l[k]? = some p → W.heap[p.1]? = some p.2
theorem bx_below {W W' : World} {l : List (Nat × Obj)} (h : Bx W l) (hb : Below W.heap.size W W') : Bx W' l := fun k p hp => kept (h k p hp) hb
theorem bx_one {W : World} {l : List (Nat × Obj)} (h : Bx W l) (a : Obj) : Bx (W.alloc a) ((W.heap.size, a) :: l) := fun k p hp => by
  cases k with
  | zero => cases hp; exact hp_new W a
  | succ k => exact hp_old (h k p hp) a
theorem bx_two {W : World} {l : List (Nat × Obj)} (h : Bx W l) (a b : Obj) : Bx ((W.alloc a).alloc b) ((W.heap.size + 1, b) :: (W.heap.size, a) :: l) := by
  have := bx_one (bx_one h a) b
  rw [show (W.alloc a).heap.size = W.heap.size + 1 by simp] at this
  exact this
theorem bx_at0 {W : World} {x0 : Nat × Obj} {l : List (Nat × Obj)} (h : Bx W (x0 :: l)) : W.heap[x0.1]? = some x0.2 := h 0 _ rfl
theorem bx_at1 {W : World} {x0 x1 : Nat × Obj} {l : List (Nat × Obj)} (h : Bx W (x0 :: x1 :: l)) : W.heap[x1.1]? = some x1.2 := h 1 _ rfl
theorem bx_at2 {W : World} {x0 x1 x2 : Nat × Obj} {l : List (Nat × Obj)} (h : Bx W (x0 :: x1 :: x2 :: l)) : W.heap[x2.1]? = some x2.2 := h 2 _ rfl
theorem bx_at4 {W : World} {x0 x1 x2 x3 x4 : Nat × Obj} {l : List (Nat × Obj)} (h : Bx W (x0 :: x1 :: x2 :: x3 :: x4 :: l)) : W.heap[x4.1]? = some x4.2 := h 4 _ rfl
theorem bx_at6 {W : World} {x0 x1 x2 x3 x4 x5 x6 : Nat × Obj} {l : List (Nat × Obj)} (h : Bx W (x0 :: x1 :: x2 :: x3 :: x4 :: x5 :: x6 :: l)) : W.heap[x6.1]? = some x6.2 := h 6 _ rfl
theorem bx_at8 {W : World} {x0 x1 x2 x3 x4 x5 x6 x7 x8 : Nat × Obj} {l : List (Nat × Obj)} (h : Bx W (x0 :: x1 :: x2 :: x3 :: x4 :: x5 :: x6 :: x7 :: x8 :: l)) : W.heap[x8.1]? = some x8.2 := h 8 _ rfl
theorem bx_at10 {W : World} {x0 x1 x2 x3 x4 x5 x6 x7 x8 x9 x10 : Nat × Obj} {l : List (Nat × Obj)} (h : Bx W (x0 :: x1 :: x2 :: x3 :: x4 :: x5 :: x6 :: x7 :: x8 :: x9 :: x10 :: l)) : W.heap[x10.1]? = some x10.2 := h 10 _ rfl
theorem bx_at12 {W : World} {x0 x1 x2 x3 x4 x5 x6 x7 x8 x9 x10 x11 x12 : Nat × Obj} {l : List (Nat × Obj)} (h : Bx W (x0 :: x1 :: x2 :: x3 :: x4 :: x5 :: x6 :: x7 :: x8 :: x9 :: x10 :: x11 :: x12 :: l)) : W.heap[x12.1]? = some x12.2 := h 12 _ rfl
theorem bx_at14 {W : World} {x0 x1 x2 x3 x4 x5 x6 x7 x8 x9 x10 x11 x12 x13 x14 : Nat × Obj} {l : List (Nat × Obj)} (h : Bx W (x0 :: x1 :: x2 :: x3 :: x4 :: x5 :: x6 :: x7 :: x8 :: x9 :: x10 :: x11 :: x12 :: x13 :: x14 :: l)) : W.heap[x14.1]? = some x14.2 := h 14 _ rfl
theorem bx_at15 {W : World} {x0 x1 x2 x3 x4 x5 x6 x7 x8 x9 x10 x11 x12 x13 x14 x15 : Nat × Obj} {l : List (Nat × Obj)} (h : Bx W (x0 :: x1 :: x2 :: x3 :: x4 :: x5 :: x6 :: x7 :: x8 :: x9 :: x10 :: x11 :: x12 :: x13 :: x14 :: x15 :: l)) : W.heap[x15.1]? = some x15.2 := h 15 _ rfl
theorem bx_four {W : World} {l : List (Nat × Obj)} (h : Bx W l) (a b c d : Obj) : Bx ((((W.alloc a).alloc b).alloc c).alloc d) ((W.heap.size + 1 + 1 + 1, d) :: (W.heap.size + 1 + 1, c) :: (W.heap.size + 1, b) :: (W.heap.size, a) :: l) := by
  have := bx_one (bx_one (bx_two h a b) c) d
  rw [show (((W.alloc a).alloc b).alloc c).heap.size = W.heap.size + 1 + 1 + 1 by simp, show ((W.alloc a).alloc b).heap.size = W.heap.size + 1 + 1 by simp] at this
  exact this
theorem tab_cells {W : World} {g : Nat} {A : Option Addr} {n c : Nat} {has : Bool} {x : Int} (h : W.heap[g]? = some (.cells #[.slice A n c, .bool has, .int .i64 x] 24)) : W.cell? ⟨g, 0, none⟩ = some (.slice A n c) ∧ W.cell? ⟨g, 1, none⟩ = some (.bool has) ∧ W.cell? ⟨g, 2, none⟩ = some (.int .i64 x) := leap.tcs_cells h
theorem b2 (W : World) (a b : Obj) : Below W.heap.size W ((W.alloc a).alloc b) := bal (bal (Below.refl _ _) a) b
/-- Parse of a text, where it is a fault. -/
theorem parse_bad {w : World} (T : All w) (s : ByteArray) (n : Nat) (c : Int) (hs : s.size ≤ 300000) (h : parse ((splitS s).map wl) = bad n c) (W : World) (hb : Below w.heap.size w W) :
    Calls Tryz.prog 6 #[.string s] W fun e w' => ∃ A c', e = .returned (.tuple #[.agg #[.slice A 0 c', .bool false, .int .i64 0], .agg #[.int .i64 (n : Nat), .int .i64 c]]) ∧ Below W.heap.size W w' := by
  have T' := T.below hb
  refine (parse_at s W T'.tabs T'.ml T'.nm hs).mono ?_
  rw [h]
  rintro e w' ⟨A, c', he, _, _, hb'⟩
  exact ⟨A, c', he, hb'⟩
/-- Parse of a text, where it is a table. -/
theorem parse_good {w : World} (T : All w) (s : ByteArray) (lv : List lm.Lp) (has : Bool) (x : Int) (hs : s.size ≤ 300000) (h : parse ((splitS s).map wl) = ⟨0, 0, lv, has, x⟩) (W : World) (hb : Below w.heap.size w W) :
    Calls Tryz.prog 6 #[.string s] W fun e w' => ∃ A c', e = .returned (.tuple #[.agg #[.slice A lv.length c', .bool has, .int .i64 x], .agg #[.int .i64 0, .int .i64 0]]) ∧ Lps w' A lv ∧ lv.length ≤ c' ∧ Below W.heap.size W w' := by
  have T' := T.below hb
  refine (parse_at s W T'.tabs T'.ml T'.nm hs).mono ?_
  rw [h]
  rintro e w' ⟨A, c', he, hl, hc, hb'⟩
  exact ⟨A, c', he, hl, hc, hb'⟩
theorem full_len {lv : List lm.Lp} {has : Bool} {x : Int} (h : lm.ce lv has x = 0) : (txw (full lv has x)).length ≤ 50000 := by
  have hg := lm.good_of h
  have hx := x_bd h
  have h1 := wls_len hg lv.length (Nat.le_refl _)
  have hl := hg.len
  unfold full
  cases has with
  | false => simp; omega
  | true =>
    simp only [if_true] at hx ⊢
    rw [txw_snoc, List.length_append, List.length_append, List.length_singleton]
    obtain ⟨v, _⟩ := dtm_spec (n := x / 86400) (by omega) (by omega)
    have dm := cal.dim_bd (dtm (x / 86400)).1 (dtm (x / 86400)).2.1
    unfold cal.Vld at v
    have : (tabs (wExp x)).length ≤ 200 := line_ws (by decide) ⟨by omega, by omega, by omega, by omega, by omega, by omega⟩ (fun w hw => by cases hw) (by decide)
    omega
/-- a text, read again. -/
theorem parse_text {w : World} (T : All w) (lv : List lm.Lp) (has : Bool) (x : Int) (h : lm.ce lv has x = 0) (W : World) (hb : Below w.heap.size w W) :
    Calls Tryz.prog 6 #[.string (B (txw (full lv has x)))] W fun e w' => ∃ A c', e = .returned (.tuple #[.agg #[.slice A lv.length c', .bool has, .int .i64 x], .agg #[.int .i64 0, .int .i64 0]]) ∧ Lps w' A lv ∧ lv.length ≤ c' ∧ Below W.heap.size W w' := by
  refine parse_good T _ lv has x ?_ (by rw [wl_txw (full_pr h)]; exact parse_full h) W hb
  rw [B_size]
  have := full_len h
  omega
theorem text_yes {w : World} (T : All w) (lv : List lm.Lp) (has : Bool) (x : Int) (h : lm.ce lv has x = 0) (A : Option Addr) (c : Nat) (W : World) (hb : Below w.heap.size w W) (hl : Lps W A lv) : Calls Tryz.prog 8 #[.agg #[.slice A lv.length c, .bool has, .int .i64 x]] W fun e w' => e = .returned (.tuple #[.string (B (txw (full lv has x))), .bool true]) ∧ Below W.heap.size W w' := by
  have hg := (lm.good_of h).len
  refine (text_at lv A c has x W (T.below hb) hl (by omega)).mono ?_
  rintro e w' ⟨hb', ⟨_, he⟩ | ⟨hn, _⟩⟩
  · exact ⟨he, hb'⟩
  · exact absurd h hn
theorem lps_lit (w : World) (a b d : Obj) : Lps ((((w.alloc a).alloc b).alloc (.cells #[.int .i64 911, .int .i64 1, .bool false, .int .i64 1095, .int .i64 (-1), .bool true] 39)).alloc d) (some ⟨w.heap.size + 1 + 1, 0, none⟩) lA := by
  intro _
  have h : ((((w.alloc a).alloc b).alloc (.cells #[.int .i64 911, .int .i64 1, .bool false, .int .i64 1095, .int .i64 (-1), .bool true] 39)).alloc d).heap[w.heap.size + 1 + 1]? = some (.cells #[.int .i64 911, .int .i64 1, .bool false, .int .i64 1095, .int .i64 (-1), .bool true] 39) := by
    have := hp_new ((w.alloc a).alloc b) (.cells #[.int .i64 911, .int .i64 1, .bool false, .int .i64 1095, .int .i64 (-1), .bool true] 39)
    rw [show ((w.alloc a).alloc b).heap.size = w.heap.size + 1 + 1 by simp] at this
    exact hp_old this d
  refine ⟨w.heap.size + 1 + 1, 0, rfl, by simp, fun k hk => ?_⟩
  match k, hk with
  | 0, _ => exact ⟨row_cell h 0, row_cell h 1, row_cell h 2⟩
  | 1, _ => exact ⟨row_cell h 3, row_cell h 4, row_cell h 5⟩
theorem bx_nil (W : World) : Bx W [] := fun k p h => by simp at h
theorem flt_cells {W : World} {g : Nat} {a b : Int} (h : W.heap[g]? = some (.cells #[.int .i64 a, .int .i64 b] 29)) : W.cell? ⟨g, 0, none⟩ = some (.int .i64 a) ∧ W.cell? ⟨g, 1, none⟩ = some (.int .i64 b) := ⟨row_cell h 0, row_cell h 1⟩
set_option maxHeartbeats 8000000 in
theorem small_at (w : World) (T : All w) : Calls Tryz.prog 4 #[] w fun e w' => e = .returned (.bool true) ∧ Below w.heap.size w w' := by
  have P1 := Lib.hid (fun W hb => parse_good T tA lA true 126230405 (by decide) parse_a W hb)
  have P2 : Hid (∀ W, Below w.heap.size w W → Calls Tryz.prog 6 #[.string ⟨#[76, 101, 97, 112, 32, 49, 57, 55, 50, 32, 74, 117, 110, 32, 51, 48, 32, 50, 51, 58, 53, 57, 58, 53, 57, 32, 43, 32, 83]⟩] W fun e w' => ∃ A c', e = .returned (.tuple #[.agg #[.slice A 0 c', .bool false, .int .i64 0], .agg #[.int .i64 1, .int .i64 6]]) ∧ Below W.heap.size W w') := fun W hb => parse_bad T tC 1 6 (by decide) parse_c W hb
  have P3 : Hid (∀ W, Below w.heap.size w W → Calls Tryz.prog 6 #[.string ⟨#[10, 76, 101, 97, 112, 32, 49, 57, 55, 50, 32, 74, 117, 110, 32, 50, 57, 32, 50, 51, 58, 53, 57, 58, 54, 48, 32, 43, 32, 83]⟩] W fun e w' => ∃ A c', e = .returned (.tuple #[.agg #[.slice A 0 c', .bool false, .int .i64 0], .agg #[.int .i64 2, .int .i64 5]]) ∧ Below W.heap.size W w') := fun W hb => parse_bad T tD 2 5 (by decide) parse_d W hb
  have P4 : Hid (∀ W, Below w.heap.size w W → Calls Tryz.prog 6 #[.string ⟨#[76, 101, 97, 112, 32, 49, 57, 55, 50, 32, 74, 117, 110, 32, 51, 49, 32, 50, 51, 58, 53, 57, 58, 54, 48, 32, 43, 32, 83]⟩] W fun e w' => ∃ A c', e = .returned (.tuple #[.agg #[.slice A 0 c', .bool false, .int .i64 0], .agg #[.int .i64 1, .int .i64 9]]) ∧ Below W.heap.size W w') := fun W hb => parse_bad T tE 1 9 (by decide) parse_e W hb
  have P5 : Hid (∀ W, Below w.heap.size w W → Calls Tryz.prog 6 #[.string ⟨#[76, 101, 97, 112, 32, 49, 57, 55, 50, 32, 74, 117, 32, 51, 48, 32, 50, 51, 58, 53, 57, 58, 54, 48, 32, 43, 32, 83]⟩] W fun e w' => ∃ A c', e = .returned (.tuple #[.agg #[.slice A 0 c', .bool false, .int .i64 0], .agg #[.int .i64 1, .int .i64 2]]) ∧ Below W.heap.size W w') := fun W hb => parse_bad T tF 1 2 (by decide) parse_f W hb
  have P6 : Hid (∀ W, Below w.heap.size w W → Calls Tryz.prog 6 #[.string ⟨#[69, 120, 112, 105, 114, 101, 115, 32, 49, 57, 55, 51, 32, 74, 97, 110, 32, 49, 32, 48, 58, 48, 58, 48, 10, 69, 120, 112, 105, 114, 101, 115, 32, 49, 57, 55, 51, 32, 74, 97, 110, 32, 49, 32, 48, 58, 48, 58, 48]⟩] W fun e w' => ∃ A c', e = .returned (.tuple #[.agg #[.slice A 0 c', .bool false, .int .i64 0], .agg #[.int .i64 2, .int .i64 2]]) ∧ Below W.heap.size W w') := fun W hb => parse_bad T tG 2 2 (by decide) parse_g W hb
  have P8 := Lib.hid (fun W hb => parse_text T lA true 126230405 ceA W hb)
  have TY := Lib.hid (fun A c W hb hl => text_yes T lA true 126230405 ceA A c W hb hl)
  have M1 : Hid (∀ W, Below w.heap.size w W → Calls Tryz.prog 10 #[.string ⟨#[115, 69, 112, 116]⟩] W fun e w' => e = .returned (.tuple #[.int .i64 9, .bool true]) ∧ Below W.heap.size W w') := fun W hb => by
    have := month_at ⟨#[115, 69, 112, 116]⟩ W (T.below hb).nm (by decide)
    rw [show L ⟨#[115, 69, 112, 116]⟩ = [115, 69, 112, 116] from rfl, small_months.1] at this
    exact this
  have M2 : Hid (∀ W, Below w.heap.size w W → Calls Tryz.prog 10 #[.string ⟨#[109, 97]⟩] W fun e w' => e = .returned (.tuple #[.int .i64 0, .bool false]) ∧ Below W.heap.size W w') := fun W hb => by
    have := month_at ⟨#[109, 97]⟩ W (T.below hb).nm (by decide)
    rw [show L ⟨#[109, 97]⟩ = [109, 97] from rfl, small_months.2] at this
    exact this
  obtain ⟨k1, k2, k3, k4, k5, k6⟩ := small_clocks
  have K1 : Hid (∀ W, Below w.heap.size w W → Calls Tryz.prog 12 #[.string ⟨#[49, 58, 50, 58, 51]⟩] W fun e w' => e = .returned (.tuple #[.int .i64 3723, .bool true]) ∧ Below W.heap.size W w') := fun W hb => by
    have := clock_at [49, 58, 50, 58, 51] W (T.below hb).ml (by decide)
    rw [k1, k2] at this
    exact this
  have K2 : Hid (∀ W, Below w.heap.size w W → Calls Tryz.prog 12 #[.string ⟨#[49, 58, 50]⟩] W fun e w' => e = .returned (.tuple #[.int .i64 0, .bool false]) ∧ Below W.heap.size W w') := fun W hb => by
    have := clock_at [49, 58, 50] W (T.below hb).ml (by decide)
    rw [k3, k5] at this
    exact this
  have K3 : Hid (∀ W, Below w.heap.size w W → Calls Tryz.prog 12 #[.string ⟨#[48, 48, 49, 58, 50, 58, 51]⟩] W fun e w' => e = .returned (.tuple #[.int .i64 0, .bool false]) ∧ Below W.heap.size W w') := fun W hb => by
    have := clock_at [48, 48, 49, 58, 50, 58, 51] W (T.below hb).ml (by decide)
    rw [k4, k6] at this
    exact this
  clear k1 k2 k3 k4 k5 k6
  have SM : Hid (∀ A B c d W, Lps W A lA → Lps W B lA → Calls Tryz.prog 14 #[.agg #[.slice A 2 c, .bool true, .int .i64 126230405], .agg #[.slice B 2 d, .bool true, .int .i64 126230405]] W fun e w' => e = .returned (.bool true) ∧ Below W.heap.size W w') := fun A B c d W h g => by
    have := ref09.same_at lA lA A B c d true true 126230405 126230405 W h g (by decide) (by decide)
    rw [leap.sm_self] at this
    exact this
  have lenA : lA.length = 2 := rfl
  rw [lenA] at P1 P8
  simp only [lenA] at TY
  clear lenA
  have E1 := fun W => eqF 0 0 0 0 W
  have E2 := fun W => eqF 1 6 1 6 W
  have E3 := fun W => eqF 2 5 2 5 W
  have E4 := fun W => eqF 1 9 1 9 W
  have E5 := fun W => eqF 1 2 1 2 W
  have E6 := fun W => eqF 2 2 2 2 W
  have hA : Below w.heap.size w w := Below.refl _ _
  clear T
  have hq : B (txw (full lA true 126230405)) = tS := text_lits
  rw [hq] at P8
  simp only [hq] at TY
  clear hq
  unfold tS at P8 TY
  unfold tA at P1
  have s1 : True := trivial
  go_enter Tryz.func4, Tryz.ntmps4
  go_wp2_with (first
    | (go_at_call 6; first
      | (with_reducible refine (P1.out _ hA).mono ?_; rintro e w1 ⟨A1, c1, rfl, hl1, _, hb1⟩; have HL1 := Lib.hid hl1; have HA1 := Lib.hid (fun a b c d => bal (bal (bal (bal (btr hA hb1) a) b) c) d); have BX1 := Lib.hid (fun a b c d => bx_four (bx_nil w1) a b c d); have LT1 := Lib.hid (fun a b d => lps_lit w1 a b d); have HB1 := Lib.hid (fun a b c d => bal (bal (bal (bal (Below.refl w1.heap.size w1) a) b) c) d); clear hl1)
      | (with_reducible refine (P2.out _ (HA1.out _ _ _ _)).mono ?_; rintro e w2 ⟨A2, c2, rfl, hb2⟩; have BX2 := Lib.hid (bx_below (BX1.out _ _ _ _) hb2); have LT2 := Lib.hid ((LT1.out _ _ _).below hb2); have LA2 := Lib.hid (HL1.out.below (btr (HB1.out _ _ _ _) hb2)); have HA2 := Lib.hid (fun a b => bal (bal (btr (HA1.out _ _ _ _) hb2) a) b); clear hb2)
      | (with_reducible refine (P3.out _ (HA2.out _ _)).mono ?_; rintro e w3 ⟨A3, c3, rfl, hb3⟩; have BX3 := Lib.hid (bx_below (bx_two BX2.out _ _) hb3); have LT3 := Lib.hid ((LT2.out.below (b2 _ _ _)).below hb3); have LA3 := Lib.hid ((LA2.out.below (b2 _ _ _)).below hb3); have HA3 := Lib.hid (fun a b => bal (bal (btr (HA2.out _ _) hb3) a) b); clear hb3)
      | (with_reducible refine (P4.out _ (HA3.out _ _)).mono ?_; rintro e w4 ⟨A4, c4, rfl, hb4⟩; have BX4 := Lib.hid (bx_below (bx_two BX3.out _ _) hb4); have LT4 := Lib.hid ((LT3.out.below (b2 _ _ _)).below hb4); have LA4 := Lib.hid ((LA3.out.below (b2 _ _ _)).below hb4); have HA4 := Lib.hid (fun a b => bal (bal (btr (HA3.out _ _) hb4) a) b); clear hb4)
      | (with_reducible refine (P5.out _ (HA4.out _ _)).mono ?_; rintro e w5 ⟨A5, c5, rfl, hb5⟩; have BX5 := Lib.hid (bx_below (bx_two BX4.out _ _) hb5); have LT5 := Lib.hid ((LT4.out.below (b2 _ _ _)).below hb5); have LA5 := Lib.hid ((LA4.out.below (b2 _ _ _)).below hb5); have HA5 := Lib.hid (fun a b => bal (bal (btr (HA4.out _ _) hb5) a) b); clear hb5)
      | (with_reducible refine (P6.out _ (HA5.out _ _)).mono ?_; rintro e w6 ⟨A6, c6, rfl, hb6⟩; have BX6 := Lib.hid (bx_below (bx_two BX5.out _ _) hb6); have LT6 := Lib.hid ((LT5.out.below (b2 _ _ _)).below hb6); have LA6 := Lib.hid ((LA5.out.below (b2 _ _ _)).below hb6); have HA6 := Lib.hid (fun a b => bal (bal (btr (HA5.out _ _) hb6) a) b); clear hb6; have tx0 := fun a b => (tab_cells (bx_at10 (bx_two BX6.out a b))).1; have tx1 := fun a b => (tab_cells (bx_at10 (bx_two BX6.out a b))).2.1; have tx2 := fun a b => (tab_cells (bx_at10 (bx_two BX6.out a b))).2.2)
      | (with_reducible refine (P8.out _ HA7.out).mono ?_; rintro e w8 ⟨A8, c8, rfl, hl8, _, hb8⟩; have BX8 := Lib.hid (bx_below BX7.out hb8); have LT8 := Lib.hid (LT7.out.below hb8); have LA8 := Lib.hid (LA7.out.below hb8); have LU8 := Lib.hid hl8; have HA8 := Lib.hid (fun a b => bal (bal (btr HA7.out hb8) a) b); clear hl8 hb8))
    | (go_at_call 8; with_reducible refine (TY.out _ _ _ (HA6.out _ _) (LT6.out.below (b2 _ _ _))).mono ?_; rintro e w7 ⟨rfl, hb7⟩; have BX7 := Lib.hid (bx_below (bx_two BX6.out _ _) hb7); have LT7 := Lib.hid ((LT6.out.below (b2 _ _ _)).below hb7); have LA7 := Lib.hid ((LA6.out.below (b2 _ _ _)).below hb7); have HA7 := Lib.hid (btr (HA6.out _ _) hb7); clear hb7)
    | (go_at_call 10; first
      | (with_reducible refine (M1.out _ (HA8.out _ _)).mono ?_; rintro e w9 ⟨rfl, hb9⟩; have BX9 := Lib.hid (bx_below (bx_two BX8.out _ _) hb9); have LT9 := Lib.hid ((LT8.out.below (b2 _ _ _)).below hb9); have LA9 := Lib.hid ((LA8.out.below (b2 _ _ _)).below hb9); have LU9 := Lib.hid ((LU8.out.below (b2 _ _ _)).below hb9); have HA9 := Lib.hid (btr (HA8.out _ _) hb9); clear hb9)
      | (with_reducible refine (M2.out _ HA9.out).mono ?_; rintro e w10 ⟨rfl, hb10⟩; have HA10 := Lib.hid (btr HA9.out hb10)))
    | (go_at_call 12; first
      | (with_reducible refine (K1.out _ HA10.out).mono ?_; rintro e w11 ⟨rfl, hb11⟩; have hb11 := btr hb10 hb11; have HA11 := Lib.hid (btr HA9.out hb11))
      | (with_reducible refine (K2.out _ HA11.out).mono ?_; rintro e w12 ⟨rfl, hb12⟩; have hb12 := btr hb11 hb12; have HA12 := Lib.hid (btr HA9.out hb12))
      | (with_reducible refine (K3.out _ HA12.out).mono ?_; rintro e w13 ⟨rfl, hb13⟩; have hb13 := btr hb12 hb13; have HA13 := Lib.hid (btr HA9.out hb13); have BX13 := Lib.hid (bx_below BX9.out hb13); have LT13 := Lib.hid (LT9.out.below hb13); have LA13 := Lib.hid (LA9.out.below hb13); have LU13 := Lib.hid (LU9.out.below hb13); obtain ⟨a0, a1, a2⟩ := tab_cells (bx_at15 BX13.out); obtain ⟨t0, t1, t2⟩ := tab_cells (bx_at12 BX13.out)))
    | (go_at_call 14; first
      | (have _t := s1; with_reducible refine (SM.out _ _ _ _ _ LA13.out LT13.out).mono ?_; rintro e w14 ⟨rfl, hb14⟩; clear s1; have BXa := Lib.hid (bx_below BX13.out hb14); have LTa := Lib.hid (LT13.out.below hb14); have LUa := Lib.hid (LU13.out.below hb14); have HAa := Lib.hid (btr HA13.out hb14); clear hb14 a0 a1 a2 t0 t1 t2; obtain ⟨t0, t1, t2⟩ := tab_cells (bx_at12 BXa.out); obtain ⟨u0, u1, u2⟩ := tab_cells (bx_at1 BXa.out); obtain ⟨f10, f11⟩ := flt_cells (bx_at14 BXa.out); obtain ⟨f20, f21⟩ := flt_cells (bx_at10 BXa.out); obtain ⟨f30, f31⟩ := flt_cells (bx_at8 BXa.out); obtain ⟨f40, f41⟩ := flt_cells (bx_at6 BXa.out); obtain ⟨f50, f51⟩ := flt_cells (bx_at4 BXa.out); obtain ⟨f60, f61⟩ := flt_cells (bx_at2 BXa.out))
      | (with_reducible refine (SM.out _ _ _ _ _ LUa.out LTa.out).mono ?_; rintro e w15 ⟨rfl, hb15⟩; obtain ⟨g0, g1⟩ := flt_cells (bx_at0 (bx_below BXa.out hb15)); have HAb := Lib.hid (btr HAa.out hb15))))
  go_ret
  exact ⟨rfl, HAb.out⟩
end Go.Proofs.YtiboijhfieaepaaGreatDoor.zic

/-
  From the row's condition on the listed variables to what day's contracts ask of the memory: the two tables of package day hold what their initialisers lay. Condition: the row's own.
-/
namespace Go.Proofs.YtiboijhfieaepaaGreatDoor.day
open Go.ChangeShapes Go.WideShapes Go.ChangeAt Go.RowKit
set_option linter.unusedVariables false
set_option maxRecDepth 100000

theorem laid_at {P : Program} {W : World} {n : String} {d : DataW Unit} {g : Nat} {t : TypeId} (hg : P.globalNamed n = some g) (ht : (P.globals[g]?).map (·.type) = some t) :
    ∀ (l : List (String × DataW Unit)) (ps : List MemPlace), DataW.LaidVars P W l ps → (n, d) ∈ l → ∃ (cs : Array Value) (fuel : Nat) (p : List MemPlace), W.var? P n = some cs ∧ DataW.trod (fun _ => ()) P W 0 (fun _ => true) false fuel t cs.toList = some (d, p)
  | [], _, _, h => by cases h
  | (n', d') :: r, ps, h, hm => by
    obtain ⟨g', t', cs, fuel, p, q, h1, h2, h3, h4, h5, rfl⟩ := h
    rcases List.mem_cons.1 hm with e | hm
    · cases e
      obtain rfl := Option.some.inj (hg.symm.trans h1)
      obtain rfl := Option.some.inj (ht.symm.trans h2)
      exact ⟨cs, fuel, p, h3, h4⟩
    · exact laid_at hg ht r q h5 hm

theorem gLens : Tryz.prog.globalNamed "epact/day.lengths" = some 2 := by kernel_rfl
theorem gSpans : Tryz.prog.globalNamed "epact/day.spans" = some 1 := by kernel_rfl
theorem tLens : (Tryz.prog.globals[2]?).map (·.type) = some 109 := by kernel_rfl
theorem tSpans : (Tryz.prog.globals[1]?).map (·.type) = some 108 := by kernel_rfl
theorem cSpan : Tryz.prog.cellsOf 107 = 3 := by kernel_rfl
theorem cSpans : Tryz.prog.cellsOf 108 = 12 := by kernel_rfl
theorem cInt : Tryz.prog.cellsOf 3 = 1 := by kernel_rfl

theorem span_cells {W : World} {fuel : Nat} {cs : List Value} {a b c : Int} {x : DataW Unit × List MemPlace} (h : DataW.trod (fun _ => ()) Tryz.prog W 0 (fun _ => true) false fuel 107 cs = some x)
    (hx : x.1 = .agg [.lit (.int .i64 a), .lit (.int .i64 b), .lit (.int .i64 c)]) : cs = [.int .i64 a, .int .i64 b, .int .i64 c] := by
  obtain ⟨y0, y1, y2, n, rfl, hl, h0, h1, h2⟩ := Deep.trod_struct3 Tryz.underlying107 h
  obtain ⟨n0, e0, rfl, _⟩ := DataW.trod_int Tryz.underlying3 h0
  obtain ⟨n1, e1, rfl, _⟩ := DataW.trod_int Tryz.underlying3 h1
  obtain ⟨n2, e2, rfl, _⟩ := DataW.trod_int Tryz.underlying3 h2
  simp only [DataW.agg.injEq, List.cons.injEq, DataW.lit.injEq, Lit.int.injEq, true_and, and_true] at hx
  obtain ⟨rfl, rfl, rfl⟩ := hx
  rw [cSpan] at hl
  rw [cInt] at e0 e1 e2
  match cs, hl with
  | [c0, c1, c2], _ => simp at e0 e1 e2; simp [e0, e1, e2]

theorem spans_cells {W : World} {fuel : Nat} {cs : List Value} {p : List MemPlace} (h : DataW.trod (fun _ => ()) Tryz.prog W 0 (fun _ => true) false fuel 108 cs = some (Rows.laid_epact_day_spans, p)) : cs = spanCells := by
  obtain ⟨xs, m, _, hx, hl, hn, hel⟩ := DataW.trod_array Tryz.underlying108 h
  have hd := congrArg Prod.fst hx
  simp only [Rows.laid_epact_day_spans, DataW.agg.injEq] at hd
  rw [cSpans] at hl
  match xs, hn, hd with
  | [x0, x1, x2, x3], _, hd =>
    simp only [List.map_cons, List.map_nil, List.cons.injEq, and_true] at hd
    obtain ⟨d0, d1, d2, d3⟩ := hd
    have k0 := span_cells (hel 0 (by decide)) d0.symm
    have k1 := span_cells (hel 1 (by decide)) d1.symm
    have k2 := span_cells (hel 2 (by decide)) d2.symm
    have k3 := span_cells (hel 3 (by decide)) d3.symm
    rw [cSpan] at k0 k1 k2 k3
    match cs, hl with
    | [c0, c1, c2, c3, c4, c5, c6, c7, c8, c9, c10, c11], _ =>
      simp at k0 k1 k2 k3
      simp [spanCells, k0, k1, k2, k3]

theorem tabs_of {W : World} {l : List (String × DataW Unit)} (h : laidMet Tryz.prog l W) (h1 : ("epact/day.lengths", Rows.laid_epact_day_lengths) ∈ l) (h2 : ("epact/day.spans", Rows.laid_epact_day_spans) ∈ l) : Tabs W := by
  obtain ⟨ps, hL, _, _⟩ := h
  obtain ⟨cs, f, p, hv, ht⟩ := laid_at gLens tLens l ps hL h1
  obtain ⟨cs', f', p', hv', ht'⟩ := laid_at gSpans tSpans l ps hL h2
  have e1 : cs.toList = lens.map fun z => Value.int .i64 z := Lib.cells_of_tab (zs := lens) Tryz.underlying109 Tryz.underlying3 cInt (by kernel_rfl) ht
  have e2 : cs'.toList = spanCells := spans_cells ht'
  refine ⟨fun i hi => ?_, fun j v hv'' => ?_⟩
  · have := World.var?_cell gLens hv i
    rw [this, ← Array.getElem?_toList, e1]
    have hl : i < lens.length := hi
    simp [List.getD, hl]
  · have := World.var?_cell gSpans hv' j
    rw [Nat.zero_add, this, ← Array.getElem?_toList, e2]
    exact hv''
end Go.Proofs.YtiboijhfieaepaaGreatDoor.day

/-
  Tables and leaps that came in, as they are read. Conditions: the row's own.
-/
namespace Go.Proofs.YtiboijhfieaepaaGreatDoor.leap
open Go.ChangeShapes Go.WideShapes Go.ChangeAt Go.RowKit
open lm mem
set_option linter.unusedVariables false
set_option maxRecDepth 100000

theorem cL : Tryz.prog.cellsOf 39 = 3 := by kernel_rfl
theorem cT : Tryz.prog.cellsOf 24 = 3 := by kernel_rfl
theorem cI : Tryz.prog.cellsOf 3 = 1 := by kernel_rfl
theorem cB : Tryz.prog.cellsOf 4 = 1 := by kernel_rfl
def boolOf : Value → Bool
  | .bool b => b
  | _ => false
def at0 (w : World) (a : Addr) (j : Nat) : Value := (w.cell? (a.add j)).getD undef
/-- the leaps that a slice reads as. -/
def lpsOf (w : World) (a : Addr) (n : Nat) : List Lp := (List.range n).map fun i => (intOf (at0 w a (i * 3)), intOf (at0 w a (i * 3 + 1)), boolOf (at0 w a (i * 3 + 2)))
theorem lpsOf_len (w : World) (a : Addr) (n : Nat) : (lpsOf w a n).length = n := by simp [lpsOf]
theorem lpsOf_at (w : World) (a : Addr) (n k : Nat) (h : k < n) : dy (lpsOf w a n) k = intOf (at0 w a (k * 3)) ∧ lm.st (lpsOf w a n) k = intOf (at0 w a (k * 3 + 1)) ∧ rl (lpsOf w a n) k = boolOf (at0 w a (k * 3 + 2)) := by
  have e : (lpsOf w a n).getD k z3 = (intOf (at0 w a (k * 3)), intOf (at0 w a (k * 3 + 1)), boolOf (at0 w a (k * 3 + 2))) := by
    rw [List.getD_eq_getElem?_getD, List.getElem?_eq_getElem (by rw [lpsOf_len]; exact h)]
    simp [lpsOf]
  unfold dy lm.st rl
  rw [e]
  exact ⟨rfl, rfl, rfl⟩
theorem open_lps {H : Type} {enc : TypeId × Value → H} {W : World} {held : Bool} {fuel : Nat} {v : Value} {x : DataW H × List MemPlace} (h : DataW.trod enc Tryz.prog W 0 (fun _ => true) held fuel 22 [v] = some x) :
    ∃ A c l, v = .slice A (List.length l) c ∧ Lps W A l ∧ List.length l ≤ 9223372036854775807 ∧ List.length l ≤ c := by
  rcases Deep.open_slice Tryz.underlying22 h with ⟨h1, _⟩ | ⟨a, len, cap, m, n, D, Pl, h1, _, h3, h4, h5, _, h7⟩
  · obtain rfl := (List.cons.inj h1).1
    exact ⟨none, 0, [], rfl, fun h => absurd rfl h, by decide, by decide⟩
  · obtain rfl := (List.cons.inj h1).1
    simp only [if_true] at h5
    unfold maxLen at h4
    have cells : ∀ k, k < len → W.cell? (a.add (k * 3)) = some (.int .i64 (dy (lpsOf W a len) k)) ∧ W.cell? (a.add (k * 3 + 1)) = some (.int .i64 (lm.st (lpsOf W a len) k)) ∧ W.cell? (a.add (k * 3 + 2)) = some (.bool (rl (lpsOf W a len) k)) := by
      intro k hk
      obtain ⟨cs', g1, g2⟩ := h7 k (by omega)
      rw [cL] at g1
      obtain ⟨_, hlen, hcell⟩ := World.cells?_some g1
      obtain ⟨xs, n', _, _, _, hxl, hf⟩ := DataW.trod_struct Tryz.underlying39 g2
      match cs', hlen, xs, hxl with
      | [u0, u1, u2], _, [y0, y1, y2], _ =>
        have f0 := hf 0 _ rfl
        have f1 := hf 1 _ rfl
        have f2 := hf 2 _ rfl
        change DataW.trod _ _ _ _ _ _ _ 3 (([u0, u1, u2].drop 0).take (Tryz.prog.cellsOf 3)) = some y0 at f0
        change DataW.trod _ _ _ _ _ _ _ 3 (([u0, u1, u2].drop 1).take (Tryz.prog.cellsOf 3)) = some y1 at f1
        change DataW.trod _ _ _ _ _ _ _ 4 (([u0, u1, u2].drop 2).take (Tryz.prog.cellsOf 4)) = some y2 at f2
        rw [cI] at f0 f1
        rw [cB] at f2
        have c0 := hcell 0 (by decide)
        have c1 := hcell 1 (by decide)
        have c2 := hcell 2 (by decide)
        rw [Deep.add_add] at c0 c1 c2
        obtain ⟨k0, e0, _, _⟩ := DataW.trod_int Tryz.underlying3 f0
        obtain ⟨k1, e1, _, _⟩ := DataW.trod_int Tryz.underlying3 f1
        obtain ⟨k2, e2, _⟩ := DataW.trod_bool Tryz.underlying4 f2
        obtain rfl : u0 = .int .i64 k0 := (List.cons.inj e0).1
        obtain rfl : u1 = .int .i64 k1 := (List.cons.inj e1).1
        obtain rfl : u2 = .bool k2 := (List.cons.inj e2).1
        obtain ⟨i0, i1, i2⟩ := lpsOf_at W a len k hk
        have d0 : W.cell? (a.add (k * 3)) = some (.int .i64 k0) := by simpa using c0
        have d1 : W.cell? (a.add (k * 3 + 1)) = some (.int .i64 k1) := by simpa using c1
        have d2 : W.cell? (a.add (k * 3 + 2)) = some (.bool k2) := by simpa using c2
        rw [i0, i1, i2]
        unfold at0
        rw [d0, d1, d2]
        exact ⟨rfl, rfl, rfl⟩
    refine ⟨some a, cap, lpsOf W a len, by rw [lpsOf_len], fun hne => ?_, by rw [lpsOf_len]; omega, by rw [lpsOf_len]; exact h3⟩
    rw [lpsOf_len] at hne
    obtain ⟨b, off, spot⟩ := a
    have hspot : spot = none := by simpa [Addr.add] using World.cell?_spot (cells 0 (by omega)).1
    subst hspot
    have hz := (cells 0 (by omega)).1
    refine ⟨b, off, rfl, ?_, fun k hk => ?_⟩
    · have := World.block_lt_of_cell? W _ hz
      simpa [Addr.add] using this
    · rw [lpsOf_len] at hk
      obtain ⟨a0, a1, a2⟩ := cells k hk
      rw [Addr.add_mid] at a0 a1 a2
      exact ⟨a0, a1, a2⟩
theorem open_table {H : Type} {enc : TypeId × Value → H} {W : World} {base : Nat} {v : Value} {d : DataW H} {p : List MemPlace} (hv : Value.okWide Tryz.prog W .any base 24 v) (h : DataW.Trod enc Tryz.prog W 0 (fun _ => true) true 24 v d p) :
    ∃ A c l has x, v = .agg #[.slice A (List.length l) c, .bool has, .int .i64 x] ∧ Lps W A l ∧ List.length l ≤ 9223372036854775807 ∧ List.length l ≤ c ∧ (-9223372036854775808 ≤ x ∧ x ≤ 9223372036854775807) := by
  obtain ⟨c0, c1, c2, y0, y1, y2, m, rfl, _, _, hy0, hy1, hy2⟩ := Joins.open_agg3 Tryz.underlying24 (by kernel_rfl) cT hv h
  obtain ⟨A, c, l, rfl, hl, hn, hc⟩ := open_lps hy0
  obtain ⟨b, e1, _⟩ := DataW.trod_bool Tryz.underlying4 hy1
  obtain ⟨x, e2, _, w2⟩ := DataW.trod_int Tryz.underlying3 hy2
  obtain rfl := (List.cons.inj e1).1
  obtain rfl := (List.cons.inj e2).1
  exact ⟨A, c, l, b, x, rfl, hl, hn, hc, bounds_i64 w2⟩
theorem open_leap {H : Type} {enc : TypeId × Value → H} {W : World} {base : Nat} {v : Value} {d : DataW H} {p : List MemPlace} (hv : Value.okWide Tryz.prog W .any base 39 v) (h : DataW.Trod enc Tryz.prog W 0 (fun _ => true) true 39 v d p) :
    ∃ z : Lp, v = .agg #[.int .i64 z.1, .int .i64 z.2.1, .bool z.2.2] := by
  obtain ⟨c0, c1, c2, y0, y1, y2, m, rfl, _, _, hy0, hy1, hy2⟩ := Joins.open_agg3 Tryz.underlying39 (by kernel_rfl) cL hv h
  obtain ⟨a, e0, _, _⟩ := DataW.trod_int Tryz.underlying3 hy0
  obtain ⟨b, e1, _, _⟩ := DataW.trod_int Tryz.underlying3 hy1
  obtain ⟨c, e2, _⟩ := DataW.trod_bool Tryz.underlying4 hy2
  obtain rfl := (List.cons.inj e0).1
  obtain rfl := (List.cons.inj e1).1
  obtain rfl := (List.cons.inj e2).1
  exact ⟨(a, b, c), rfl⟩
end Go.Proofs.YtiboijhfieaepaaGreatDoor.leap

/-
  A row with listed variables, whose walk may use the world's shape. Nothing of any program. Conditions: as said.
-/
namespace Go.Proofs.YtiboijhfieaepaaGreatDoor.both
open Go.ChangeShapes Go.WideShapes Go.ChangeAt Go.RowKit
set_option linter.unusedVariables false
set_option maxRecDepth 100000

/-- a row with listed variables, whose walk may use the world's shape. -/
theorem handed_both {H : Type} {enc : TypeId × Value → H} {a : Assume} {C : Checked} {os : Os} {f : FuncId} {fn : Func} {s : ChangeSpec} {conds : List PathCond} {apart fresh handsOn again : Bool} {X : World → Array Value → Prop}
    (hX : ∀ (w w' : World) (args : Array Value), w.heap = w'.heap → X w args → X w' args) (own : ownKnob C.prog.godebug = none) (started : os.Started) (noInit : C.prog.inits.idxOf? f = none) (hfn : C.prog.funcs[f]? = some fn)
    (start : ∃ (w : World) (tape : Tape) (i : Input), w.os = os ∧ (w.forCall tape i).Shaped C.prog ∧ i.vars = [] ∧ Input.okWide C.prog (w.forCall tape i) .any w.heap.size f i ∧
      ((s.pre enc C.prog fn conds apart (w.forCall tape i).memory i.args ∧ X (w.forCall tape i).memory i.args) ∧ sizedMet enc C.prog fn (OpenSpec.ofChange s) apart (w.forCall tape i).memory i.args) ∧ a.holds C.prog (lone (Frame.enter C.prog f i.args .normal) [] (w.forCall tape i)))
    (walk : ∀ (W : World) (base : Nat) (args : Array Value) (ds gs : List (DataW H)) (before : List MemPlace), (∀ (j : Nat) t v, fn.params[j]? = some t → args[j]? = some v → Value.okWide C.prog W .any base t v) → DataW.Whole enc C.prog fn.params.toList s.vars apart W args.toList ds gs before →
      conds.all (PathCond.test C.prog ⟨fn.params.toList, ds, s.plain.varTypes C.prog, gs⟩) = true → (DataW.weightsEach C.prog (fn.params.toList ++ s.plain.varTypes C.prog) (ds ++ gs)).all (· ≤ reachBytes) = true → X W args → W.ShapedOpen C.prog →
      a.holds C.prog (lone (Frame.enter C.prog f args .normal) [] W) → Calls C.prog f args W fun e W' => ∃ v, e = .returned v ∧ s.post enc C.prog fn apart fresh handsOn again W args v W') :
    ReturnsInHanded a C os f .any (fun w args => (s.pre enc C.prog fn conds apart w args ∧ X w args) ∧ sizedMet enc C.prog fn (OpenSpec.ofChange s) apart w args) (s.post enc C.prog fn apart fresh handsOn again) := by
  refine returnsInHanded_of_calls own started noInit start fun w tape i _ shape _ fine met holds => ?_
  obtain ⟨_, _, _, gn, hgn, _, _, _, _, vals⟩ := fine
  cases Option.some.inj (hgn.symm.trans hfn)
  obtain ⟨⟨⟨ds, gs, before, whole, cnd⟩, x⟩, size⟩ := met
  have done := walk (w.forCall tape i) w.heap.size i.args ds gs before vals (DataW.Whole.of_heap (w' := w.forCall tape i) (by rfl) whole) cnd (size.weights whole) (hX _ _ _ (by rfl) x) shape holds
  exact done.mono fun e W' ⟨v, he, post⟩ => by
    subst he
    exact ChangeSpec.post_blind post
end Go.Proofs.YtiboijhfieaepaaGreatDoor.both

/-
  What the listed variables of a row of layer 11 hold, from the row's own condition. Condition: the row's own.
-/
namespace Go.Proofs.YtiboijhfieaepaaGreatDoor.zic
open Go.ChangeShapes Go.WideShapes Go.ChangeAt Go.RowKit
open lx zs mem
set_option linter.unusedVariables false
set_option maxRecDepth 100000

theorem tPow : (Tryz.prog.globals[5]?).map (·.type) = some 144 := by kernel_rfl
theorem cU64 : Tryz.prog.cellsOf 127 = 1 := by kernel_rfl
theorem gNames : Tryz.prog.globalNamed "epact/zic.names" = some 0 := by kernel_rfl
theorem tNames : (Tryz.prog.globals[0]?).map (·.type) = some 67 := by kernel_rfl
theorem cStr : Tryz.prog.cellsOf 9 = 1 := by kernel_rfl
theorem cNames : Tryz.prog.cellsOf 67 = 12 := by kernel_rfl
def nmS : List ByteArray := names.map B
theorem names_cells {W : World} {fuel : Nat} {cs : List Value} {p : List MemPlace} (h : DataW.trod (fun _ => ()) Tryz.prog W 0 (fun _ => true) false fuel 67 cs = some (Rows.laid_epact_zic_names, p)) : cs = nmA.toList := by
  obtain ⟨xs, m, _, hx, hl, hn, hel⟩ := DataW.trod_array Tryz.underlying67 h
  have hd : nmS.map (fun s => DataW.lit (H := Unit) (.string s.data.toList)) = xs.map (·.1) := by
    have := congrArg Prod.fst hx
    exact DataW.agg.inj this
  rw [cNames] at hl
  have each : ∀ i, i < 12 → cs[i]? = some (.string (nmS.getD i ByteArray.empty)) := by
    intro i hi
    have hi' := hel i hi
    rw [List.getElem?_eq_getElem (by omega)] at hi'
    obtain ⟨s, e0, e1, _⟩ := DataW.trod_string Tryz.underlying9 hi'
    have hw : i < nmS.length := hi
    have e2 : (xs.map (·.1))[i]? = some (.lit (.string s.data.toList)) := by rw [List.getElem?_map, List.getElem?_eq_getElem (by omega), e1]; rfl
    rw [← hd, List.getElem?_map, List.getElem?_eq_getElem hw] at e2
    have e3 : nmS[i].data.toList = s.data.toList := by simpa using e2
    have e4 : nmS[i] = s := ByteArray.ext (Array.toList_inj.1 e3)
    rw [cStr] at e0
    have e5 := congrArg (fun l => l[0]?) e0
    have e6 : cs[i]? = some (.string s) := by simpa [List.getElem?_take, List.getElem?_drop] using e5
    rw [e6, List.getD_eq_getElem?_getD, List.getElem?_eq_getElem hw, Option.getD_some, e4]
  refine List.ext_getElem? fun i => ?_
  by_cases hi : i < 12
  · rw [each i hi, Array.getElem?_toList, nmA_get i hi]
    congr 2
    unfold nmS
    rw [List.getD_eq_getElem?_getD, List.getD_eq_getElem?_getD, List.getElem?_map, List.getElem?_eq_getElem (show i < names.length from hi)]
    rfl
  · rw [List.getElem?_eq_none (by omega), List.getElem?_eq_none (by show 12 ≤ i; omega)]
theorem all_of {W : World} {l : List (String × DataW Unit)} (h : laidMet Tryz.prog l W) (h1 : ("epact/day.lengths", Rows.laid_epact_day_lengths) ∈ l) (h2 : ("epact/day.spans", Rows.laid_epact_day_spans) ∈ l) (h3 : ("internal/strconv.uint64pow10", Rows.laid_internal_strconv_uint64pow10) ∈ l)
    (h4 : ("epact/zic.names", Rows.laid_epact_zic_names) ∈ l) (hsh : W.ShapedOpen Tryz.prog) : All W := by
  refine ⟨day.tabs_of h h1 h2, lines.ml_of hsh, ?_, ?_⟩
  · obtain ⟨ps, hL, _, _⟩ := h
    obtain ⟨c, f, p, hv, ht⟩ := laid_at gNames tNames l ps hL h4
    have e := names_cells ht
    have hc : c = nmA := Array.toList_inj.1 e
    subst hc
    simp only [World.var?, gNames, Option.bind_some] at hv
    unfold Nm
    cases hh : W.heap[0]? with
    | none => rw [hh] at hv; simp at hv
    | some o =>
      rw [hh] at hv
      cases o with
      | cells cs t fr =>
        simp at hv
        subst hv
        exact ⟨t, fr, rfl⟩
      | _ => simp at hv
  · obtain ⟨ps, hL, _, _⟩ := h
    obtain ⟨cs, f', p', hv', ht'⟩ := laid_at stamp.gPow tPow l ps hL h3
    have e1 : cs.toList = Lib.pow10Tab.map fun z => Value.int .u64 z := Lib.cells_of_tab (zs := Lib.pow10Tab) Tryz.underlying144 Tryz.underlying127 cU64 (by kernel_rfl) ht'
    unfold Lib.TabIs
    rw [hv', ← e1]
end Go.Proofs.YtiboijhfieaepaaGreatDoor.zic
