/-
  The small case of layer 11, as plain mathematics: what is read of its texts, and what is written. No condition.
-/
import Derived.Test.YtajfblfkohemeaaDoorZicTx
namespace Go.Proofs.YtajfblfkohemeaaDoor.zs
open lx cal stx
open lm (Lp ce dy st)
open zic (wl)
set_option linter.unusedVariables false
set_option maxRecDepth 100000

def tA : ByteArray := ⟨#[35, 32, 120, 10, 76, 101, 97, 112, 9, 49, 57, 55, 50, 9, 74, 117, 110, 9, 51, 48, 9, 50, 51, 58, 53, 57, 58, 54, 48, 9, 43, 9, 83, 32, 35, 32, 121, 10, 10, 108, 101, 97, 112, 32, 49, 57, 55, 50, 32, 68, 69, 67, 69, 77, 66, 69, 82, 32, 51, 49, 32, 50, 51, 58, 53, 57, 58, 53, 57, 32, 45, 32, 114, 111, 108, 108, 10, 69, 120, 112, 105, 114, 101, 115, 32, 49, 57, 55, 52, 32, 74, 97, 110, 32, 49, 32, 48, 58, 48, 48, 58, 48, 53, 10]⟩
def tC : ByteArray := ⟨#[76, 101, 97, 112, 32, 49, 57, 55, 50, 32, 74, 117, 110, 32, 51, 48, 32, 50, 51, 58, 53, 57, 58, 53, 57, 32, 43, 32, 83]⟩
def tD : ByteArray := ⟨#[10, 76, 101, 97, 112, 32, 49, 57, 55, 50, 32, 74, 117, 110, 32, 50, 57, 32, 50, 51, 58, 53, 57, 58, 54, 48, 32, 43, 32, 83]⟩
def tE : ByteArray := ⟨#[76, 101, 97, 112, 32, 49, 57, 55, 50, 32, 74, 117, 110, 32, 51, 49, 32, 50, 51, 58, 53, 57, 58, 54, 48, 32, 43, 32, 83]⟩
def tF : ByteArray := ⟨#[76, 101, 97, 112, 32, 49, 57, 55, 50, 32, 74, 117, 32, 51, 48, 32, 50, 51, 58, 53, 57, 58, 54, 48, 32, 43, 32, 83]⟩
def tG : ByteArray := ⟨#[69, 120, 112, 105, 114, 101, 115, 32, 49, 57, 55, 51, 32, 74, 97, 110, 32, 49, 32, 48, 58, 48, 58, 48, 10, 69, 120, 112, 105, 114, 101, 115, 32, 49, 57, 55, 51, 32, 74, 97, 110, 32, 49, 32, 48, 58, 48, 58, 48]⟩
def tS : ByteArray := ⟨#[76, 101, 97, 112, 9, 49, 57, 55, 50, 9, 74, 117, 110, 9, 51, 48, 9, 50, 51, 58, 53, 57, 58, 54, 48, 9, 43, 9, 83, 10, 76, 101, 97, 112, 9, 49, 57, 55, 50, 9, 68, 101, 99, 9, 51, 49, 9, 50, 51, 58, 53, 57, 58, 53, 57, 9, 45, 9, 82, 10, 69, 120, 112, 105, 114, 101, 115, 9, 49, 57, 55, 52, 9, 74, 97, 110, 9, 49, 9, 48, 48, 58, 48, 48, 58, 48, 53, 10]⟩
def wa : List (List UInt8) := [[76, 101, 97, 112], [49, 57, 55, 50], [74, 117, 110], [51, 48], [50, 51, 58, 53, 57, 58, 54, 48], [43], [83]]
def wb : List (List UInt8) := [[108, 101, 97, 112], [49, 57, 55, 50], [68, 69, 67, 69, 77, 66, 69, 82], [51, 49], [50, 51, 58, 53, 57, 58, 53, 57], [45], [114, 111, 108, 108]]
def wc : List (List UInt8) := [[69, 120, 112, 105, 114, 101, 115], [49, 57, 55, 52], [74, 97, 110], [49], [48, 58, 48, 48, 58, 48, 53]]
def xc : List (List UInt8) := [[76, 101, 97, 112], [49, 57, 55, 50], [74, 117, 110], [51, 48], [50, 51, 58, 53, 57, 58, 53, 57], [43], [83]]
def xd : List (List UInt8) := [[76, 101, 97, 112], [49, 57, 55, 50], [74, 117, 110], [50, 57], [50, 51, 58, 53, 57, 58, 54, 48], [43], [83]]
def xe' : List (List UInt8) := [[76, 101, 97, 112], [49, 57, 55, 50], [74, 117, 110], [51, 49], [50, 51, 58, 53, 57, 58, 54, 48], [43], [83]]
def xf : List (List UInt8) := [[76, 101, 97, 112], [49, 57, 55, 50], [74, 117], [51, 48], [50, 51, 58, 53, 57, 58, 54, 48], [43], [83]]
def xg : List (List UInt8) := [[69, 120, 112, 105, 114, 101, 115], [49, 57, 55, 51], [74, 97, 110], [49], [48, 58, 48, 58, 48]]
theorem lines_a : (splitS tA).map wl = [[], wa, [], wb, wc] := by decide +kernel
theorem lines_c : (splitS tC).map wl = [xc] := by decide +kernel
theorem lines_d : (splitS tD).map wl = [[], xd] := by decide +kernel
theorem lines_e : (splitS tE).map wl = [xe'] := by decide +kernel
theorem lines_f : (splitS tF).map wl = [xf] := by decide +kernel
theorem lines_g : (splitS tG).map wl = [xg, xg] := by decide +kernel
def lA : List Lp := [(911, 1, false), (1095, -1, true)]
theorem goodA : lm.Good lA := by
  intro i hi
  match i, hi with
  | 0, _ => exact lm.wr_ok.2 ⟨by decide, by decide, by decide, lm.end_911, by decide, by decide⟩
  | 1, _ => exact lm.wr_ok.2 ⟨by decide, by decide, by decide, lm.end_1095, by decide, by decide⟩
theorem ceA : ce lA true 126230405 = 0 := lm.ce_ok.2 ⟨goodA, by decide⟩
theorem ce1 : ce [(911, 1, false)] false 0 = 0 := ce_good (good_take goodA 1)
theorem ce2 : ce lA false 0 = 0 := ce_good goodA
theorem end_910 : lm.endB 910 = false := lm.end_not (y := 1972) (m := 6) (d := 29) (by decide) (by decide) (by decide)
theorem ce3 : ce [(910, 1, false)] false 0 = 5 := by
  have h : lm.wr [(910, 1, false)] 0 = 5 := by
    unfold lm.wr
    rw [show lm.dy [((910 : Int), (1 : Int), false)] 0 = 910 from rfl, end_910]
    decide
  exact ((lm.ce_at (k := 0) (has := false) (x := 0) (fun i hi => absurd hi (by omega)) (by decide) (by rw [h]; decide)).2).trans h
theorem skip {s : S} (r : List (List (List UInt8))) (k : Nat) : run ([] :: r) k s = run r (k + 1) (stS [] (k + 1) s) := run_go rfl r k
theorem leap_E {w : List (List UInt8)} {s : S} {v : Int} (hk : kd w = 1) (hf : lfT w = true) (hd : moD (mo w) = true) (hs : moS (mo w) = if sgn w = -1 then 86399 else 86400) (hc : ce (s.lv ++ [lpO w]) false 0 = v) : stE w s = v := by
  unfold stE lE
  rw [hk, if_neg (by decide), if_pos rfl, hf, if_neg (by decide), hd, if_neg (by decide), if_neg (fun h => h hs), hc]
def q1 : S := stS [] 1 S0
def q2 : S := stS wa 2 q1
def q3 : S := stS [] 3 q2
def q4 : S := stS wb 4 q3
def q5 : S := stS wc 5 q4
theorem parse_a : parse ((splitS tA).map wl) = ⟨0, 0, lA, true, 126230405⟩ := by
  rw [lines_a]
  have h : run [[], wa, [], wb, wc] 0 S0 = ((0, 0), q5) := by
    rw [skip]
    show run [wa, [], wb, wc] 1 q1 = _
    rw [run_go (leap_E (by decide +kernel) (by decide +kernel) (by decide +kernel) (by decide +kernel) (by rw [show q1.lv ++ [lpO wa] = [(911, 1, false)] from by decide +kernel]; exact ce1))]
    show run [[], wb, wc] 2 q2 = _
    rw [skip]
    show run [wb, wc] 3 q3 = _
    rw [run_go (leap_E (by decide +kernel) (by decide +kernel) (by decide +kernel) (by decide +kernel) (by rw [show q3.lv ++ [lpO wb] = lA from by decide +kernel]; exact ce2))]
    show run [wc] 4 q4 = _
    have e : stE wc q4 = 0 := by
      unfold stE
      rw [show kd wc = 2 from by decide +kernel, if_neg (by decide), if_neg (by decide), if_pos rfl]
      decide +kernel
    rw [run_go e, run_nil]
    rfl
  rw [run_fin h]
  have f : q5.lv = lA ∧ q5.xl = 5 ∧ q5.ex = 126230405 := by decide +kernel
  obtain ⟨f1, f2, f3⟩ := f
  unfold fin
  rw [f1, f2, f3, if_neg (by decide), if_pos ceA]
theorem bad_run {ws : List (List (List UInt8))} {n : Nat} {c : Int} {s : S} (h : run ws 0 S0 = ((n, c), s)) (hc : c ≠ 0) : parse ws = bad n c := by
  unfold parse
  rw [h, if_pos hc]
theorem parse_c : parse ((splitS tC).map wl) = bad 1 6 := by
  rw [lines_c]
  have e : stE xc S0 = 6 := by
    unfold stE lE
    rw [show kd xc = 1 from by decide +kernel, if_neg (by decide), if_pos rfl, if_neg (by decide +kernel), if_neg (by decide +kernel), if_pos (by decide +kernel)]
  exact bad_run (s := S0) (by rw [run_no (by rw [e]; decide), e]) (by decide)
theorem parse_d : parse ((splitS tD).map wl) = bad 2 5 := by
  rw [lines_d]
  have e : stE xd q1 = 5 := leap_E (by decide +kernel) (by decide +kernel) (by decide +kernel) (by decide +kernel) (by rw [show q1.lv ++ [lpO xd] = [(910, 1, false)] from by decide +kernel]; exact ce3)
  refine bad_run (s := q1) ?_ (by decide)
  rw [skip]
  show run [xd] 1 q1 = _
  rw [run_no (by rw [e]; decide), e]
theorem parse_e : parse ((splitS tE).map wl) = bad 1 9 := by
  rw [lines_e]
  have e : stE xe' S0 = 9 := by
    unfold stE lE
    rw [show kd xe' = 1 from by decide +kernel, if_neg (by decide), if_pos rfl, if_neg (by decide +kernel), if_pos (by decide +kernel)]
  exact bad_run (s := S0) (by rw [run_no (by rw [e]; decide), e]) (by decide)
theorem parse_f : parse ((splitS tF).map wl) = bad 1 2 := by
  rw [lines_f]
  have e : stE xf S0 = 2 := by
    unfold stE lE
    rw [show kd xf = 1 from by decide +kernel, if_neg (by decide), if_pos rfl, if_pos (by decide +kernel)]
  exact bad_run (s := S0) (by rw [run_no (by rw [e]; decide), e]) (by decide)
def g1' : S := stS xg 1 S0
theorem parse_g : parse ((splitS tG).map wl) = bad 2 2 := by
  rw [lines_g]
  have k : kd xg = 2 := by decide +kernel
  have e1 : stE xg S0 = 0 := by
    unfold stE
    rw [k, if_neg (by decide), if_neg (by decide), if_pos rfl]
    decide +kernel
  have e2 : stE xg g1' = 2 := by
    unfold stE
    rw [k, if_neg (by decide), if_neg (by decide), if_pos rfl]
    decide +kernel
  refine bad_run (s := g1') ?_ (by decide)
  rw [run_go e1]
  show run [xg] 1 g1' = _
  rw [run_no (by rw [e2]; decide), e2]
theorem text_lits : B (txw (full lA true 126230405)) = tS := by
  have d1 : dtm 911 = (1972, 6, 30) := dtm_is (by decide) (by decide)
  have d2 : dtm 1095 = (1972, 12, 31) := dtm_is (by decide) (by decide)
  have d3 : dtm 1461 = (1974, 1, 1) := dtm_is (by decide) (by decide)
  have e : full lA true 126230405 = [lnW leapL (dtm 911) (ckm 86400) [[43], [83]], lnW leapL (dtm 1095) (ckm 86399) [[45], [82]], lnW expL (dtm 1461) (ckm 5) []] := rfl
  rw [e, d1, d2, d3]
  decide +kernel
theorem small_months : mon [115, 69, 112, 116] = 9 ∧ mon [109, 97] = 0 := by decide +kernel
theorem small_clocks : clkT [49, 58, 50, 58, 51] = true ∧ clkI [49, 58, 50, 58, 51] = 3723 ∧ clkT [49, 58, 50] = false ∧ clkT [48, 48, 49, 58, 50, 58, 51] = false ∧ clkI [49, 58, 50] = 0 ∧ clkI [48, 48, 49, 58, 50, 58, 51] = 0 := by decide +kernel
end Go.Proofs.YtajfblfkohemeaaDoor.zs
