/-
  Lines of leap seconds of sources as plain mathematics: months, clocks, kinds of lines, what is wrong of a line, how a source is read. Nothing of any program. No condition.
-/
import Derived.Test.YtiboijhfieaepaaGreatDoorLinesCur
import Derived.Test.YtiboijhfieaepaaGreatDoorStampMath
import Derived.Test.YtiboijhfieaepaaGreatDoorLeapMath
namespace Go.Proofs.YtiboijhfieaepaaGreatDoor.zs
open lx cal stx
open lm (Lp ce Good dy st)
set_option linter.unusedVariables false
set_option maxRecDepth 100000

/-! what stands ahead of the first of a byte, and behind it -/
def ahd (c : UInt8) (l : List UInt8) : List UInt8 := l.takeWhile fun x => decide (x ≠ c)
def bhd (c : UInt8) (l : List UInt8) : List UInt8 := (l.dropWhile fun x => decide (x ≠ c)).drop 1
theorem ahd_some {c : UInt8} {l : List UInt8} (h : ∀ x ∈ l, x ≠ c) (r : List UInt8) : ahd c (l ++ c :: r) = l ∧ bhd c (l ++ c :: r) = r := by
  have no : ∀ x ∈ l, decide (x ≠ c) = true := fun x hx => by rw [decide_eq_true_eq]; exact h x hx
  constructor
  · unfold ahd
    rw [List.takeWhile_append_of_pos no, List.takeWhile_cons_of_neg (by simp), List.append_nil]
  · unfold bhd
    rw [List.dropWhile_append_of_pos no, List.dropWhile_cons_of_neg (by simp)]
    rfl
theorem ahd_none {c : UInt8} : ∀ {l : List UInt8}, (∀ x ∈ l, x ≠ c) → ahd c l = l ∧ bhd c l = []
  | [], _ => ⟨rfl, rfl⟩
  | x :: r, h => by
    obtain ⟨a, b⟩ := ahd_none (l := r) (fun y hy => h y (by simp [hy]))
    have hx : decide (x ≠ c) = true := by rw [decide_eq_true_eq]; exact h x (by simp)
    unfold ahd bhd at *
    rw [List.takeWhile_cons_of_pos (p := fun y => decide (y ≠ c)) hx, List.dropWhile_cons_of_pos (p := fun y => decide (y ≠ c)) hx]
    exact ⟨by rw [a], b⟩
/-- one or the other. -/
theorem ahd_or (c : UInt8) : ∀ l : List UInt8, (∀ x ∈ l, x ≠ c) ∨ ∃ a r, l = a ++ c :: r ∧ ∀ x ∈ a, x ≠ c
  | [] => .inl (by simp)
  | x :: l => by
    by_cases h : x = c
    · subst h
      exact .inr ⟨[], l, rfl, by simp⟩
    · rcases ahd_or c l with k | ⟨a, r, rfl, k⟩
      · refine .inl fun y hy => ?_
        rcases List.mem_cons.1 hy with rfl | hy
        · exact h
        · exact k y hy
      · refine .inr ⟨x :: a, r, rfl, fun y hy => ?_⟩
        rcases List.mem_cons.1 hy with rfl | hy
        · exact h
        · exact k y hy
theorem ahd_mem {c : UInt8} {l : List UInt8} : ∀ x ∈ ahd c l, x ∈ l ∧ x ≠ c := by
  intro x hx
  rcases ahd_or c l with h | ⟨a, r, rfl, h⟩
  · rw [(ahd_none h).1] at hx
    exact ⟨hx, h x hx⟩
  · rw [(ahd_some h r).1] at hx
    exact ⟨by simp [hx], h x hx⟩
theorem ahd_len (c : UInt8) (l : List UInt8) : (ahd c l).length ≤ l.length ∧ (bhd c l).length ≤ l.length := by
  rcases ahd_or c l with h | ⟨a, r, rfl, h⟩
  · rw [(ahd_none h).1, (ahd_none h).2]; simp
  · rw [(ahd_some h r).1, (ahd_some h r).2]; simp; omega

/-! months -/
def names : List (List UInt8) := [[106, 97, 110, 117, 97, 114, 121],
  [102, 101, 98, 114, 117, 97, 114, 121],
  [109, 97, 114, 99, 104],
  [97, 112, 114, 105, 108],
  [109, 97, 121],
  [106, 117, 110, 101],
  [106, 117, 108, 121],
  [97, 117, 103, 117, 115, 116],
  [115, 101, 112, 116, 101, 109, 98, 101, 114],
  [111, 99, 116, 111, 98, 101, 114],
  [110, 111, 118, 101, 109, 98, 101, 114],
  [100, 101, 99, 101, 109, 98, 101, 114]]
def monF (b : List UInt8) : List (List UInt8) → Nat → Nat
  | [], _ => 0
  | n :: r, k => if b.isPrefixOf n = true then k else monF b r (k + 1)
def monN (w : List UInt8) : Nat := if w.length < 3 then 0 else monF (w.map fld) names 1
def mon (w : List UInt8) : Int := (monN w : Nat)
theorem monF_bd (b : List UInt8) : ∀ (r : List (List UInt8)) (k : Nat), 1 ≤ k → monF b r k = 0 ∨ (k ≤ monF b r k ∧ monF b r k < k + r.length)
  | [], k, _ => .inl rfl
  | n :: r, k, h => by
    unfold monF
    by_cases e : b.isPrefixOf n = true
    · rw [if_pos e]
      right
      simp
    · rw [if_neg e]
      have := monF_bd b r (k + 1) (by omega)
      rw [List.length_cons]
      omega
theorem mon_bd (w : List UInt8) : 0 ≤ mon w ∧ mon w ≤ 12 := by
  unfold mon monN
  have := monF_bd (w.map fld) names 1 (Nat.le_refl _)
  have : names.length = 12 := rfl
  split <;> omega

/-! clocks -/
def clkB (h i x : Int) : Bool := decide ((0 ≤ h ∧ h ≤ 23 ∧ 0 ≤ i ∧ i ≤ 59 ∧ 0 ≤ x ∧ x ≤ 59) ∨ (h = 23 ∧ i = 59 ∧ x = 60))
theorem clkB_iff (h i x : Int) : clkB h i x = true ↔ Clk h i x := by unfold clkB Clk; exact decide_eq_true_iff
def cpt (l : List UInt8) : Option Int := if 2 < l.length then none else nm l
def cpT (l : List UInt8) : Bool := (cpt l).isSome
def cpI (l : List UInt8) : Int := (cpt l).getD 0
def c1 (l : List UInt8) : List UInt8 := ahd 58 l
def c2 (l : List UInt8) : List UInt8 := ahd 58 (bhd 58 l)
def c3 (l : List UInt8) : List UInt8 := bhd 58 (bhd 58 l)
def clkT (l : List UInt8) : Bool := cpT (c1 l) && (cpT (c2 l) && (cpT (c3 l) && clkB (cpI (c1 l)) (cpI (c2 l)) (cpI (c3 l))))
def clkI (l : List UInt8) : Int := if clkT l = true then secN (cpI (c1 l)) (cpI (c2 l)) (cpI (c3 l)) else 0
theorem clkI_bd (l : List UInt8) : 0 ≤ clkI l ∧ clkI l ≤ 86400 := by
  unfold clkI
  split
  · rename_i h
    unfold clkT at h
    simp only [Bool.and_eq_true] at h
    have := secN_bd ((clkB_iff _ _ _).1 h.2.2.2)
    exact this
  · omega

/-! days and seconds -/
def vldB (y m d : Int) : Bool := decide (1 ≤ y ∧ y ≤ 9999 ∧ 1 ≤ m ∧ m ≤ 12 ∧ 1 ≤ d ∧ d ≤ dim y m)
theorem vldB_iff (y m d : Int) : vldB y m d = true ↔ Vld y m d := by unfold vldB Vld; exact decide_eq_true_iff
def g (w : List (List UInt8)) (k : Nat) : List UInt8 := w.getD k []
def moT (w : List (List UInt8)) : Bool := nmT (g w 0) && (decide (mon (g w 1) ≠ 0) && (nmT (g w 2) && clkT (g w 3)))
def moD (w : List (List UInt8)) : Bool := vldB (nmI (g w 0)) (mon (g w 1)) (nmI (g w 2))
def moN (w : List (List UInt8)) : Int := if moD w = true then num (nmI (g w 0)) (mon (g w 1)) (nmI (g w 2)) else 0
def moS (w : List (List UInt8)) : Int := clkI (g w 3)
theorem moN_bd (w : List (List UInt8)) : -719162 ≤ moN w ∧ moN w ≤ 2932896 := by
  unfold moN
  split
  · rename_i h
    exact num_bd ((vldB_iff _ _ _).1 h)
  · omega

/-! lines -/
def lw (l : List UInt8) : List (List UInt8) := wds [] (ahd 35 l)
def fw (w : List (List UInt8)) : List UInt8 := (w.headD []).map fld
def leapL : List UInt8 := [108, 101, 97, 112]
def expL : List UInt8 := [101, 120, 112, 105, 114, 101, 115]
def rollL : List UInt8 := [114, 111, 108, 108, 105, 110, 103]
def statL : List UInt8 := [115, 116, 97, 116, 105, 111, 110, 97, 114, 121]
/-- what a line is: 0 empty, 1 a leap line, 2 an expiry line, 3 none of these. -/
def kd (w : List (List UInt8)) : Nat := if w = [] then 0 else if fw w = leapL ∧ w.length = 7 then 1 else if fw w = expL ∧ w.length = 5 then 2 else 3
theorem kd_le (w : List (List UInt8)) : kd w ≤ 3 := by unfold kd; (repeat' split) <;> omega
theorem kd_len {w : List (List UInt8)} : (kd w = 1 → w.length = 7) ∧ (kd w = 2 → w.length = 5) ∧ (kd w = 0 ↔ w = []) := by
  unfold kd
  refine ⟨?_, ?_, ?_⟩ <;> (repeat' split) <;> simp_all
def rkR (x : List UInt8) : Bool := (x.map fld).isPrefixOf rollL
def rkT (x : List UInt8) : Bool := rkR x || (x.map fld).isPrefixOf statL
def mo (w : List (List UInt8)) : List (List UInt8) := (w.drop 1).take 4
def sgT (w : List (List UInt8)) : Bool := decide (g w 5 = [43] ∨ g w 5 = [45])
def sgn (w : List (List UInt8)) : Int := if g w 5 = [45] then -1 else 1
def lfT (w : List (List UInt8)) : Bool := moT (mo w) && (rkT (g w 6) && sgT w)
def lpO (w : List (List UInt8)) : Lp := (moN (mo w), sgn w, rkR (g w 6))

/-- how far a source is read. -/
structure S where
  lv : List Lp
  xl : Nat
  ex : Int
def S0 : S := ⟨[], 0, 0⟩
noncomputable def lE (w : List (List UInt8)) (s : S) : Int := if lfT w = false then 2 else if moD (mo w) = false then 9 else if moS (mo w) ≠ (if sgn w = -1 then 86399 else 86400) then 6 else ce (s.lv ++ [lpO w]) false 0
def xE (w : List (List UInt8)) (s : S) : Int := if moT (mo w) = false ∨ s.xl ≠ 0 then 2 else if moD (mo w) = false ∨ moS (mo w) = 86400 then 9 else 0
noncomputable def stE (w : List (List UInt8)) (s : S) : Int := if kd w = 0 then 0 else if kd w = 1 then lE w s else if kd w = 2 then xE w s else 2
def stS (w : List (List UInt8)) (a : Nat) (s : S) : S :=
  { lv := if kd w = 1 then s.lv ++ [lpO w] else s.lv,
    xl := if kd w = 2 then a else s.xl,
    ex := if kd w = 2 then moN (mo w) * 86400 + moS (mo w) else s.ex }
noncomputable def run : List (List (List UInt8)) → Nat → S → (Nat × Int) × S
  | [], _, s => ((0, 0), s)
  | w :: r, k, s => if stE w s = 0 then run r (k + 1) (stS w (k + 1) s) else ((k + 1, stE w s), s)
theorem run_nil (k : Nat) (s : S) : run [] k s = ((0, 0), s) := rfl
theorem run_go {w : List (List UInt8)} {s : S} (h : stE w s = 0) (r : List (List (List UInt8))) (k : Nat) : run (w :: r) k s = run r (k + 1) (stS w (k + 1) s) := by rw [run, if_pos h]
theorem run_no {w : List (List UInt8)} {s : S} (h : stE w s ≠ 0) (r : List (List (List UInt8))) (k : Nat) : run (w :: r) k s = ((k + 1, stE w s), s) := by rw [run, if_neg h]
theorem run_app : ∀ (a b : List (List (List UInt8))) (k : Nat) (s : S), run (a ++ b) k s = if (run a k s).1.2 = 0 then run b (k + a.length) (run a k s).2 else run a k s
  | [], b, k, s => by simp [run_nil]
  | l :: a, b, k, s => by
    by_cases h : stE l s = 0
    · rw [List.cons_append, run_go h, run_go h, run_app a b, List.length_cons, show k + 1 + a.length = k + (a.length + 1) by omega]
    · rw [List.cons_append, run_no h, run_no h, if_neg h]

/-- what is told of a source. -/
structure Out where
  line : Nat
  code : Int
  lv : List Lp
  has : Bool
  x : Int
def bad (n : Nat) (c : Int) : Out := ⟨n, c, [], false, 0⟩
noncomputable def fin (s : S) : Out := if s.xl = 0 then ⟨0, 0, s.lv, false, 0⟩ else if ce s.lv true s.ex = 0 then ⟨0, 0, s.lv, true, s.ex⟩ else bad s.xl 9
noncomputable def parse (ws : List (List (List UInt8))) : Out := if (run ws 0 S0).1.2 ≠ 0 then bad (run ws 0 S0).1.1 (run ws 0 S0).1.2 else fin (run ws 0 S0).2

/-! what holds of how far a source is read -/
theorem ce_bd (l : List Lp) : 0 ≤ ce l false 0 ∧ ce l false 0 ≤ 9 ∧ ce l false 0 ≠ 1 := by
  have hw : ∀ k, lm.wr l k = 8 ∨ lm.wr l k = 9 ∨ lm.wr l k = 5 ∨ lm.wr l k = 6 ∨ lm.wr l k = 4 ∨ lm.wr l k = 0 := by
    intro k
    unfold lm.wr
    (repeat' split) <;> simp
  unfold lm.ce
  split
  · have := hw (lm.cp l)
    omega
  · simp [lm.xp]
theorem stE_bd (w : List (List UInt8)) (s : S) : stE w s = 0 ∨ (2 ≤ stE w s ∧ stE w s ≤ 9) := by
  have := ce_bd (s.lv ++ [lpO w])
  unfold stE lE xE
  (repeat' split) <;> omega
/-- what is so at each place. -/
structure Inv (k : Nat) (s : S) : Prop where
  good : ce s.lv false 0 = 0
  place : s.xl ≤ k
  bd : -100000000000000 ≤ s.ex ∧ s.ex ≤ 1000000000000000
theorem inv_zero : Inv 0 S0 := ⟨by unfold lm.ce S0; simp [lm.xp], Nat.le_refl _, by decide⟩
theorem inv_step {w : List (List UInt8)} {k : Nat} {s : S} (h : Inv k s) (e : stE w s = 0) : Inv (k + 1) (stS w (k + 1) s) := by
  have hm := moN_bd (mo w)
  have hs := clkI_bd (g (mo w) 3)
  refine ⟨?_, ?_, ?_⟩
  · unfold stS
    simp only
    split
    · rename_i q
      unfold stE lE at e
      rw [if_neg (by omega), if_pos q] at e
      (repeat' split at e) <;> first | exact e | omega
    · exact h.good
  · have := h.place
    unfold stS
    simp only
    split <;> omega
  · have := h.bd
    unfold stS moS
    simp only
    split <;> omega
theorem run_inv : ∀ (ws : List (List (List UInt8))) (k : Nat) (s : S), Inv k s → Inv (k + ws.length) (run ws k s).2 ∧ ((run ws k s).1.2 ≠ 0 → k < (run ws k s).1.1 ∧ (run ws k s).1.1 ≤ k + ws.length ∧ 2 ≤ (run ws k s).1.2 ∧ (run ws k s).1.2 ≤ 9)
  | [], k, s, h => ⟨h, fun g => absurd rfl g⟩
  | w :: r, k, s, h => by
    by_cases e : stE w s = 0
    · rw [run_go e]
      obtain ⟨a, b⟩ := run_inv r (k + 1) _ (inv_step h e)
      rw [List.length_cons]
      refine ⟨by rw [show k + (r.length + 1) = k + 1 + r.length by omega]; exact a, fun g => ?_⟩
      have := b g
      omega
    · rw [run_no e]
      refine ⟨⟨h.good, by have := h.place; rw [List.length_cons]; simp only; omega, h.bd⟩, fun _ => ?_⟩
      have := stE_bd w s
      rw [List.length_cons]
      simp only
      omega
theorem parse_right (ws : List (List (List UInt8))) : ((parse ws).code = 0 ∧ (parse ws).line = 0 ∧ ce (parse ws).lv (parse ws).has (parse ws).x = 0) ∨
    (2 ≤ (parse ws).code ∧ (parse ws).code ≤ 9 ∧ 1 ≤ (parse ws).line ∧ (parse ws).line ≤ ws.length ∧ (parse ws).lv = [] ∧ (parse ws).has = false ∧ (parse ws).x = 0) := by
  obtain ⟨a, b⟩ := run_inv ws 0 S0 inv_zero
  rw [Nat.zero_add] at a b
  unfold parse
  by_cases h : (run ws 0 S0).1.2 ≠ 0
  · rw [if_pos h]
    have := b h
    refine .inr ⟨?_, ?_, ?_, ?_, rfl, rfl, rfl⟩ <;> (unfold bad; simp only; omega)
  · rw [if_neg h]
    unfold fin
    have := a.place
    split
    · exact .inl ⟨rfl, rfl, a.good⟩
    split
    · rename_i q
      exact .inl ⟨rfl, rfl, q⟩
    · refine .inr ⟨?_, ?_, ?_, ?_, rfl, rfl, rfl⟩ <;> (unfold bad; simp only; omega)
theorem run_len (ws : List (List (List UInt8))) : (run ws 0 S0).2.lv.length ≤ 200 := (lm.good_of (run_inv ws 0 S0 inv_zero).1.good).len
theorem run_snoc {pre : List (List (List UInt8))} {s : S} {w : List (List UInt8)} (h : run pre 0 S0 = ((0, 0), s)) (e : stE w s = 0) : run (pre ++ [w]) 0 S0 = ((0, 0), stS w (pre.length + 1) s) := by
  rw [run_app, h, if_pos rfl, run_go e, run_nil, Nat.zero_add]
theorem run_bad {pre r : List (List (List UInt8))} {s : S} {w : List (List UInt8)} (h : run pre 0 S0 = ((0, 0), s)) (e : stE w s ≠ 0) : parse (pre ++ w :: r) = bad (pre.length + 1) (stE w s) := by
  have : run (pre ++ w :: r) 0 S0 = ((pre.length + 1, stE w s), s) := by rw [run_app, h, if_pos rfl, run_no e, Nat.zero_add]
  unfold parse
  rw [this, if_pos e]
theorem run_fin {ws : List (List (List UInt8))} {s : S} (h : run ws 0 S0 = ((0, 0), s)) : parse ws = fin s := by
  unfold parse
  rw [h, if_neg (fun k => k rfl)]
end Go.Proofs.YtiboijhfieaepaaGreatDoor.zs
