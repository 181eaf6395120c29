/-
  Records of tables, and tables of records, as plain mathematics: what belongs to what, and that the records of a right table are right. No condition.
-/
import Derived.Test.YtcikcdeihlmbcaaDoorRecMath
import Derived.Test.YtcikcdeihlmbcaaDoorLeap
namespace Go.Proofs.YtcikcdeihlmbcaaDoor.rm
open lm
set_option linter.unusedVariables false
set_option maxRecDepth 100000

theorem ext2 {l m : List Cr} (h : l.length = m.length) (hk : ∀ k, k < l.length → ra l k = ra m k ∧ rc l k = rc m k) : l = m := by
  refine List.ext_getElem h fun k h1 h2 => ?_
  have := hk k h1
  unfold ra rc at this
  rw [List.getD_eq_getElem?_getD, List.getElem?_eq_getElem h1, List.getD_eq_getElem?_getD, List.getElem?_eq_getElem h2] at this
  simp at this
  exact Prod.ext this.1 this.2
theorem ext3' {l m : List Lp} (h : l.length = m.length) (hk : ∀ k, k < l.length → dy l k = dy m k ∧ st l k = st m k ∧ leap.rl l k = leap.rl m k) : l = m := by
  refine List.ext_getElem h fun k h1 h2 => ?_
  have := hk k h1
  unfold dy st leap.rl at this
  rw [List.getD_eq_getElem?_getD, List.getElem?_eq_getElem h1, List.getD_eq_getElem?_getD, List.getElem?_eq_getElem h2] at this
  simp at this
  exact Prod.ext this.1 (Prod.ext this.2.1 this.2.2)
theorem get_map {α : Type} (f : Nat → α) (n k : Nat) (d : α) (h : k < n) : ((List.range n).map f).getD k d = f k := by
  rw [List.getD_eq_getElem?_getD, List.getElem?_map, List.getElem?_range h]; rfl
theorem get_app1 {α : Type} (l m : List α) (k : Nat) (d : α) (h : k < l.length) : (l ++ m).getD k d = l.getD k d := by
  rw [List.getD_eq_getElem?_getD, List.getD_eq_getElem?_getD, List.getElem?_append_left h]
theorem get_app2 {α : Type} (l : List α) (x d : α) : (l ++ [x]).getD l.length d = x := by
  rw [List.getD_eq_getElem?_getD, List.getElem?_append_right (Nat.le_refl _)]; simp

/-- is no leap one of local time? -/
def nr (l : List Lp) : Prop := ∀ k, k < l.length → leap.rl l k = false
/-- the record of a leap: when it is. -/
def rat (l : List Lp) (k : Nat) : Int := (dy l k + 1) * 86400 + tot l k - (if st l k = -1 then 1 else 0)
def rcsF (l : List Lp) (k : Nat) : List Cr := (List.range k).map fun i => (rat l i, tot l (i + 1))
def recs (l : List Lp) (has : Bool) (x : Int) : List Cr := if has = true then rcsF l l.length ++ [(x + tot l l.length, tot l l.length)] else rcsF l l.length
theorem rcsF_succ (l : List Lp) (k : Nat) : rcsF l (k + 1) = rcsF l k ++ [(rat l k, tot l (k + 1))] := by simp [rcsF, List.range_succ]
theorem rcsF_len (l : List Lp) (k : Nat) : (rcsF l k).length = k := by simp [rcsF]
theorem recs_len (l : List Lp) (has : Bool) (x : Int) : (recs l has x).length = l.length + (if has = true then 1 else 0) := by
  unfold recs
  cases has <;> simp [rcsF_len]
theorem recs_ra (l : List Lp) (has : Bool) (x : Int) {i : Nat} (h : i < l.length) : ra (recs l has x) i = rat l i := by
  unfold recs
  split
  · unfold ra; rw [get_app1 _ _ _ _ (by rw [rcsF_len]; exact h)]; unfold rcsF; rw [get_map _ _ _ _ h]
  · unfold ra rcsF; rw [get_map _ _ _ _ h]
theorem recs_rc (l : List Lp) (has : Bool) (x : Int) {i : Nat} (h : i < l.length) : rc (recs l has x) i = tot l (i + 1) := by
  unfold recs
  split
  · unfold rc; rw [get_app1 _ _ _ _ (by rw [rcsF_len]; exact h)]; unfold rcsF; rw [get_map _ _ _ _ h]
  · unfold rc rcsF; rw [get_map _ _ _ _ h]
theorem recs_end (l : List Lp) (x : Int) : ra (recs l true x) l.length = x + tot l l.length ∧ rc (recs l true x) l.length = tot l l.length := by
  have : (recs l true x).getD l.length z2 = (x + tot l l.length, tot l l.length) := by
    unfold recs
    rw [if_pos rfl]
    have := get_app2 (rcsF l l.length) (x + tot l l.length, tot l l.length) z2
    rw [rcsF_len] at this
    exact this
  unfold ra rc
  rw [this]
  exact ⟨rfl, rfl⟩
theorem recs_ahd (l : List Lp) (has : Bool) (x : Int) {i : Nat} (h : i ≤ l.length) : ahd (recs l has x) i = tot l i := by
  cases i with
  | zero => rfl
  | succ i => rw [ahd_succ, recs_rc l has x (by omega)]
theorem recs_isX {l : List Lp} (h : lm.Good l) (has : Bool) (x : Int) {i : Nat} (hi : i < l.length) : isX (recs l has x) i = false := by
  unfold isX
  rw [recs_rc l has x hi, recs_ahd l has x (by omega), tot]
  have := h.step hi
  rw [decide_eq_false (p := tot l i + st l i = tot l i) (by omega), Bool.and_false]
theorem recs_hasX {l : List Lp} (h : lm.Good l) (has : Bool) (x : Int) : hasX (recs l has x) = has ∧ nl (recs l has x) = l.length := by
  have hl := recs_len l has x
  cases has
  · have e : hasX (recs l false x) = false := by
      cases hx : hasX (recs l false x)
      · rfl
      · exfalso
        obtain ⟨a, b⟩ := hasX_iff.1 hx
        simp at hl
        rw [hl] at a b
        have := recs_isX h false x (i := l.length - 1) (by omega)
        rw [isX_iff.2 ⟨by omega, b⟩] at this
        cases this
    refine ⟨e, ?_⟩
    rw [nl_no e, hl]; simp
  · simp at hl
    have e : hasX (recs l true x) = true := hasX_iff.2 ⟨by omega, by rw [hl, Nat.add_sub_cancel, (recs_end l x).2, recs_ahd l true x (Nat.le_refl _)]⟩
    refine ⟨e, ?_⟩
    have := nl_yes e
    omega
theorem rat_gap {l : List Lp} (h : lm.Good l) {i : Nat} (hi : i < l.length) (h0 : 0 < i) : 2419199 ≤ rat l i - rat l (i - 1) := by
  have a := h.far hi h0
  have b := h.step hi
  have c := h.step (i := i - 1) (by omega)
  have e : tot l i = tot l (i - 1) + st l (i - 1) := by
    obtain ⟨j, rfl⟩ : ∃ j, i = j + 1 := ⟨i - 1, by omega⟩
    rw [Nat.add_sub_cancel, tot]
  unfold rat
  rw [e]
  split <;> split <;> omega
theorem rat_bd {l : List Lp} (h : lm.Good l) {i : Nat} (hi : i < l.length) : 0 ≤ rat l i ∧ rat l i ≤ 253402300999 := by
  have a := h.day hi
  have b := tot_bd h i (by omega)
  have c := h.len
  unfold rat
  split <;> omega
theorem recs_ok {l : List Lp} {has : Bool} {x : Int} (h : ce l has x = 0) : Ok (recs l has x) := by
  have g := good_of h
  have hl := recs_len l has x
  have hn := g.len
  intro i hi
  by_cases hc : i < l.length
  · refine wrg_ok.2 ⟨by omega, by rw [recs_ra l has x hc]; exact (rat_bd g hc).1, ?_, fun h0 => ?_⟩
    · rw [recs_rc l has x hc, recs_ahd l has x (by omega), tot]
      have := g.step hc
      omega
    · rw [recs_isX g has x hc, recs_ra l has x hc, recs_ra l has x (by omega)]
      simp only [Bool.false_eq_true, if_false]
      exact rat_gap g hc h0
  · cases has
    · simp at hl; omega
    · simp at hl
      obtain rfl : i = l.length := by omega
      have xp0 := (ce_ok.1 h).2
      unfold xp at xp0
      rw [if_pos rfl] at xp0
      have hx : lst l ≤ x ∧ x ≤ 253402300799 := by
        rcases Decidable.em (x < lst l ∨ 253402300799 < x) with k | k
        · rw [if_pos k] at xp0; cases xp0
        · omega
      obtain ⟨e1, e2⟩ := recs_end l x
      have tb := tot_bd g l.length (Nat.le_refl _)
      have ix : isX (recs l true x) l.length = true := isX_iff.2 ⟨by omega, by rw [e2, recs_ahd l true x (Nat.le_refl _)]⟩
      have x0 : 63072000 ≤ x := by
        by_cases h0 : l.length = 0
        · have := hx.1; unfold lst at this; rw [if_pos h0] at this; exact this
        · have := hx.1
          unfold lst at this
          rw [if_neg h0] at this
          have := (g.day (i := l.length - 1) (by omega)).1
          omega
      refine wrg_ok.2 ⟨by omega, by rw [e1]; omega, Or.inr (Or.inr ix), fun h0 => ?_⟩
      rw [ix, if_pos rfl, e1, recs_ra l true x (by omega)]
      have := hx.1
      unfold lst at this
      rw [if_neg (by omega)] at this
      have s := g.step (i := l.length - 1) (by omega)
      have e : tot l l.length = tot l (l.length - 1) + st l (l.length - 1) := by
        obtain ⟨j, hj⟩ : ∃ j, l.length = j + 1 := ⟨l.length - 1, by omega⟩
        rw [hj, Nat.add_sub_cancel, tot]
      rw [e]
      unfold rat
      split <;> omega

/-! the table of records -/
/-- the second of a day that a record says, as it goes round. -/
def mid (l : List Cr) (k : Nat) : Int :=
  if ra l k - ahd l k + (if rc l k - ahd l k = -1 then 1 else 0) ≤ 9223372036854775807 then ra l k - ahd l k + (if rc l k - ahd l k = -1 then 1 else 0) else ra l k - ahd l k + (if rc l k - ahd l k = -1 then 1 else 0) - 18446744073709551616
def lkd (l : List Cr) (k : Nat) : Int := (mid l k).tdiv 86400 - 1
def lkF (l : List Cr) (k : Nat) : List Lp := (List.range k).map fun i => (lkd l i, rc l i - ahd l i, false)
def lk (l : List Cr) : List Lp := lkF l (nl l)
theorem lkF_succ (l : List Cr) (k : Nat) : lkF l (k + 1) = lkF l k ++ [(lkd l k, rc l k - ahd l k, false)] := by simp [lkF, List.range_succ]
theorem lkF_len (l : List Cr) (k : Nat) : (lkF l k).length = k := by simp [lkF]
theorem lk_len (l : List Cr) : (lk l).length = nl l := lkF_len _ _
theorem lk_at (l : List Cr) {i : Nat} (h : i < nl l) : dy (lk l) i = lkd l i ∧ st (lk l) i = rc l i - ahd l i ∧ leap.rl (lk l) i = false := by
  unfold dy st leap.rl lk lkF
  rw [get_map _ _ _ _ h]
  exact ⟨rfl, rfl, rfl⟩
def lkx (l : List Cr) : Int := if hasX l = true then (if ra l (nl l) - ahd l (nl l) ≤ 9223372036854775807 then ra l (nl l) - ahd l (nl l) else ra l (nl l) - ahd l (nl l) - 18446744073709551616) else 0
theorem lk_nr (l : List Cr) : nr (lk l) := fun k hk => by rw [lk_len] at hk; exact (lk_at l hk).2.2
theorem lk_tot (l : List Cr) : ∀ i, i ≤ nl l → tot (lk l) i = ahd l i
  | 0, _ => rfl
  | i + 1, h => by rw [tot, lk_tot l i (by omega), (lk_at l (by omega)).2.1, ahd_succ]; omega
open Classical in
/-- is there a table whose records a row is? -/
noncomputable def tb (l : List Cr) : Bool := decide (ce (lk l) (hasX l) (lkx l) = 0 ∧ recs (lk l) (hasX l) (lkx l) = l)
theorem tb_iff {l : List Cr} : tb l = true ↔ ce (lk l) (hasX l) (lkx l) = 0 ∧ recs (lk l) (hasX l) (lkx l) = l := by unfold tb; exact decide_eq_true_iff
theorem lk_recs {l : List Lp} {has : Bool} {x : Int} (h : ce l has x = 0) (hr : nr l) : lk (recs l has x) = l ∧ hasX (recs l has x) = has ∧ lkx (recs l has x) = x := by
  have g := good_of h
  obtain ⟨e1, e2⟩ := recs_hasX g has x
  have hn := g.len
  refine ⟨?_, e1, ?_⟩
  · refine ext3' (by rw [lk_len, e2]) fun k hk => ?_
    rw [lk_len, e2] at hk
    obtain ⟨a, b, c⟩ := lk_at (recs l has x) (i := k) (by rw [e2]; exact hk)
    have s : rc (recs l has x) k - ahd (recs l has x) k = st l k := by rw [recs_rc l has x hk, recs_ahd l has x (by omega), tot]; omega
    refine ⟨?_, by rw [b, s], by rw [c, hr k hk]⟩
    rw [a]
    unfold lkd mid
    rw [s, recs_ra l has x hk, recs_ahd l has x (by omega)]
    have d := g.day hk
    have e : rat l k - tot l k + (if st l k = -1 then 1 else 0) = (dy l k + 1) * 86400 := by unfold rat; split <;> omega
    rw [e, if_pos (by omega), Int.tdiv_eq_ediv_of_nonneg (by omega)]
    omega
  · unfold lkx
    rw [e1]
    cases has
    · rw [if_neg (by decide)]
      have := (ce_ok.1 h).2
      unfold xp at this
      rw [if_neg (by decide)] at this
      rcases Decidable.em (x = 0) with k | k
      · exact k.symm
      · rw [if_neg k] at this; cases this
    · have := (ce_ok.1 h).2
      unfold xp at this
      rw [if_pos rfl] at this
      have hx : x ≤ 253402300799 := by
        rcases Decidable.em (x < lst l ∨ 253402300799 < x) with k | k
        · rw [if_pos k] at this; cases this
        · omega
      rw [if_pos rfl, e2, (recs_end l x).1, recs_ahd l true x (Nat.le_refl _)]
      rw [if_pos (by omega)]
      omega
theorem tb_recs {l : List Lp} {has : Bool} {x : Int} (h : ce l has x = 0) (hr : nr l) : tb (recs l has x) = true := by
  obtain ⟨a, b, c⟩ := lk_recs h hr
  rw [tb_iff, a, b, c]
  exact ⟨h, rfl⟩
end Go.Proofs.YtcikcdeihlmbcaaDoor.rm
