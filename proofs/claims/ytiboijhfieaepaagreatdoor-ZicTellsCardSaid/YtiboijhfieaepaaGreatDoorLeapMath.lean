/-
  Tables of leap seconds as plain mathematics: what is wrong of a leap, which one is the first wrong one, the expiry, what is found, totals and steps; days that end a month lie 28 days apart at least. No condition.
-/
import Derived.Test.YtiboijhfieaepaaGreatDoorDayDate
namespace Go.Proofs.YtiboijhfieaepaaGreatDoor.lm
open cal
set_option linter.unusedVariables false
set_option maxRecDepth 100000

/-- a leap: its day, its step, whether it is of local time. -/
abbrev Lp := Int × Int × Bool
def Endd (n : Int) : Prop := ∃ y m : Int, 1 ≤ y ∧ y ≤ 9999 ∧ 1 ≤ m ∧ m ≤ 12 ∧ num y m (dim y m) = n
open Classical in
noncomputable def endB (n : Int) : Bool := decide (Endd n)
open Classical in
theorem endB_iff (n : Int) : endB n = true ↔ Endd n := by unfold endB; exact decide_eq_true_iff
theorem vld_last {y m : Int} (h1 : 1 ≤ y) (h2 : y ≤ 9999) (h3 : 1 ≤ m) (h4 : m ≤ 12) : Vld y m (dim y m) := ⟨h1, h2, h3, h4, by have := dim_bd y m; omega, Int.le_refl _⟩
theorem endB_of {y m d n : Int} (v : Vld y m d) (hn : num y m d = n) : (d == dim y m) = endB n := by
  rw [Bool.eq_iff_iff, beq_iff_eq, endB_iff]
  constructor
  · rintro rfl
    exact ⟨y, m, v.1, v.2.1, v.2.2.1, v.2.2.2.1, hn⟩
  · rintro ⟨z, k, h1, h2, h3, h4, he⟩
    obtain ⟨rfl, rfl, rfl⟩ := num_inj v (vld_last h1 h2 h3 h4) (by omega)
    rfl
theorem end_far {a b : Int} (ha : Endd a) (hb : Endd b) (h : a < b) : 28 ≤ b - a := by
  obtain ⟨y, m, h1, h2, h3, h4, rfl⟩ := ha
  obtain ⟨z, k, g1, g2, g3, g4, rfl⟩ := hb
  have db := dim_bd z k
  by_cases hc : num y m (dim y m) < num z k 1
  · unfold num at hc ⊢; omega
  · exfalso
    have v : Vld z k (num y m (dim y m) - num z k 1 + 1) := ⟨g1, g2, g3, g4, by omega, by unfold num at h hc ⊢; omega⟩
    have hn : num z k (num y m (dim y m) - num z k 1 + 1) = num y m (dim y m) := by
      generalize hx : num y m (dim y m) = x at *
      unfold num; omega
    obtain ⟨rfl, rfl, e⟩ := num_inj (vld_last h1 h2 h3 h4) v hn.symm
    rw [← e] at hn
    omega
theorem end_yes {y m d n : Int} (v : Vld y m d) (hd : d = dim y m) (hn : num y m d = n) : endB n = true := by
  rw [← endB_of v hn]; simpa using hd
theorem end_not {y m d n : Int} (v : Vld y m d) (hd : d ≠ dim y m) (hn : num y m d = n) : endB n = false := by
  rw [← endB_of v hn]; simpa using hd
theorem end_911 : endB 911 = true := end_yes (y := 1972) (m := 6) (d := 30) (by decide) (by decide) (by decide)
theorem end_1095 : endB 1095 = true := end_yes (y := 1972) (m := 12) (d := 31) (by decide) (by decide) (by decide)
theorem end_912 : endB 912 = false := end_not (y := 1972) (m := 7) (d := 1) (by decide) (by decide) (by decide)

def z3 : Lp := (0, 0, false)
def dy (l : List Lp) (k : Nat) : Int := (l.getD k z3).1
def st (l : List Lp) (k : Nat) : Int := (l.getD k z3).2.1
/-- what is wrong of the leap at a place: an error's number. -/
noncomputable def wr (l : List Lp) (k : Nat) : Int :=
  if 200 ≤ k then 8 else if dy l k < 730 ∨ 2932896 ≤ dy l k then 9 else if endB (dy l k) = false then 5 else if st l k ≠ 1 ∧ st l k ≠ -1 then 6 else if 0 < k ∧ dy l k ≤ dy l (k - 1) then 4 else 0
theorem wr_ok {l : List Lp} {k : Nat} : wr l k = 0 ↔ (k < 200 ∧ 730 ≤ dy l k ∧ dy l k < 2932896 ∧ endB (dy l k) = true ∧ (st l k = 1 ∨ st l k = -1) ∧ (0 < k → dy l (k - 1) < dy l k)) := by
  unfold wr
  split
  · constructor <;> intro h <;> omega
  split
  · constructor <;> intro h <;> omega
  split
  · rename_i _ _ h; rw [h]; constructor <;> intro h <;> simp at h
  split
  · constructor <;> intro h <;> omega
  split
  · constructor <;> intro h <;> omega
  · rename_i a b c d e
    constructor
    · intro _
      refine ⟨by omega, by omega, by omega, by simpa using c, by omega, fun h => by omega⟩
    · intro _; rfl
theorem wr_bd (l : List Lp) (k : Nat) : 0 ≤ wr l k ∧ wr l k ≤ 9 := by
  unfold wr
  (repeat' split) <;> omega
/-- the place of the first wrong one. -/
noncomputable def cpF (l : List Lp) : Nat → Nat → Nat
  | 0, k => k
  | n + 1, k => if wr l k = 0 then cpF l n (k + 1) else k
noncomputable def cp (l : List Lp) : Nat := cpF l l.length 0
theorem cpF_spec (l : List Lp) : ∀ n k, (∀ i, k ≤ i → i < cpF l n k → wr l i = 0) ∧ k ≤ cpF l n k ∧ cpF l n k ≤ k + n ∧ (cpF l n k < k + n → wr l (cpF l n k) ≠ 0)
  | 0, k => ⟨fun i h1 h2 => by unfold cpF at h2; omega, by unfold cpF; omega, by unfold cpF; omega, fun h => by unfold cpF at h; omega⟩
  | n + 1, k => by
    by_cases h : wr l k = 0
    · have e : cpF l (n + 1) k = cpF l n (k + 1) := by rw [cpF, if_pos h]
      obtain ⟨a, b, c, d⟩ := cpF_spec l n (k + 1)
      rw [e]
      refine ⟨fun i h1 h2 => ?_, by omega, by omega, fun h => d (by omega)⟩
      rcases Nat.eq_or_lt_of_le h1 with rfl | h3
      · exact h
      · exact a i h3 h2
    · have e : cpF l (n + 1) k = k := by rw [cpF, if_neg h]
      rw [e]
      exact ⟨fun i h1 h2 => by omega, Nat.le_refl _, by omega, fun _ => h⟩
theorem cp_ok (l : List Lp) {i : Nat} (h : i < cp l) : wr l i = 0 := (cpF_spec l l.length 0).1 i (Nat.zero_le _) h
theorem cp_le (l : List Lp) : cp l ≤ l.length := by have := (cpF_spec l l.length 0).2.2.1; unfold cp; omega
theorem cp_wrong (l : List Lp) (h : cp l < l.length) : wr l (cp l) ≠ 0 := (cpF_spec l l.length 0).2.2.2 (by unfold cp at h; omega)
theorem cp_is (l : List Lp) (k : Nat) (h1 : ∀ i, i < k → wr l i = 0) (h2 : k ≤ l.length) (h3 : k < l.length → wr l k ≠ 0) : cp l = k := by
  rcases Nat.lt_trichotomy (cp l) k with h | h | h
  · exact absurd (h1 _ h) (cp_wrong l (by omega))
  · exact h
  · exact absurd (cp_ok l h) (h3 (by have := cp_le l; omega))
/-- the least second of an expiry, and what is wrong of it. -/
def lst (l : List Lp) : Int := if l.length = 0 then 63072000 else (dy l (l.length - 1) + 1) * 86400
def xp (l : List Lp) (has : Bool) (x : Int) : Int := if has then (if x < lst l ∨ 253402300799 < x then 9 else 0) else if x = 0 then 0 else 9
noncomputable def ce (l : List Lp) (has : Bool) (x : Int) : Int := if cp l < l.length then wr l (cp l) else xp l has x
theorem ce_at {l : List Lp} {has : Bool} {x : Int} {k : Nat} (h1 : ∀ i, i < k → wr l i = 0) (h2 : k < l.length) (h3 : wr l k ≠ 0) : cp l = k ∧ ce l has x = wr l k := by
  have e := cp_is l k h1 (by omega) (fun _ => h3)
  exact ⟨e, by unfold ce; rw [e, if_pos h2]⟩
theorem ce_end {l : List Lp} {has : Bool} {x : Int} (h1 : ∀ i, i < l.length → wr l i = 0) : cp l = l.length ∧ ce l has x = xp l has x := by
  have e := cp_is l l.length h1 (Nat.le_refl _) (fun h => by omega)
  exact ⟨e, by unfold ce; rw [e, if_neg (by omega)]⟩
theorem ce_ok {l : List Lp} {has : Bool} {x : Int} : ce l has x = 0 ↔ (∀ i, i < l.length → wr l i = 0) ∧ xp l has x = 0 := by
  constructor
  · intro h
    by_cases hc : cp l < l.length
    · unfold ce at h; rw [if_pos hc] at h; exact absurd h (cp_wrong l hc)
    · unfold ce at h; rw [if_neg hc] at h
      exact ⟨fun i hi => cp_ok l (by omega), h⟩
  · rintro ⟨h1, h2⟩
    rw [(ce_end h1).2, h2]
/-- all leaps are right. -/
def Good (l : List Lp) : Prop := ∀ i, i < l.length → wr l i = 0
theorem good_of {l : List Lp} {has : Bool} {x : Int} (h : ce l has x = 0) : Good l := (ce_ok.1 h).1
theorem Good.len {l : List Lp} (h : Good l) : l.length ≤ 200 := by
  rcases Nat.lt_or_ge 200 l.length with g | g
  · have := (wr_ok.1 (h 200 g)).1; omega
  · exact g
theorem Good.day {l : List Lp} (h : Good l) {i : Nat} (hi : i < l.length) : 730 ≤ dy l i ∧ dy l i < 2932896 := by
  have := wr_ok.1 (h i hi); exact ⟨this.2.1, this.2.2.1⟩
theorem Good.step {l : List Lp} (h : Good l) {i : Nat} (hi : i < l.length) : st l i = 1 ∨ st l i = -1 := (wr_ok.1 (h i hi)).2.2.2.2.1
theorem Good.lt {l : List Lp} (h : Good l) {i : Nat} (hi : i < l.length) : ∀ j, j < i → dy l j < dy l i := by
  induction i with
  | zero => intro j hj; omega
  | succ i ih =>
    intro j hj
    have e := (wr_ok.1 (h (i + 1) hi)).2.2.2.2.2 (by omega)
    rw [Nat.add_sub_cancel] at e
    rcases Nat.eq_or_lt_of_le (Nat.le_of_lt_succ hj) with rfl | g
    · exact e
    · have := ih (by omega) j g; omega
theorem Good.far {l : List Lp} (h : Good l) {i : Nat} (hi : i < l.length) (h0 : 0 < i) : 28 ≤ dy l i - dy l (i - 1) := by
  have a := wr_ok.1 (h i hi)
  have b := wr_ok.1 (h (i - 1) (by omega))
  exact end_far ((endB_iff _).1 b.2.2.2.1) ((endB_iff _).1 a.2.2.2.1) (a.2.2.2.2.2 h0)

/-! what is found -/
def fnd (l : List Lp) (d : Int) : Nat := match l with
  | [] => 0
  | x :: r => if x.1 < d then fnd r d + 1 else 0
theorem dy_cons (x : Lp) (r : List Lp) (i : Nat) : dy (x :: r) (i + 1) = dy r i := by unfold dy; simp
theorem dy_zero (x : Lp) (r : List Lp) : dy (x :: r) 0 = x.1 := by unfold dy; simp
theorem fnd_spec : ∀ (l : List Lp) (d : Int), fnd l d ≤ l.length ∧ (∀ i, i < fnd l d → dy l i < d) ∧ (fnd l d < l.length → d ≤ dy l (fnd l d))
  | [], d => ⟨by simp [fnd], fun i h => by simp [fnd] at h, fun h => by simp [fnd] at h⟩
  | x :: r, d => by
    obtain ⟨a, b, c⟩ := fnd_spec r d
    by_cases h : x.1 < d
    · have e : fnd (x :: r) d = fnd r d + 1 := by rw [fnd, if_pos h]
      rw [e]
      refine ⟨by simp; omega, fun i hi => ?_, fun g => ?_⟩
      · match i with
        | 0 => rw [dy_zero]; exact h
        | i + 1 => rw [dy_cons]; exact b i (by omega)
      · rw [dy_cons]; exact c (by simpa using g)
    · have e : fnd (x :: r) d = 0 := by rw [fnd, if_neg h]
      rw [e]
      exact ⟨Nat.zero_le _, fun i hi => by omega, fun _ => by rw [dy_zero]; omega⟩
theorem fnd_le (l : List Lp) (d : Int) : fnd l d ≤ l.length := (fnd_spec l d).1
theorem fnd_is {l : List Lp} {d : Int} {k : Nat} (h1 : k ≤ l.length) (h2 : ∀ i, i < k → dy l i < d) (h3 : k < l.length → d ≤ dy l k) : fnd l d = k := by
  obtain ⟨a, b, c⟩ := fnd_spec l d
  rcases Nat.lt_trichotomy (fnd l d) k with h | h | h
  · have := h2 _ h; have := c (by omega); omega
  · exact h
  · have := b _ h; have := h3 (by omega); omega
theorem Good.found {l : List Lp} (h : Good l) (d : Int) {i : Nat} (hi : i < l.length) : d ≤ dy l i ↔ fnd l d ≤ i := by
  obtain ⟨a, b, c⟩ := fnd_spec l d
  constructor
  · intro g
    rcases Nat.lt_or_ge i (fnd l d) with k | k
    · have := b i k; omega
    · exact k
  · intro g
    rcases Nat.eq_or_lt_of_le g with e | e
    · rw [← e]; exact c (by omega)
    · have := h.lt hi _ e; have := c (by omega); omega

/-! totals and steps -/
def tot (l : List Lp) : Nat → Int
  | 0 => 0
  | k + 1 => tot l k + st l k
theorem tot_bd {l : List Lp} (h : Good l) : ∀ k, k ≤ l.length → -(k : Int) ≤ tot l k ∧ tot l k ≤ k
  | 0, _ => ⟨by simp [tot], by simp [tot]⟩
  | k + 1, hk => by
    have := tot_bd h k (by omega)
    have s := h.step (i := k) (by omega)
    rw [tot]
    omega
def stp (l : List Lp) (d : Int) : Int := if fnd l d < l.length ∧ dy l (fnd l d) = d then st l (fnd l d) else 0
theorem stp_bd {l : List Lp} (h : Good l) (d : Int) : -1 ≤ stp l d ∧ stp l d ≤ 1 := by
  unfold stp
  split
  · rename_i g; have := h.step g.1; omega
  · omega
theorem stp_at {l : List Lp} (h : Good l) {i : Nat} (hi : i < l.length) : fnd l (dy l i) = i ∧ stp l (dy l i) = st l i := by
  have e : fnd l (dy l i) = i := fnd_is (Nat.le_of_lt hi) (fun j hj => h.lt hi j hj) (fun _ => Int.le_refl _)
  exact ⟨e, by unfold stp; rw [e, if_pos ⟨hi, rfl⟩]⟩
theorem stp_none {l : List Lp} {d : Int} (h : ∀ i, i < l.length → dy l i ≠ d) : stp l d = 0 := by
  unfold stp
  split
  · rename_i g; exact absurd g.2 (h _ g.1)
  · rfl
/-- the next day's. -/
theorem next_fnd {l : List Lp} (h : Good l) (d : Int) : (fnd l d < l.length ∧ dy l (fnd l d) = d ∧ fnd l (d + 1) = fnd l d + 1) ∨ (¬ (fnd l d < l.length ∧ dy l (fnd l d) = d) ∧ fnd l (d + 1) = fnd l d) := by
  obtain ⟨a, b, c⟩ := fnd_spec l d
  by_cases hc : fnd l d < l.length ∧ dy l (fnd l d) = d
  · refine Or.inl ⟨hc.1, hc.2, fnd_is (by omega) (fun i hi => ?_) (fun g => ?_)⟩
    · rcases Nat.eq_or_lt_of_le (Nat.le_of_lt_succ hi) with rfl | k
      · omega
      · have := b i k; omega
    · have := h.lt g (fnd l d) (by omega); omega
  · refine Or.inr ⟨hc, fnd_is a (fun i hi => by have := b i hi; omega) (fun g => ?_)⟩
    have := c g
    rcases Int.lt_or_eq_of_le this with k | k
    · omega
    · exact absurd ⟨g, k.symm⟩ hc
theorem next_tot {l : List Lp} (h : Good l) (d : Int) : tot l (fnd l (d + 1)) = tot l (fnd l d) + stp l d ∧ fnd l d ≤ fnd l (d + 1) := by
  rcases next_fnd h d with ⟨a, b, c⟩ | ⟨a, c⟩
  · rw [c]; exact ⟨by rw [tot, stp, if_pos ⟨a, b⟩], by omega⟩
  · rw [c]; exact ⟨by rw [stp, if_neg a]; omega, by omega⟩
theorem fnd_first {l : List Lp} {d : Int} (h : l.length = 0 ∨ d ≤ dy l 0) : fnd l d = 0 :=
  fnd_is (Nat.zero_le _) (fun i hi => by omega) (fun g => by rcases h with h | h; omega; exact h)
end Go.Proofs.YtiboijhfieaepaaGreatDoor.lm
