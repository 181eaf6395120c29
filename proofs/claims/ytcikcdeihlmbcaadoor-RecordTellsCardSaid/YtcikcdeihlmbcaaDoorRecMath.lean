/-
  Records of leap seconds as plain mathematics: what is wrong of a record, which one is the first wrong one, the expiry, what is found, sums and steps. No condition.
-/
import Derived.Test.YtcikcdeihlmbcaaDoorLeapMath
namespace Go.Proofs.YtcikcdeihlmbcaaDoor.rm
open lm
set_option linter.unusedVariables false
set_option maxRecDepth 100000

/-- a record: when, and the sum from then on. -/
abbrev Cr := Int × Int
def z2 : Cr := (0, 0)
def ra (l : List Cr) (k : Nat) : Int := (l.getD k z2).1
def rc (l : List Cr) (k : Nat) : Int := (l.getD k z2).2
/-- the sum of the record ahead of a place. -/
def ahd (l : List Cr) (k : Nat) : Int := if k = 0 then 0 else rc l (k - 1)
theorem ahd_zero (l : List Cr) : ahd l 0 = 0 := rfl
theorem ahd_succ (l : List Cr) (k : Nat) : ahd l (k + 1) = rc l k := by unfold ahd; rw [if_neg (by omega)]; rfl
/-- is the record at a place the expiry? -/
def isX (l : List Cr) (k : Nat) : Bool := decide (k + 1 = l.length) && decide (rc l k = ahd l k)
theorem isX_iff {l : List Cr} {k : Nat} : isX l k = true ↔ k + 1 = l.length ∧ rc l k = ahd l k := by unfold isX; simp
theorem isX_not {l : List Cr} {k : Nat} (h : k + 1 ≠ l.length) : isX l k = false := by unfold isX; simp [h]
/-- what is wrong of the record at a place: an error's number. -/
def wrg (l : List Cr) (k : Nat) : Int :=
  if 200 < k then 8 else if ra l k < 0 then 9 else if rc l k ≠ ahd l k + 1 ∧ rc l k ≠ ahd l k - 1 ∧ isX l k = false then 6 else if 0 < k ∧ ra l k - ra l (k - 1) < (if isX l k = true then 0 else 2419199) then 7 else 0
theorem wrg_ok {l : List Cr} {k : Nat} : wrg l k = 0 ↔ (k ≤ 200 ∧ 0 ≤ ra l k ∧ (rc l k = ahd l k + 1 ∨ rc l k = ahd l k - 1 ∨ isX l k = true) ∧ (0 < k → (if isX l k = true then 0 else 2419199) ≤ ra l k - ra l (k - 1))) := by
  unfold wrg
  split
  · constructor
    · intro h; omega
    · rintro ⟨h, _⟩; omega
  split
  · constructor
    · intro h; omega
    · rintro ⟨_, h, _⟩; omega
  split
  · rename_i _ _ h
    obtain ⟨h1, h2, h3⟩ := h
    constructor
    · intro h; omega
    · rintro ⟨_, _, h | h | h, _⟩
      · exact absurd h h1
      · exact absurd h h2
      · rw [h3] at h; cases h
  rename_i a b c
  have c' : rc l k = ahd l k + 1 ∨ rc l k = ahd l k - 1 ∨ isX l k = true := by
    by_cases h1 : rc l k = ahd l k + 1
    · exact Or.inl h1
    by_cases h2 : rc l k = ahd l k - 1
    · exact Or.inr (Or.inl h2)
    · refine Or.inr (Or.inr ?_)
      cases h3 : isX l k
      · exact absurd ⟨h1, h2, h3⟩ c
      · rfl
  by_cases h : 0 < k ∧ ra l k - ra l (k - 1) < (if isX l k = true then 0 else 2419199)
  · rw [if_pos h]
    constructor
    · intro g; omega
    · rintro ⟨_, _, _, g⟩
      have := g h.1
      omega
  · rw [if_neg h]
    constructor
    · intro _
      refine ⟨by omega, by omega, c', fun h0 => ?_⟩
      rcases Int.lt_or_le (ra l k - ra l (k - 1)) (if isX l k = true then 0 else 2419199) with g | g
      · exact absurd ⟨h0, g⟩ h
      · exact g
    · intro _; rfl
theorem wrg_bd (l : List Cr) (k : Nat) : 0 ≤ wrg l k ∧ wrg l k ≤ 9 := by
  unfold wrg
  (repeat' split) <;> omega

/-! the first place where something is not 0 -/
def fw (f : Nat → Int) : Nat → Nat → Nat
  | 0, k => k
  | n + 1, k => if f k = 0 then fw f n (k + 1) else k
theorem fw_spec (f : Nat → Int) : ∀ n k, (∀ i, k ≤ i → i < fw f n k → f i = 0) ∧ k ≤ fw f n k ∧ fw f n k ≤ k + n ∧ (fw f n k < k + n → f (fw f n k) ≠ 0)
  | 0, k => ⟨fun i h1 h2 => by unfold fw at h2; omega, by unfold fw; omega, by unfold fw; omega, fun h => by unfold fw at h; omega⟩
  | n + 1, k => by
    by_cases h : f k = 0
    · have e : fw f (n + 1) k = fw f n (k + 1) := by rw [fw, if_pos h]
      obtain ⟨a, b, c, d⟩ := fw_spec f n (k + 1)
      rw [e]
      refine ⟨fun i h1 h2 => ?_, by omega, by omega, fun h => d (by omega)⟩
      rcases Nat.eq_or_lt_of_le h1 with rfl | h3
      · exact h
      · exact a i h3 h2
    · have e : fw f (n + 1) k = k := by rw [fw, if_neg h]
      rw [e]
      exact ⟨fun i h1 h2 => by omega, Nat.le_refl _, by omega, fun _ => h⟩
def pw (l : List Cr) : Nat := fw (wrg l) l.length 0
def ew (l : List Cr) : Int := if pw l < l.length then wrg l (pw l) else 0
theorem pw_ok (l : List Cr) {i : Nat} (h : i < pw l) : wrg l i = 0 := (fw_spec _ l.length 0).1 i (Nat.zero_le _) h
theorem pw_le (l : List Cr) : pw l ≤ l.length := by have := (fw_spec (wrg l) l.length 0).2.2.1; unfold pw; omega
theorem pw_wrong (l : List Cr) (h : pw l < l.length) : wrg l (pw l) ≠ 0 := (fw_spec (wrg l) l.length 0).2.2.2 (by unfold pw at h; omega)
theorem pw_is (l : List Cr) (k : Nat) (h1 : ∀ i, i < k → wrg l i = 0) (h2 : k ≤ l.length) (h3 : k < l.length → wrg l k ≠ 0) : pw l = k := by
  rcases Nat.lt_trichotomy (pw l) k with h | h | h
  · exact absurd (h1 _ h) (pw_wrong l (by omega))
  · exact h
  · exact absurd (pw_ok l h) (h3 (by have := pw_le l; omega))
theorem ew_at {l : List Cr} {k : Nat} (h1 : ∀ i, i < k → wrg l i = 0) (h2 : k < l.length) (h3 : wrg l k ≠ 0) : pw l = k ∧ ew l = wrg l k := by
  have e := pw_is l k h1 (by omega) (fun _ => h3)
  exact ⟨e, by unfold ew; rw [e, if_pos h2]⟩
theorem ew_end {l : List Cr} (h1 : ∀ i, i < l.length → wrg l i = 0) : pw l = l.length ∧ ew l = 0 := by
  have e := pw_is l l.length h1 (Nat.le_refl _) (fun h => by omega)
  exact ⟨e, by unfold ew; rw [e, if_neg (by omega)]⟩
/-- all records are right. -/
def Ok (l : List Cr) : Prop := ∀ i, i < l.length → wrg l i = 0
theorem ew_ok {l : List Cr} : ew l = 0 ↔ Ok l := by
  constructor
  · intro h i hi
    by_cases hc : pw l < l.length
    · unfold ew at h; rw [if_pos hc] at h; exact absurd h (pw_wrong l hc)
    · exact pw_ok l (by omega)
  · intro h; exact (ew_end h).2
theorem ew_not {l : List Cr} (h : ew l ≠ 0) : pw l < l.length := by
  rcases Nat.lt_or_ge (pw l) l.length with g | g
  · exact g
  · exact absurd (by unfold ew; rw [if_neg (by omega)]) h
theorem ew_bd (l : List Cr) : 0 ≤ ew l ∧ ew l ≤ 9 := by unfold ew; split; exact wrg_bd _ _; omega

/-! the expiry, and the leaps -/
def hasX (l : List Cr) : Bool := decide (l.length ≠ 0) && isX l (l.length - 1)
def nl (l : List Cr) : Nat := if hasX l = true then l.length - 1 else l.length
theorem hasX_iff {l : List Cr} : hasX l = true ↔ l.length ≠ 0 ∧ rc l (l.length - 1) = ahd l (l.length - 1) := by
  unfold hasX
  rw [Bool.and_eq_true, decide_eq_true_iff, isX_iff]
  constructor
  · rintro ⟨a, b, c⟩; exact ⟨a, c⟩
  · rintro ⟨a, b⟩; exact ⟨a, by omega, b⟩
theorem nl_le (l : List Cr) : nl l ≤ l.length := by unfold nl; split <;> omega
theorem nl_yes {l : List Cr} (h : hasX l = true) : nl l + 1 = l.length := by
  have := (hasX_iff.1 h).1
  unfold nl; rw [if_pos h]; omega
theorem nl_no {l : List Cr} (h : hasX l = false) : nl l = l.length := by unfold nl; rw [if_neg (by rw [h]; decide)]
theorem isX_nl {l : List Cr} {k : Nat} (h : k < nl l) : isX l k = false := by
  cases hx : hasX l
  · have e := nl_no hx
    cases hk : isX l k
    · rfl
    · exfalso
      obtain ⟨a, b⟩ := isX_iff.1 hk
      have : hasX l = true := hasX_iff.2 ⟨by omega, by rw [← a]; exact b⟩
      rw [hx] at this; cases this
  · have := nl_yes hx
    exact isX_not (by omega)
/-- the leaps of a row. -/
def lvs (l : List Cr) : List Cr := l.take (nl l)
theorem lvs_len (l : List Cr) : (lvs l).length = nl l := by have := nl_le l; simp [lvs]; omega
theorem getD_take (l : List Cr) (n k : Nat) (h : k < n) : (l.take n).getD k z2 = l.getD k z2 := by
  rw [List.getD_eq_getElem?_getD, List.getD_eq_getElem?_getD, List.getElem?_take_of_lt h]
theorem ra_take (l : List Cr) {n k : Nat} (h : k < n) : ra (l.take n) k = ra l k := by unfold ra; rw [getD_take l n k h]
theorem rc_take (l : List Cr) {n k : Nat} (h : k < n) : rc (l.take n) k = rc l k := by unfold rc; rw [getD_take l n k h]
theorem ahd_take (l : List Cr) {n k : Nat} (h : k ≤ n) : ahd (l.take n) k = ahd l k := by
  unfold ahd
  split
  · rfl
  · exact rc_take l (by omega)
theorem ra_lvs (l : List Cr) {k : Nat} (h : k < nl l) : ra (lvs l) k = ra l k := ra_take l h
theorem rc_lvs (l : List Cr) {k : Nat} (h : k < nl l) : rc (lvs l) k = rc l k := rc_take l h
theorem ahd_lvs (l : List Cr) {k : Nat} (h : k ≤ nl l) : ahd (lvs l) k = ahd l k := ahd_take l h

/-! right rows -/
theorem Ok.len {l : List Cr} (h : Ok l) : l.length ≤ 201 := by
  rcases Nat.lt_or_ge 201 l.length with g | g
  · have := (wrg_ok.1 (h 201 g)).1; omega
  · exact g
theorem Ok.pos {l : List Cr} (h : Ok l) {i : Nat} (hi : i < l.length) : 0 ≤ ra l i := (wrg_ok.1 (h i hi)).2.1
theorem ahd_bd {l : List Cr} {k : Nat} (h : ∀ i, i < k → wrg l i = 0) : k ≤ 201 ∧ -(k : Int) ≤ ahd l k ∧ ahd l k ≤ k := by
  induction k with
  | zero => rw [ahd_zero]; omega
  | succ k ih =>
    obtain ⟨a, b, c⟩ := ih (fun i hi => h i (by omega))
    obtain ⟨d, _, e, _⟩ := wrg_ok.1 (h k (by omega))
    rw [ahd_succ]
    have e' : rc l k = ahd l k + 1 ∨ rc l k = ahd l k - 1 ∨ rc l k = ahd l k := by
      rcases e with e | e | e
      · exact Or.inl e
      · exact Or.inr (Or.inl e)
      · exact Or.inr (Or.inr (isX_iff.1 e).2)
    omega
theorem Ok.ahd {l : List Cr} (h : Ok l) {k : Nat} (hk : k ≤ l.length) : -(k : Int) ≤ rm.ahd l k ∧ rm.ahd l k ≤ k := (ahd_bd (fun i hi => h i (by omega))).2
theorem Ok.step {l : List Cr} (h : Ok l) {i : Nat} (hi : i < nl l) : rc l i = rm.ahd l i + 1 ∨ rc l i = rm.ahd l i - 1 := by
  have hl := nl_le l
  rcases (wrg_ok.1 (h i (by omega))).2.2.1 with e | e | e
  · exact Or.inl e
  · exact Or.inr e
  · rw [isX_nl hi] at e; cases e
theorem Ok.gap {l : List Cr} (h : Ok l) {i : Nat} (hi : i < nl l) (h0 : 0 < i) : 2419199 ≤ ra l i - ra l (i - 1) := by
  have hl := nl_le l
  have := (wrg_ok.1 (h i (by omega))).2.2.2 h0
  rw [isX_nl hi] at this
  simpa using this
theorem Ok.last {l : List Cr} (h : Ok l) (hx : hasX l = true) (h0 : 0 < nl l) : ra l (nl l - 1) ≤ ra l (nl l) := by
  have e := nl_yes hx
  have hi : isX l (nl l) = true := isX_iff.2 ⟨e, by have := (hasX_iff.1 hx).2; rw [← e] at this; simpa using this⟩
  have := (wrg_ok.1 (h (nl l) (by omega))).2.2.2 h0
  rw [hi] at this
  simp at this
  omega
theorem Ok.lt {l : List Cr} (h : Ok l) {i : Nat} (hi : i < nl l) : ∀ j, j < i → ra l j + 2419199 ≤ ra l i := by
  induction i with
  | zero => intro j hj; omega
  | succ i ih =>
    intro j hj
    have e := h.gap hi (by omega)
    rw [Nat.add_sub_cancel] at e
    rcases Nat.eq_or_lt_of_le (Nat.le_of_lt_succ hj) with rfl | g
    · omega
    · have := ih (by omega) j g; omega

/-! what is found -/
def fge : List Cr → Int → Nat
  | [], _ => 0
  | x :: r, d => if x.1 < d then fge r d + 1 else 0
theorem ra_cons (x : Cr) (r : List Cr) (i : Nat) : ra (x :: r) (i + 1) = ra r i := by unfold ra; simp
theorem ra_zero (x : Cr) (r : List Cr) : ra (x :: r) 0 = x.1 := by unfold ra; simp
theorem fge_spec : ∀ (l : List Cr) (d : Int), fge l d ≤ l.length ∧ (∀ i, i < fge l d → ra l i < d) ∧ (fge l d < l.length → d ≤ ra l (fge l d))
  | [], d => ⟨by simp [fge], fun i h => by simp [fge] at h, fun h => by simp [fge] at h⟩
  | x :: r, d => by
    obtain ⟨a, b, c⟩ := fge_spec r d
    by_cases h : x.1 < d
    · have e : fge (x :: r) d = fge r d + 1 := by rw [fge, if_pos h]
      rw [e]
      refine ⟨by simp; omega, fun i hi => ?_, fun g => ?_⟩
      · match i with
        | 0 => rw [ra_zero]; exact h
        | i + 1 => rw [ra_cons]; exact b i (by omega)
      · rw [ra_cons]; exact c (by simpa using g)
    · have e : fge (x :: r) d = 0 := by rw [fge, if_neg h]
      rw [e]
      exact ⟨Nat.zero_le _, fun i hi => by omega, fun _ => by rw [ra_zero]; omega⟩
theorem fge_is {l : List Cr} {d : Int} {k : Nat} (h1 : k ≤ l.length) (h2 : ∀ i, i < k → ra l i < d) (h3 : k < l.length → d ≤ ra l k) : fge l d = k := by
  obtain ⟨a, b, c⟩ := fge_spec l d
  rcases Nat.lt_trichotomy (fge l d) k with h | h | h
  · have := h2 _ h; have := c (by omega); omega
  · exact h
  · have := b _ h; have := h3 (by omega); omega
theorem Ok.found {l : List Cr} (h : Ok l) (d : Int) {i : Nat} (hi : i < nl l) : d ≤ ra l i ↔ fge (lvs l) d ≤ i := by
  obtain ⟨a, b, c⟩ := fge_spec (lvs l) d
  rw [lvs_len] at a c
  constructor
  · intro g
    rcases Nat.lt_or_ge i (fge (lvs l) d) with k | k
    · have := b i k; rw [ra_lvs l hi] at this; omega
    · exact k
  · intro g
    have hf : fge (lvs l) d < nl l := by omega
    have hc := c hf
    rw [ra_lvs l hf] at hc
    rcases Nat.eq_or_lt_of_le g with e | e
    · rw [← e]; exact hc
    · have := h.lt hi _ e; omega
/-- how many leaps are ahead of a second. -/
def fx (l : List Cr) (d : Int) : Nat := fge (lvs l) d
theorem fx_le (l : List Cr) (d : Int) : fx l d ≤ nl l := by have := (fge_spec (lvs l) d).1; rw [lvs_len] at this; exact this
theorem fx_lt {l : List Cr} {d : Int} {i : Nat} (h : i < fx l d) : ra l i < d := by
  have := (fge_spec (lvs l) d).2.1 i h
  rwa [ra_lvs l (by have := fx_le l d; omega)] at this
theorem fx_ge {l : List Cr} {d : Int} (h : fx l d < nl l) : d ≤ ra l (fx l d) := by
  have := (fge_spec (lvs l) d).2.2 (by rw [lvs_len]; exact h)
  rwa [show fge (lvs l) d = fx l d from rfl, ra_lvs l h] at this
theorem fx_is {l : List Cr} {d : Int} {k : Nat} (h1 : k ≤ nl l) (h2 : ∀ i, i < k → ra l i < d) (h3 : k < nl l → d ≤ ra l k) : fx l d = k :=
  fge_is (by rw [lvs_len]; exact h1) (fun i hi => by rw [ra_lvs l (by omega)]; exact h2 i hi) (fun h => by rw [lvs_len] at h; rw [ra_lvs l h]; exact h3 h)
/-- Sum and Step. -/
def sm (l : List Cr) (d : Int) : Int := ahd l (fx l (d + 1))
def sp (l : List Cr) (d : Int) : Int := if fx l d < nl l ∧ ra l (fx l d) = d then rc l (fx l d) - ahd l (fx l d) else 0
theorem sp_at {l : List Cr} (h : Ok l) {i : Nat} (hi : i < nl l) : fx l (ra l i) = i ∧ sp l (ra l i) = rc l i - ahd l i := by
  have e : fx l (ra l i) = i := fx_is (Nat.le_of_lt hi) (fun j hj => by have := h.lt hi j hj; omega) (fun _ => Int.le_refl _)
  exact ⟨e, by unfold sp; rw [e, if_pos ⟨hi, rfl⟩]⟩
theorem sp_none {l : List Cr} {d : Int} (h : ∀ i, i < nl l → ra l i ≠ d) : sp l d = 0 := by
  unfold sp
  split
  · rename_i g; exact absurd g.2 (h _ g.1)
  · rfl
theorem sp_bd {l : List Cr} (h : Ok l) (d : Int) : -1 ≤ sp l d ∧ sp l d ≤ 1 := by
  unfold sp
  split
  · rename_i g; have := h.step g.1; omega
  · omega
theorem fx_next {l : List Cr} (h : Ok l) (d : Int) : (fx l d < nl l ∧ ra l (fx l d) = d ∧ fx l (d + 1) = fx l d + 1) ∨ (¬ (fx l d < nl l ∧ ra l (fx l d) = d) ∧ fx l (d + 1) = fx l d) := by
  have a := fx_le l d
  by_cases hc : fx l d < nl l ∧ ra l (fx l d) = d
  · refine Or.inl ⟨hc.1, hc.2, fx_is (by omega) (fun i hi => ?_) (fun g => ?_)⟩
    · rcases Nat.eq_or_lt_of_le (Nat.le_of_lt_succ hi) with rfl | k
      · omega
      · have := fx_lt k; omega
    · have := h.lt g (fx l d) (by omega); omega
  · refine Or.inr ⟨hc, fx_is a (fun i hi => by have := fx_lt hi; omega) (fun g => ?_)⟩
    have := fx_ge g
    rcases Int.lt_or_eq_of_le this with k | k
    · omega
    · exact absurd ⟨g, k.symm⟩ hc
theorem sm_next {l : List Cr} (h : Ok l) (d : Int) : sm l d = sm l (d - 1) + sp l d := by
  unfold sm
  rw [show d - 1 + 1 = d by omega]
  rcases fx_next h d with ⟨a, b, c⟩ | ⟨a, c⟩
  · rw [c, ahd_succ, sp, if_pos ⟨a, b⟩]; omega
  · rw [c, sp, if_neg a]; omega
theorem sm_bd {l : List Cr} (h : Ok l) (d : Int) : -201 ≤ sm l d ∧ sm l d ≤ 201 := by
  have := fx_le l (d + 1)
  have := nl_le l
  have := h.len
  have := h.ahd (k := fx l (d + 1)) (by omega)
  unfold sm
  omega

/-! parts -/
theorem isX_take {l : List Cr} {k i : Nat} (hk : k ≤ l.length) (hi : i + 1 < k) : isX (l.take k) i = false ∧ isX l i = false := by
  have hl : (l.take k).length = k := by simp; omega
  exact ⟨isX_not (by omega), isX_not (by omega)⟩
theorem wrg_take {l : List Cr} {k i : Nat} (hk : k ≤ l.length) (hi : i < k) (h : isX (l.take k) i = isX l i) : wrg (l.take k) i = wrg l i := by
  unfold wrg
  rw [h, ra_take l hi, rc_take l hi, ahd_take l (by omega), ra_take l (k := i - 1) (by omega)]
/-- what is wrong of a beginning is wrong of the whole. -/
theorem wrg_part {l : List Cr} {k i : Nat} (hk : k ≤ l.length) (hi : i < k) (h : wrg l i = 0) (hl : k < l.length ∨ i + 1 < k ∨ k = l.length) : wrg (l.take k) i = 0 := by
  by_cases h1 : i + 1 < k
  · obtain ⟨a, b⟩ := isX_take hk h1
    rw [wrg_take hk hi (by rw [a, b])]; exact h
  · by_cases h2 : k = l.length
    · subst h2; rw [List.take_length]; exact h
    · have hx : isX l i = false := isX_not (by omega)
      obtain ⟨a, b, c, d⟩ := wrg_ok.1 h
      rw [hx] at c d
      refine wrg_ok.2 ⟨a, by rw [ra_take l hi]; exact b, ?_, fun h0 => ?_⟩
      · rw [rc_take l hi, ahd_take l (by omega)]
        rcases c with c | c | c
        · exact Or.inl c
        · exact Or.inr (Or.inl c)
        · cases c
      · have := d h0
        rw [ra_take l hi, ra_take l (k := i - 1) (by omega)]
        simp at this
        split <;> omega
theorem Ok.take {l : List Cr} (h : Ok l) {k : Nat} (hk : k ≤ l.length) : Ok (l.take k) := by
  have hl : (l.take k).length = k := by simp; omega
  intro i hi
  rw [hl] at hi
  exact wrg_part hk hi (h i (by omega)) (by omega)
theorem part_yes {l : List Cr} {k : Nat} (hk : k ≤ l.length) (h : ew l = 0) : pw l = l.length ∧ ew (l.take k) = 0 ∧ pw (l.take k) = k := by
  have hl : (l.take k).length = k := by simp; omega
  have hO := ew_ok.1 h
  refine ⟨(ew_end hO).1, ew_ok.2 (hO.take hk), ?_⟩
  rw [(ew_end (hO.take hk)).1, hl]
theorem part_no {l : List Cr} {k : Nat} (hk : k ≤ l.length) (h : ew (l.take k) ≠ 0) : pw (l.take k) < k ∧ pw l ≤ pw (l.take k) := by
  have hl : (l.take k).length = k := by simp; omega
  have hc := ew_not h
  rw [hl] at hc
  refine ⟨hc, ?_⟩
  rcases Nat.lt_or_ge (pw (l.take k)) (pw l) with g | g
  · exfalso
    have := pw_ok l g
    exact pw_wrong (l.take k) (by omega) (wrg_part hk hc this (by omega))
  · exact g
theorem part_half {l : List Cr} {k : Nat} (hk : k ≤ l.length) (h : ew (l.take k) = 0) : pw (l.take k) = k ∧ k ≤ pw l + 1 := by
  have hl : (l.take k).length = k := by simp; omega
  have hO := ew_ok.1 h
  refine ⟨by rw [(ew_end hO).1, hl], ?_⟩
  rcases Nat.lt_or_ge (pw l + 1) k with g | g
  · exfalso
    refine pw_wrong l (by omega) ?_
    obtain ⟨a, b⟩ := isX_take hk g
    rw [← wrg_take hk (by omega) (by rw [a, b])]
    exact hO _ (by omega)
  · exact g
/-- without its expiry a right row is right, and has none. -/
theorem hasX_lvs {l : List Cr} (h : Ok l) : hasX (lvs l) = false := by
  cases hx : hasX (lvs l)
  · rfl
  · exfalso
    obtain ⟨a, b⟩ := hasX_iff.1 hx
    rw [lvs_len] at a b
    rw [rc_lvs l (by omega), ahd_lvs l (by omega)] at b
    have := h.step (i := nl l - 1) (by omega)
    omega
theorem nl_lvs {l : List Cr} (h : Ok l) : nl (lvs l) = nl l := by rw [nl_no (hasX_lvs h), lvs_len]
theorem lvs_lvs {l : List Cr} (h : Ok l) : lvs (lvs l) = lvs l := by
  have := nl_lvs h
  rw [show lvs (lvs l) = (lvs l).take (nl (lvs l)) from rfl, this, ← lvs_len, List.take_length]
theorem sm_lvs {l : List Cr} (h : Ok l) (d : Int) : sm (lvs l) d = sm l d := by
  unfold sm fx
  rw [lvs_lvs h]
  exact ahd_lvs l (fx_le l (d + 1))
theorem sp_lvs {l : List Cr} (h : Ok l) (d : Int) : sp (lvs l) d = sp l d := by
  unfold sp
  have e : fx (lvs l) d = fx l d := by unfold fx; rw [lvs_lvs h]
  rw [e, nl_lvs h]
  by_cases hc : fx l d < nl l
  · rw [ra_lvs l hc, rc_lvs l hc, ahd_lvs l (by omega)]
  · rw [if_neg (fun g => hc g.1), if_neg (fun g => hc g.1)]
end Go.Proofs.YtcikcdeihlmbcaaDoor.rm
