/-
  A region that draws its order: some operations are listed already, the others of its head are quiet in a class of worlds, and its tail comes one after the other behind them: all orders come to the text's. Nothing of any program. Conditions: as said.
-/
import Derived.Test.YtldieebiicblbaaGreatDoorRows
import Derived.StillTail
import Derived.Deep.Quiet
namespace Go.Proofs.YtldieebiicblbaaGreatDoor.ht
set_option linter.unusedVariables false
set_option maxRecDepth 100000

/-- how many of the first n are not listed yet. -/
def unl (listed : Array Bool) : Nat → Nat
  | 0 => 0
  | n + 1 => unl listed n + if listed.getD n false = true then 0 else 1
theorem unl_ne {listed : Array Bool} {i : Nat} : ∀ n, n ≤ i → unl (listed.setIfInBounds i true) n = unl listed n
  | 0, _ => rfl
  | n + 1, h => by rw [unl, unl, unl_ne n (by omega), getD_set_ne false (by omega)]
theorem unl_set {listed : Array Bool} {i : Nat} (hs : i < listed.size) (hu : listed.getD i false = false) : ∀ n, i < n → unl (listed.setIfInBounds i true) n + 1 = unl listed n
  | 0, h => by omega
  | n + 1, h => by
    rw [unl, unl]
    by_cases e : i = n
    · subst e
      have h1 : (listed.setIfInBounds i true).getD i false = true := by simp [hs]
      rw [unl_ne i (Nat.le_refl _), h1, hu]
      simp
    · have ih := unl_set hs hu n (by omega)
      rw [getD_set_ne false e]
      omega
theorem unl_zero {listed : Array Bool} : ∀ n, unl listed n = 0 → ∀ j, j < n → listed.getD j false = true
  | 0, _, j, h => by omega
  | n + 1, h, j, hj => by
    rw [unl] at h
    by_cases e : j = n
    · subst e
      by_cases hl : listed.getD j false = true
      · exact hl
      · rw [if_neg hl] at h; omega
    · exact unl_zero n (by omega) j (by omega)
theorem unl_pos {listed : Array Bool} {n : Nat} (h : 0 < unl listed n) : ∃ i, i < n ∧ listed.getD i false = false ∧ ∀ j, j < i → listed.getD j false = true := by
  induction n with
  | zero => simp [unl] at h
  | succ n ih =>
    by_cases h0 : unl listed n = 0
    · have hall := unl_zero n h0
      refine ⟨n, by omega, ?_, hall⟩
      rw [unl, h0] at h
      by_cases hl : listed.getD n false = true
      · rw [if_pos hl] at h; omega
      · simpa using hl
    · obtain ⟨i, hi, h1, h2⟩ := ih (by omega)
      exact ⟨i, by omega, h1, h2⟩

/-- each of the head's operations, but the first ones, is waited for by a later one of the head, or by the tail's first. -/
def sinkB (md : Region.Mode) (ops : Array Oper) (n : Nat) (first : List Nat) : Bool :=
  (List.range n).all fun i => first.contains i || (List.range (n + 1)).any fun j => decide (i < j) && Region.waitsFor md ops j i
/-- operations wait for earlier ones alone, and have no guard. -/
def backB (ops : Array Oper) (n : Nat) : Bool :=
  (List.range n).all fun i => match ops[i]? with
    | some o => o.guard.isNone && o.after.all fun e => decide (e.on < i)
    | none => false
section
variable {P : Program} {md : Region.Mode} {ops : Array Oper} {n : Nat} {first : List Nat}
theorem back_spec (h : backB ops n = true) {i : Nat} (hi : i < n) : ∃ o, ops[i]? = some o ∧ o.guard = none ∧ ∀ e ∈ o.after, e.on < i := by
  have := List.all_eq_true.1 h i (List.mem_range.2 hi)
  split at this
  · rename_i o ho
    simp only [Bool.and_eq_true, Option.isNone_iff_eq_none, Array.all_eq_true', decide_eq_true_eq] at this
    exact ⟨o, ho, this.1, fun e he => this.2 e he⟩
  · cases this
theorem tail_not {listed : Array Bool} (hs : sinkB md ops n first = true) (hc : Region.chainB md ops n = true) (inv : HeadInv md ops n listed) (hf : ∀ i ∈ first, listed.getD i false = true) :
    ∀ (d i : Nat), n - i = d → i < n → listed.getD i false = false → ∀ t, n ≤ t → t ∉ Region.ready md ops listed := by
  intro d
  induction d using Nat.strongRecOn with
  | _ d ih =>
    intro i hd hi hun t ht hr
    obtain ⟨_, ot, hot, hall⟩ := mem_ready.1 hr
    have htl : t < ops.size := (Array.getElem?_eq_some_iff.1 hot).1
    rcases Nat.eq_or_lt_of_le ht with e | hgt
    · subst e
      have h1 := List.all_eq_true.1 hs i (List.mem_range.2 hi)
      rw [Bool.or_eq_true] at h1
      rcases h1 with h1 | h1
      · have := hf i (by simpa using h1)
        rw [hun] at this
        cases this
      · obtain ⟨j, hj, h2⟩ := List.any_eq_true.1 h1
        rw [Bool.and_eq_true, decide_eq_true_eq] at h2
        obtain ⟨oj, hoj, e, he, hb, hon⟩ := Region.waitsFor_spec h2.2
        have hjn : j < n + 1 := List.mem_range.1 hj
        rcases Nat.lt_or_ge j n with hlt | hge
        · cases hl : listed.getD j false with
          | true =>
            have := inv.closed j oj hoj hl e he hb
            rw [hon, hun] at this
            cases this
          | false => exact ih (n - j) (by omega) j rfl hlt hl n (Nat.le_refl _) hr
        · obtain rfl : j = n := by omega
          obtain rfl := Option.some.inj (hoj.symm.trans hot)
          have := hall e he hb
          rw [hon, hun] at this
          cases this
    · have h1 := List.all_eq_true.1 hc t (List.mem_range.2 htl)
      rw [Bool.or_eq_true, decide_eq_true_eq] at h1
      rcases h1 with h1 | h1
      · omega
      · obtain ⟨o', ho', e, he, hb, hon⟩ := Region.waitsFor_spec h1
        obtain rfl := Option.some.inj (ho'.symm.trans hot)
        have h2 := hall e he hb
        rw [hon, getD_both (inv.tail (t - 1) (by omega) (by omega))] at h2
        cases h2
end
/-- the head listed, the tail not. -/
def full (n m : Nat) : Array Bool := ((List.range m).map fun i => decide (i < n)).toArray
theorem full_of {listed : Array Bool} {n m : Nat} (hs : listed.size = m) (h1 : ∀ j, j < n → listed.getD j false = true) (h2 : ∀ t, n ≤ t → t < m → listed.getD t true = false) : listed = full n m := by
  apply Array.ext
  · simp [full, hs]
  · intro i hi hi'
    have e : (full n m)[i] = decide (i < n) := by simp [full]
    rw [e]
    by_cases h : i < n
    · have := h1 i h
      simp [hi] at this
      simp [this, h]
    · have := h2 i (by omega) (by omega)
      simp [hi] at this
      simp [this, h]
theorem take_get (l : List Oper) (n i : Nat) (hi : i < n) : (l.take n).toArray[i]? = l.toArray[i]? := by
  rw [List.getElem?_toArray, List.getElem?_toArray, List.getElem?_take_of_lt hi]
/-- all orders of the head, then the tail. -/
theorem head_tail {P : Program} {l : List Oper} {C : World → Prop} {Q : Act → Prop} {Q' : Exit → Act → World → Prop} {n : Nat} {first : List Nat} (hn : n < l.length) (hs : sinkB .any l.toArray n first = true) (hc : Region.chainB .any l.toArray n = true) (hb : backB l.toArray n = true)
    (hfull : Region.seqB .any l.toArray (l.drop n).length n (full n l.length) = true) (hQ : ∀ a w, C w → Q a → wpList P l.toArray Q' (l.drop n) a w) :
    ∀ (f : Nat) (listed : Array Bool) (a : Act) (w : World), C w → HeadInv .any l.toArray n listed → (∀ i ∈ first, listed.getD i false = true) → unl listed n = f → wpAnyQ P .any (l.take n).toArray C Q f listed a → wpAny P .any l.toArray Q' (f + (l.drop n).length) listed a w
  | 0, listed, a, w, hw, inv, hf, hu, h => by
    rw [Nat.zero_add]
    have e : listed = full n l.length := full_of (by simpa using inv.size) (unl_zero n hu) (fun t h1 h2 => inv.tail t h1 (by simpa using h2))
    subst e
    exact wpAny_of_seq (l.drop n) n _ a w (fun j => by rw [List.getElem?_drop, List.getElem?_toArray]) hfull (hQ a w hw h.2)
  | f + 1, listed, a, w, hw, inv, hf, hu, h => by
    rw [show f + 1 + (l.drop n).length = (f + (l.drop n).length) + 1 by omega]
    obtain ⟨i0, hi0, hun0, hlow⟩ := unl_pos (listed := listed) (n := n) (by omega)
    have hsz : listed.size = l.length := by simpa using inv.size
    have hr0 : i0 ∈ Region.ready .any l.toArray listed := by
      obtain ⟨o, ho, _, hbk⟩ := back_spec hb hi0
      exact mem_ready.2 ⟨getD_in (by omega) hun0, o, ho, fun e he _ => hlow _ (hbk e he)⟩
    refine ⟨fun h0 => (by rw [h0] at hr0; cases hr0), fun i hi => ?_⟩
    have hin : i < n := by
      rcases Nat.lt_or_ge i n with k | k
      · exact k
      · exact absurd hi (tail_not hs hc inv hf _ i0 rfl hi0 hun0 i k)
    obtain ⟨hui, o, ho, hall⟩ := mem_ready.1 hi
    obtain ⟨o', ho', hgd, _⟩ := back_spec hb hin
    obtain rfl := Option.some.inj (ho.symm.trans ho')
    have hiH : i ∈ Region.ready .any (l.take n).toArray listed := mem_ready.2 ⟨hui, o, by rw [take_get l n i hin]; exact ho, hall⟩
    have hq := h.2 i hiH
    unfold qOp at hq
    rw [take_get l n i hin, ho] at hq
    simp only [] at hq
    rw [if_pos (by unfold Region.wanted; rw [hgd])] at hq
    unfold wpOp
    rw [ho]
    simp only []
    rw [if_pos (by unfold Region.wanted; rw [hgd])]
    refine Or.inl (Oper.wp_of_quiet hw (fun a' w' hw' hk => ?_) hq)
    refine head_tail hn hs hc hb hfull hQ f (listed.setIfInBounds i true) a' w' hw' (inv.set hi hin) (fun j hj => getD_set_true (hf j hj)) ?_ hk
    have := unl_set (n := n) (listed := listed) (i := i) (by omega) (getD_both hui) hin
    omega
theorem inv_start (l : List Oper) (n : Nat) : HeadInv .any l.toArray n (Array.replicate l.toArray.size false) :=
  ⟨by simp, fun j oj _ hl => (by rw [getD_replicate_false] at hl; cases hl), fun t _ ht => getD_in (by simpa using ht) (getD_replicate_false _ _)⟩
/-- the head's first operation is listed; the others of the head, in the text's order, in a class of worlds; then the tail. -/
theorem quiet_tail {P : Program} {l : List Oper} {C : World → Prop} {Q' : Exit → Act → World → Prop} {a : Act} {w : World} {g : Nat} (n : Nat) (hn : n < l.length) (hg : n - 1 + (l.drop n).length = g) (hsel : Region.noSelect (l.take n).toArray = true) (h0 : (Region.ready .any l.toArray (Array.replicate l.toArray.size false)).contains 0 = true) (hp : 0 < n)
    (hs : sinkB .any l.toArray n [0] = true) (hc : Region.chainB .any l.toArray n = true) (hb : backB l.toArray n = true) (hfull : Region.seqB .any l.toArray (l.drop n).length n (full n l.length) = true)
    (hlex : Region.lexFrom .any (l.take n).toArray (n - 1) 1 ((Array.replicate l.toArray.size false).setIfInBounds 0 true) = true) (hu : unl ((Array.replicate l.toArray.size false).setIfInBounds 0 true) n = n - 1) (hw : C w)
    (h : wpQuiet P (l.take n).toArray C (fun a' => ∀ w', C w' → wpList P l.toArray Q' (l.drop n) a' w') ((l.take n).drop 1) a) :
    wpAny P .any l.toArray Q' g ((Array.replicate l.toArray.size false).setIfInBounds 0 true) a w := by
  subst hg
  have hl : ((l.take n).drop 1).length = n - 1 := by rw [List.length_drop, List.length_take]; omega
  have hq := wpAnyQ_lex (P := P) (C := C) (md := .any) hsel ((l.take n).drop 1) 1 ((Array.replicate l.toArray.size false).setIfInBounds 0 true) a (fun j => by rw [List.getElem?_drop, List.getElem?_toArray]) (by rw [hl]; exact hlex) h
  rw [hl] at hq
  refine head_tail hn hs hc hb hfull (fun a' w' hw' hh => hh w' hw') (n - 1) _ a w hw ((inv_start l n).set (by simpa using h0) hp) (fun i hi => ?_) hu hq
  obtain rfl : i = 0 := by simpa using hi
  have : 0 < l.length := by omega
  simp [this]
/-- the same with nothing listed: the whole head in the text's order, in a class of worlds; then the tail. -/
theorem quiet_region {P : Program} {l : List Oper} {C : World → Prop} {id : Nat} {Q' : Exit → Act → World → Prop} {a : Act} {w : World} (n : Nat) (hm : P.follows .mixedOrders = true) (hn : n < l.length) (hsel : Region.noSelect (l.take n).toArray = true)
    (hs : sinkB .any l.toArray n [] = true) (hc : Region.chainB .any l.toArray n = true) (hb : backB l.toArray n = true) (hfull : Region.seqB .any l.toArray (l.drop n).length n (full n l.length) = true)
    (hlex : Region.lexFrom .any (l.take n).toArray n 0 (Array.replicate l.toArray.size false) = true) (hu : unl (Array.replicate l.toArray.size false) n = n) (hw : C w.drew)
    (h : wpQuiet P (l.take n).toArray C (fun a' => ∀ w', C w' → wpList P l.toArray Q' (l.drop n) a' w') (l.take n) a) :
    (Code.region id l.toArray true).wp P Q' a w := by
  refine wp_region_any hm ?_
  have hl : (l.take n).length = n := by rw [List.length_take]; omega
  have hq := wpAnyQ_lex (P := P) (C := C) (md := .any) hsel (l.take n) 0 (Array.replicate l.toArray.size false) a (fun j => by rw [Nat.zero_add, List.getElem?_toArray]) (by rw [hl]; exact hlex) h
  rw [hl] at hq
  have := head_tail hn hs hc hb hfull (fun a' w' hw' hh => hh w' hw') n _ a w.drew hw (inv_start l n) (fun i hi => by cases hi) hu hq
  rw [show n + (l.drop n).length = l.toArray.size by simp; omega] at this
  exact this
end Go.Proofs.YtldieebiicblbaaGreatDoor.ht
