/-
  Faults, as plain mathematics: their texts, and that unlike ones have unlike texts; which of a row of faults is the first. Nothing of any program.
-/
import Derived.Test.YtbofjkneflobeaaDoorRows
import Derived.Lib.ItoaNum
namespace Go.Proofs.YtbofjkneflobeaaDoor.fx
open Go
set_option linter.unusedVariables false

/-! numbers as texts -/
def dec (n : Int) : ByteArray := ⟨(Lib.itoa n).toArray⟩
theorem nd_le : ∀ (k u : Nat), u < 10 ^ (k + 1) → Lib.nDigits u ≤ k + 1
  | 0, u, h => by rw [Lib.nDigits_small (by omega)]; omega
  | k + 1, u, h => by
    by_cases hu : u < 10
    · rw [Lib.nDigits_small hu]; omega
    · rw [Lib.nDigits_big hu]
      have := nd_le k (u / 10) (by rw [Nat.pow_succ] at h; omega)
      omega
theorem dec_size (n : Int) (h0 : -9223372036854775808 ≤ n) (h1 : n ≤ 9223372036854775807) : (dec n).size ≤ 20 := by
  show (Lib.itoa n).length ≤ 20
  unfold Lib.itoa
  split
  · rw [List.length_cons, Lib.decDigits_length]
    have := nd_le 18 n.natAbs (by omega)
    omega
  · rw [Lib.decDigits_length]
    have := nd_le 18 n.toNat (by omega)
    omega
theorem dec_small (n : Nat) (h : n < 10) : dec n = ⟨#[UInt8.ofNat (48 + n)]⟩ := by
  unfold dec Lib.itoa
  rw [if_neg (by omega), show ((n : Int)).toNat = n by omega, Lib.decDigits_one h]
theorem dd_big {u : Nat} (h : ¬ u < 10) : Lib.decDigits u = Lib.decDigits (u / 10) ++ [UInt8.ofNat (48 + u % 10)] := by
  rw [Lib.decDigits, dif_neg h]
theorem app_mk (a b : List UInt8) : (⟨a.toArray⟩ : ByteArray) ++ ⟨b.toArray⟩ = ⟨(a ++ b).toArray⟩ := by
  apply ByteArray.ext
  simp
theorem dec_big (n : Nat) (h : ¬ n < 10) : dec n = dec ((n / 10 : Nat) : Int) ++ ⟨#[UInt8.ofNat (48 + n % 10)]⟩ := by
  unfold dec Lib.itoa
  rw [if_neg (by omega), if_neg (by omega), show ((n : Int)).toNat = n by omega, show (((n / 10 : Nat) : Int)).toNat = n / 10 by omega, dd_big h]
  exact (app_mk _ [_]).symm
/-- below nought, one digit. -/
theorem dec_neg1 (n : Nat) (h0 : 0 < n) (h : n < 10) : dec (-(n : Int)) = ⟨#[45]⟩ ++ dec n := by
  unfold dec Lib.itoa
  rw [if_pos (by omega), if_neg (by omega), show (-(n : Int)).natAbs = n by omega, show ((n : Int)).toNat = n by omega]
  exact (app_mk [45] _).symm
theorem dec_neg (n : Nat) (h : ¬ n < 10) : dec (-(n : Int)) = dec (-((n / 10 : Nat) : Int)) ++ dec ((n % 10 : Nat) : Int) := by
  rw [dec_small (n % 10) (by omega)]
  unfold dec Lib.itoa
  rw [if_pos (by omega), if_pos (by omega), show (-(n : Int)).natAbs = n by omega, show (-((n / 10 : Nat) : Int)).natAbs = n / 10 by omega, dd_big h]
  exact (app_mk (45 :: Lib.decDigits (n / 10)) [_]).symm

/-! no byte of a numeral is a colon, and unlike numbers have unlike numerals -/
theorem dd_bytes : ∀ (u : Nat) (b : UInt8), b ∈ Lib.decDigits u → 48 ≤ b.toNat ∧ b.toNat ≤ 57 := by
  intro u
  induction u using Nat.strongRecOn with
  | _ u ih =>
    intro b hb
    by_cases h : u < 10
    · rw [Lib.decDigits_one h] at hb
      obtain rfl := List.mem_singleton.1 hb
      rw [UInt8.toNat_ofNat']
      omega
    · rw [dd_big h] at hb
      rcases List.mem_append.1 hb with hb | hb
      · exact ih (u / 10) (by omega) b hb
      · obtain rfl := List.mem_singleton.1 hb
        rw [UInt8.toNat_ofNat']
        omega
theorem dd_pos (u : Nat) : 0 < (Lib.decDigits u).length := by
  rw [Lib.decDigits_length]; exact Lib.nDigits_pos u
theorem of_inj {a b : Nat} (ha : a < 10) (hb : b < 10) (h : UInt8.ofNat (48 + a) = UInt8.ofNat (48 + b)) : a = b := by
  have := congrArg UInt8.toNat h
  rw [UInt8.toNat_ofNat', UInt8.toNat_ofNat'] at this
  omega
theorem dd_inj : ∀ (u v : Nat), Lib.decDigits u = Lib.decDigits v → u = v := by
  intro u
  induction u using Nat.strongRecOn with
  | _ u ih =>
    intro v h
    by_cases hu : u < 10
    · by_cases hv : v < 10
      · rw [Lib.decDigits_one hu, Lib.decDigits_one hv] at h
        exact of_inj hu hv (List.cons.inj h).1
      · have h1 := congrArg List.length h
        rw [Lib.decDigits_one hu, dd_big hv, List.length_append] at h1
        have := dd_pos (v / 10)
        simp only [List.length_cons, List.length_nil] at h1
        omega
    · by_cases hv : v < 10
      · have h1 := congrArg List.length h
        rw [Lib.decDigits_one hv, dd_big hu, List.length_append] at h1
        have := dd_pos (u / 10)
        simp only [List.length_cons, List.length_nil] at h1
        omega
      · rw [dd_big hu, dd_big hv] at h
        obtain ⟨h1, h2⟩ := List.append_inj' h rfl
        have e1 := ih (u / 10) (by omega) (v / 10) h1
        have e2 := of_inj (by omega) (by omega) (List.cons.inj h2).1
        omega
theorem itoa_bytes (n : Int) (b : UInt8) (hb : b ∈ Lib.itoa n) : b ≠ 58 := by
  unfold Lib.itoa at hb
  intro e
  subst e
  split at hb
  · rcases List.mem_cons.1 hb with h | h
    · exact absurd h (by decide)
    · have := dd_bytes _ _ h
      revert this
      decide
  · have := dd_bytes _ _ hb
    revert this
    decide
theorem itoa_inj (m n : Int) (h : Lib.itoa m = Lib.itoa n) : m = n := by
  unfold Lib.itoa at h
  split at h
  · split at h
    · have := dd_inj _ _ (List.cons.inj h).2
      omega
    · exfalso
      have hm : (45 : UInt8) ∈ Lib.decDigits n.toNat := by rw [← h]; exact List.mem_cons_self ..
      have := dd_bytes _ _ hm
      revert this
      decide
  · split at h
    · exfalso
      have hm : (45 : UInt8) ∈ Lib.decDigits m.toNat := by rw [h]; exact List.mem_cons_self ..
      have := dd_bytes _ _ hm
      revert this
      decide
    · have := dd_inj _ _ h
      omega

/-! words, and texts -/
def wds : List ByteArray := [⟨#[97, 114, 103, 117, 109, 101, 110, 116]⟩, ⟨#[102, 111, 114, 109]⟩, ⟨#[104, 97, 115, 104]⟩, ⟨#[111, 114, 100, 101, 114]⟩, ⟨#[101, 110, 100]⟩, ⟨#[115, 116, 101, 112]⟩, ⟨#[103, 97, 112]⟩, ⟨#[111, 118, 101, 114]⟩, ⟨#[114, 97, 110, 103, 101]⟩, ⟨#[101, 120, 112, 105, 114, 101, 100]⟩, ⟨#[110, 111, 32, 115, 117, 99, 104, 32, 115, 101, 99, 111, 110, 100]⟩]
def wrd (c : Int) : ByteArray := if 1 ≤ c ∧ c ≤ 11 then wds.getD (c.toNat - 1) ByteArray.empty else ⟨#[101, 114, 114, 111, 114]⟩
def txt (l c : Int) : ByteArray := (⟨#[108, 105, 110, 101, 32]⟩ ++ dec l) ++ ⟨#[58, 32]⟩ ++ wrd c
theorem eleven {c : Int} (h1 : 1 ≤ c) (h2 : c ≤ 11) : c = 1 ∨ c = 2 ∨ c = 3 ∨ c = 4 ∨ c = 5 ∨ c = 6 ∨ c = 7 ∨ c = 8 ∨ c = 9 ∨ c = 10 ∨ c = 11 := by omega
theorem wrd_in {c : Int} (h1 : 1 ≤ c) (h2 : c ≤ 11) : wrd c = wds.getD (c.toNat - 1) ByteArray.empty := by rw [wrd, if_pos ⟨h1, h2⟩]
theorem wrd_out {c : Int} (h : c < 1 ∨ 11 < c) : wrd c = ⟨#[101, 114, 114, 111, 114]⟩ := by rw [wrd, if_neg (by omega)]
theorem wds_size : ∀ i : Fin 11, (wds.getD i.val ByteArray.empty).size ≤ 14 := by decide
theorem wrd_size (c : Int) : (wrd c).size ≤ 14 := by
  by_cases h : 1 ≤ c ∧ c ≤ 11
  · rw [wrd_in h.1 h.2]
    exact wds_size ⟨c.toNat - 1, by omega⟩
  · rw [wrd_out (by omega)]
    decide
theorem wds_inj : ∀ i j : Fin 11, (wds.getD i.val ByteArray.empty).data.toList = (wds.getD j.val ByteArray.empty).data.toList → i = j := by decide
theorem wrd_inj {c d : Int} (h1 : 1 ≤ c) (h2 : c ≤ 11) (h3 : 1 ≤ d) (h4 : d ≤ 11) (h : wrd c = wrd d) : c = d := by
  rw [wrd_in h1 h2, wrd_in h3 h4] at h
  have := wds_inj ⟨c.toNat - 1, by omega⟩ ⟨d.toNat - 1, by omega⟩ (by rw [h])
  have := congrArg Fin.val this
  simp at this
  omega
theorem split_at {a b c d : List UInt8} {x : UInt8} (ha : ∀ y ∈ a, y ≠ x) (hb : ∀ y ∈ b, y ≠ x) (h : a ++ x :: c = b ++ x :: d) : a = b ∧ c = d := by
  induction a generalizing b with
  | nil =>
    cases b with
    | nil => exact ⟨rfl, (List.cons.inj h).2⟩
    | cons y b => exact absurd (List.cons.inj h).1.symm (hb y (List.mem_cons_self ..))
  | cons z a ih =>
    cases b with
    | nil => exact absurd (List.cons.inj h).1 (ha z (List.mem_cons_self ..))
    | cons y b =>
      obtain ⟨e, h'⟩ := List.cons.inj h
      obtain ⟨h1, h2⟩ := ih (fun y hy => ha y (List.mem_cons_of_mem _ hy)) (fun y hy => hb y (List.mem_cons_of_mem _ hy)) h'
      exact ⟨by rw [e, h1], h2⟩
theorem txt_list (l c : Int) : (txt l c).data.toList = [108, 105, 110, 101, 32] ++ (Lib.itoa l ++ 58 :: (32 :: (wrd c).data.toList)) := by
  unfold txt dec
  simp
theorem txt_inj {l m c d : Int} (h1 : 1 ≤ c) (h2 : c ≤ 11) (h3 : 1 ≤ d) (h4 : d ≤ 11) (h : txt l c = txt m d) : l = m ∧ c = d := by
  have e : (txt l c).data.toList = (txt m d).data.toList := by rw [h]
  rw [txt_list, txt_list] at e
  obtain ⟨e1, e2⟩ := split_at (fun y hy => itoa_bytes l y hy) (fun y hy => itoa_bytes m y hy) (List.append_cancel_left e)
  refine ⟨itoa_inj _ _ e1, wrd_inj h1 h2 h3 h4 ?_⟩
  apply ByteArray.ext
  exact Array.toList_inj.1 (List.cons.inj e2).2
theorem txt_beq {l m c d : Int} (h1 : 1 ≤ c) (h2 : c ≤ 11) (h3 : 1 ≤ d) (h4 : d ≤ 11) : (txt l c = txt m d) ↔ (l = m ∧ c = d) :=
  ⟨txt_inj h1 h2 h3 h4, fun ⟨a, b⟩ => by rw [a, b]⟩

theorem beq_s (s t : ByteArray) : (s.toList == t.toList) = decide (s = t) := by
  rw [Bool.eq_iff_iff, beq_iff_eq, decide_eq_true_iff, ByteArray.toList_eq, ByteArray.toList_eq]
  exact ⟨fun h => ByteArray.ext (Array.toList_inj.1 h), fun h => by rw [h]⟩

/-! which one is first -/
abbrev Flt := Int × Int
def pick (o f : Flt) : Flt := if f.2 ≠ 0 ∧ (o.2 = 0 ∨ f.1 < o.1) then f else o
def upto (l : List Flt) (k : Nat) : Flt := (l.take k).foldl pick (0, 0)
def first (l : List Flt) : Flt := l.foldl pick (0, 0)
theorem upto_all (l : List Flt) : upto l l.length = first l := by rw [upto, List.take_length, first]
theorem upto_zero (l : List Flt) : upto l 0 = (0, 0) := rfl
theorem upto_succ (l : List Flt) (k : Nat) (h : k < l.length) : upto l (k + 1) = pick (upto l k) l[k] := by
  rw [upto, List.take_succ_eq_append_getElem h, List.foldl_append]
  rfl
theorem pick_ok {o f : Flt} (h : f.2 = 0) : pick o f = o := by rw [pick, if_neg (fun k => k.1 h)]
theorem pick_yes {o f : Flt} (h : f.2 ≠ 0) (h2 : o.2 = 0 ∨ f.1 < o.1) : pick o f = f := by rw [pick, if_pos ⟨h, h2⟩]
theorem pick_no {o f : Flt} (h : o.2 ≠ 0) (h2 : ¬ f.1 < o.1) : pick o f = o := by rw [pick, if_neg (fun k => k.2.elim h h2)]
theorem fold_le : ∀ (l : List Flt) (o : Flt), (o.2 ≠ 0 → (l.foldl pick o).2 ≠ 0 ∧ (l.foldl pick o).1 ≤ o.1) ∧ ∀ x ∈ l, x.2 ≠ 0 → (l.foldl pick o).2 ≠ 0 ∧ (l.foldl pick o).1 ≤ x.1
  | [], o => ⟨fun h => ⟨h, Int.le_refl _⟩, fun x hx => by cases hx⟩
  | f :: l, o => by
    obtain ⟨h1, h2⟩ := fold_le l (pick o f)
    rw [List.foldl_cons]
    by_cases hf : f.2 ≠ 0 ∧ (o.2 = 0 ∨ f.1 < o.1)
    · rw [pick_yes hf.1 hf.2] at h1 h2 ⊢
      have k := h1 hf.1
      refine ⟨fun ho => ⟨k.1, by have := hf.2; omega⟩, fun x hx hx0 => ?_⟩
      rcases List.mem_cons.1 hx with rfl | hx
      · exact k
      · exact h2 x hx hx0
    · have e : pick o f = o := by rw [pick, if_neg hf]
      rw [e] at h1 h2 ⊢
      refine ⟨h1, fun x hx hx0 => ?_⟩
      rcases List.mem_cons.1 hx with rfl | hx
      · have ho : o.2 ≠ 0 := fun h => hf ⟨hx0, Or.inl h⟩
        have hl : ¬ x.1 < o.1 := fun h => hf ⟨hx0, Or.inr h⟩
        have k := h1 ho
        exact ⟨k.1, by omega⟩
      · exact h2 x hx hx0
theorem fold_mem : ∀ (l : List Flt) (o : Flt), (l.foldl pick o = o ∧ (o.2 = 0 → ∀ x ∈ l, x.2 = 0)) ∨ (l.foldl pick o ∈ l ∧ (l.foldl pick o).2 ≠ 0)
  | [], o => Or.inl ⟨rfl, fun _ x hx => by cases hx⟩
  | f :: l, o => by
    rw [List.foldl_cons]
    by_cases hf : f.2 ≠ 0 ∧ (o.2 = 0 ∨ f.1 < o.1)
    · rw [pick_yes hf.1 hf.2]
      rcases fold_mem l f with h | h
      · rw [h.1]
        exact Or.inr ⟨List.mem_cons_self .., hf.1⟩
      · exact Or.inr ⟨List.mem_cons_of_mem _ h.1, h.2⟩
    · have e : pick o f = o := by rw [pick, if_neg hf]
      rw [e]
      rcases fold_mem l o with h | h
      · refine Or.inl ⟨h.1, fun ho x hx => ?_⟩
        rcases List.mem_cons.1 hx with rfl | hx
        · exact Classical.byContradiction fun k => hf ⟨k, Or.inl ho⟩
        · exact h.2 ho x hx
      · exact Or.inr ⟨List.mem_cons_of_mem _ h.1, h.2⟩
theorem fold_some : ∀ (l : List Flt) (o : Flt), (l.filter fun f => f.2 != 0).foldl pick o = l.foldl pick o
  | [], _ => rfl
  | f :: l, o => by
    by_cases h : f.2 = 0
    · rw [List.filter_cons_of_neg (by simp [h]), List.foldl_cons, pick_ok h]
      exact fold_some l o
    · rw [List.filter_cons_of_pos (by simp [h]), List.foldl_cons, List.foldl_cons]
      exact fold_some l _
/-- those that are not OK, up to a place. -/
def some' (l : List Flt) (k : Nat) : List Flt := (l.take k).filter fun f => f.2 != 0
theorem some_zero (l : List Flt) : some' l 0 = [] := rfl
theorem some_ok (l : List Flt) (k : Nat) (h : k < l.length) (h0 : l[k].2 = 0) : some' l (k + 1) = some' l k := by
  rw [some', List.take_succ_eq_append_getElem h, List.filter_append, List.filter_cons_of_neg (by simp [h0])]
  simp [some']
theorem some_more (l : List Flt) (k : Nat) (h : k < l.length) (h0 : l[k].2 ≠ 0) : some' l (k + 1) = some' l k ++ [l[k]] := by
  rw [some', List.take_succ_eq_append_getElem h, List.filter_append, List.filter_cons_of_pos (by simp [h0])]
  simp [some']
theorem some_len (l : List Flt) (k : Nat) : (some' l k).length ≤ k := by
  have h1 := List.length_filter_le (fun f : Flt => f.2 != 0) (l.take k)
  have h2 := List.length_take_le k l
  unfold some'
  omega
theorem first_some (l : List Flt) : first (some' l l.length) = first l := by
  unfold some' first
  rw [List.take_length, fold_some]
/-- is the first one among those up to a place? -/
def had (l : List Flt) (k : Nat) : Bool := (l.take k).any fun f => decide (f = first l)
theorem had_succ (l : List Flt) (k : Nat) (h : k < l.length) : had l (k + 1) = (had l k || decide (l[k] = first l)) := by
  rw [had, List.take_succ_eq_append_getElem h, List.any_append]
  simp [had]
theorem first_le (l : List Flt) (k : Nat) (h : k < l.length) (h0 : l[k].2 ≠ 0) : (first l).2 ≠ 0 ∧ ¬ l[k].1 < (first l).1 := by
  have := (fold_le l (0, 0)).2 l[k] (List.getElem_mem h) h0
  exact ⟨this.1, by have := this.2; unfold first; omega⟩
theorem first_end (l : List Flt) : (some' l l.length = [] ∧ first l = (0, 0)) ∨ (some' l l.length ≠ [] ∧ had l l.length = true ∧ (first l).2 ≠ 0) := by
  rcases fold_mem l (0, 0) with h | h
  · refine Or.inl ⟨?_, h.1⟩
    unfold some'
    rw [List.take_length, List.filter_eq_nil_iff]
    intro x hx
    simp [h.2 rfl x hx]
  · refine Or.inr ⟨fun e => ?_, ?_, h.2⟩
    · unfold some' at e
      rw [List.take_length, List.filter_eq_nil_iff] at e
      exact e _ h.1 (by simpa using h.2)
    · unfold had
      rw [List.take_length, List.any_eq_true]
      exact ⟨_, h.1, by simp [first]⟩
end Go.Proofs.YtbofjkneflobeaaDoor.fx
