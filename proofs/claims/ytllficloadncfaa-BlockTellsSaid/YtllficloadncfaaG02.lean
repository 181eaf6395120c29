/-
  Plain mathematics of texts, line by line: lines, words, numbers, what is cut, and folded, as functions of rows of bytes, and what follows from them. Nothing of any program. Conditions: as said.
-/
import Derived.Lib.CutLaws
import Derived.Lib.Strings
import Derived.Laws.RangeAny
import Derived.Laws.Concat
namespace Go.Proofs.Ytllficloadncfaa.lx
set_option linter.unusedVariables false
set_option maxRecDepth 100000

/-! rows of bytes and texts -/
def B (l : List UInt8) : ByteArray := ⟨l.toArray⟩
def L (s : ByteArray) : List UInt8 := s.data.toList
theorem L_B (l : List UInt8) : L (B l) = l := by simp [L, B]
theorem B_L (s : ByteArray) : B (L s) = s := by
  obtain ⟨⟨l⟩⟩ := s
  rfl
theorem L_len (s : ByteArray) : (L s).length = s.size := rfl
theorem B_size (l : List UInt8) : (B l).size = l.length := by rw [← L_len, L_B]
theorem L_inj {s t : ByteArray} (h : L s = L t) : s = t := by rw [← B_L s, ← B_L t, h]
theorem B_inj {l m : List UInt8} (h : B l = B m) : l = m := by rw [← L_B l, ← L_B m, h]
theorem L_app (s t : ByteArray) : L (s ++ t) = L s ++ L t := by
  unfold L
  simp
theorem B_app (l m : List UInt8) : B l ++ B m = B (l ++ m) := L_inj (by rw [L_app, L_B, L_B, L_B])
theorem L_ext (s : ByteArray) (a b : Nat) : L (s.extract a b) = ((L s).drop a).take (b - a) := by
  unfold L
  rw [Lib.extract_eq]
theorem ext_B (s : ByteArray) (a b : Nat) : s.extract a b = B (((L s).drop a).take (b - a)) := by rw [← L_ext, B_L]
theorem L_nil (s : ByteArray) : L s = [] ↔ s.size = 0 := by rw [← L_len, List.length_eq_zero_iff]
theorem B_nil : B [] = ByteArray.empty := rfl
theorem beq_s (X Y : ByteArray) : (X.toList == Y.toList) = decide (X = Y) := by
  rw [ByteArray.toList_eq, ByteArray.toList_eq, Bool.eq_iff_iff]
  simp only [beq_iff_eq, decide_eq_true_eq]
  exact ⟨fun e => L_inj e, fun e => by rw [e]⟩

/-! lines -/
def trim (l : List UInt8) : List UInt8 := Lib.trimSuffix l [13]
theorem trim_keep {l : List UInt8} (h : ∀ m, l ≠ m ++ [13]) : trim l = l := by
  unfold trim Lib.trimSuffix
  rw [if_neg]
  intro k
  unfold Lib.hasSuffix at k
  rw [List.isSuffixOf_iff_suffix] at k
  obtain ⟨m, hm⟩ := k
  exact h m hm.symm
theorem trim_off (l : List UInt8) : trim (l ++ [13]) = l := by
  unfold trim Lib.trimSuffix
  rw [if_pos (by unfold Lib.hasSuffix; rw [List.isSuffixOf_iff_suffix]; exact ⟨l, rfl⟩)]
  simp
def spl : List UInt8 → List UInt8 → List (List UInt8)
  | cur, [] => if cur = [] then [] else [trim cur]
  | cur, c :: r => if c = 10 then trim cur :: spl [] r else spl (cur ++ [c]) r
theorem spl_end0 : spl [] [] = [] := rfl
theorem spl_end {cur : List UInt8} (h : cur ≠ []) : spl cur [] = [trim cur] := by show (if cur = [] then _ else _) = _; rw [if_neg h]
theorem spl_lf (cur r : List UInt8) : spl cur (10 :: r) = trim cur :: spl [] r := rfl
theorem spl_no {c : UInt8} (h : c ≠ 10) (cur r : List UInt8) : spl cur (c :: r) = spl (cur ++ [c]) r := by show (if c = 10 then _ else _) = _; rw [if_neg h]
theorem spl_plain : ∀ (l : List UInt8), (∀ c ∈ l, c ≠ 10) → ∀ cur r, spl cur (l ++ r) = spl (cur ++ l) r
  | [], _, cur, r => by simp
  | c :: l, h, cur, r => by
    rw [List.cons_append, spl_no (h c (by simp)), spl_plain l (fun x hx => h x (by simp [hx]))]
    simp
theorem spl_hit {l : List UInt8} (h : ∀ c ∈ l, c ≠ 10) (r : List UInt8) : spl [] (l ++ 10 :: r) = trim l :: spl [] r := by
  rw [spl_plain l h, spl_lf]
  rfl
theorem spl_miss {l : List UInt8} (h : ∀ c ∈ l, c ≠ 10) (hl : l ≠ []) : spl [] l = [trim l] := by
  have := spl_plain l h [] []
  rw [List.append_nil, List.nil_append, spl_end hl] at this
  exact this
theorem spl_join (t : List UInt8) : ∀ (s cur : List UInt8), spl cur (s ++ 10 :: t) = spl cur (s ++ [10]) ++ spl [] t
  | [], cur => by simp [spl_lf, spl_end0]
  | c :: s, cur => by
    rw [List.cons_append, List.cons_append]
    by_cases h : c = 10
    · subst h
      rw [spl_lf, spl_lf, spl_join t s, List.cons_append]
    · rw [spl_no h, spl_no h, spl_join t s]
theorem spl_some : ∀ (s cur : List UInt8), 1 ≤ (spl cur (s ++ [10])).length
  | [], cur => by simp [spl_lf]
  | c :: s, cur => by
    rw [List.cons_append]
    by_cases h : c = 10
    · subst h
      rw [spl_lf]
      simp
    · rw [spl_no h]
      exact spl_some s _
theorem spl_len : ∀ (l cur : List UInt8), (spl cur l).length ≤ cur.length + l.length
  | [], cur => by
    show (if cur = [] then [] else [trim cur]).length ≤ _
    split
    · simp
    · rename_i h
      have := List.length_pos_iff.2 h
      simp
      omega
  | c :: l, cur => by
    by_cases h : c = 10
    · subst h
      rw [spl_lf]
      have := spl_len l []
      simp only [List.length_cons, List.length_nil] at *
      omega
    · rw [spl_no h]
      have := spl_len l (cur ++ [c])
      simp only [List.length_cons, List.length_append, List.length_nil] at *
      omega
def splitS (s : ByteArray) : List ByteArray := (spl [] (L s)).map B
/-- lines with what ends them. -/
def flat (e : List UInt8) : List ByteArray → List UInt8
  | [] => []
  | x :: r => L x ++ e ++ flat e r
theorem flat_snoc (e : List UInt8) (x : ByteArray) : ∀ l : List ByteArray, flat e (l ++ [x]) = flat e l ++ (L x ++ e)
  | [] => by simp [flat]
  | y :: l => by simp [flat, flat_snoc e x l]
/-- a line as it may be: no line feed in it, no byte 13 at its end. -/
def Fine (x : ByteArray) : Prop := (∀ c ∈ L x, c ≠ 10) ∧ ∀ m, L x ≠ m ++ [13]
theorem back_lf : ∀ l : List ByteArray, (∀ x ∈ l, Fine x) → spl [] (flat [10] l) = l.map L
  | [], _ => rfl
  | x :: l, h => by
    have hx := h x (by simp)
    show spl [] (L x ++ [10] ++ flat [10] l) = _
    rw [List.append_assoc, List.singleton_append, spl_hit hx.1, trim_keep hx.2, back_lf l (fun y hy => h y (by simp [hy]))]
    rfl
theorem back_crlf : ∀ l : List ByteArray, (∀ x ∈ l, Fine x) → spl [] (flat [13, 10] l) = l.map L
  | [], _ => rfl
  | x :: l, h => by
    have hx := h x (by simp)
    show spl [] (L x ++ [13, 10] ++ flat [13, 10] l) = _
    have e : L x ++ [13, 10] ++ flat [13, 10] l = (L x ++ [13]) ++ 10 :: flat [13, 10] l := by simp
    rw [e, spl_hit (by intro c hc; simp at hc; rcases hc with hc | rfl; exact hx.1 c hc; decide), trim_off, back_crlf l (fun y hy => h y (by simp [hy]))]
    rfl
theorem map_BL (l : List ByteArray) : (l.map L).map B = l := by
  induction l with
  | nil => rfl
  | cons x l ih => simp only [List.map_cons, B_L, ih]

/-! words -/
def blk (c : UInt8) : Bool := decide (c = 32 ∨ c = 9)
def wds : List UInt8 → List UInt8 → List (List UInt8)
  | cur, [] => if cur = [] then [] else [cur]
  | cur, c :: r => if blk c = true then (if cur = [] then wds [] r else cur :: wds [] r) else wds (cur ++ [c]) r
theorem wds_end0 : wds [] [] = [] := rfl
theorem wds_end {cur : List UInt8} (h : cur ≠ []) : wds cur [] = [cur] := by show (if cur = [] then _ else _) = _; rw [if_neg h]
theorem wds_b0 {c : UInt8} (h : blk c = true) (r : List UInt8) : wds [] (c :: r) = wds [] r := by show (if blk c = true then (if ([] : List UInt8) = [] then _ else _) else _) = _; rw [if_pos h, if_pos rfl]
theorem wds_b {c : UInt8} (h : blk c = true) {cur : List UInt8} (hc : cur ≠ []) (r : List UInt8) : wds cur (c :: r) = cur :: wds [] r := by show (if blk c = true then (if cur = [] then _ else _) else _) = _; rw [if_pos h, if_neg hc]
theorem wds_no {c : UInt8} (h : blk c = false) (cur r : List UInt8) : wds cur (c :: r) = wds (cur ++ [c]) r := by show (if blk c = true then _ else _) = _; rw [if_neg (by rw [h]; decide)]
theorem wds_plain : ∀ (l : List UInt8), (∀ c ∈ l, blk c = false) → ∀ cur r, wds cur (l ++ r) = wds (cur ++ l) r
  | [], _, cur, r => by simp
  | c :: l, h, cur, r => by
    rw [List.cons_append, wds_no (h c (by simp)), wds_plain l (fun x hx => h x (by simp [hx]))]
    simp
theorem wds_len : ∀ (l cur : List UInt8), (wds cur l).length ≤ cur.length + l.length
  | [], cur => by
    show (if cur = [] then [] else [cur]).length ≤ _
    split
    · simp
    · rename_i h
      have := List.length_pos_iff.2 h
      simp
      omega
  | c :: l, cur => by
    by_cases h : blk c = true
    · have := wds_len l []
      by_cases hc : cur = []
      · subst hc
        rw [wds_b0 h]
        simp only [List.length_cons, List.length_nil] at *
        omega
      · rw [wds_b h hc]
        simp only [List.length_cons, List.length_nil] at *
        omega
    · rw [wds_no (by simpa using h)]
      have := wds_len l (cur ++ [c])
      simp only [List.length_cons, List.length_append, List.length_nil] at *
      omega
/-- a word: not empty, no blank in it. -/
def Word (x : List UInt8) : Prop := x ≠ [] ∧ ∀ c ∈ x, blk c = false
theorem wds_word : ∀ (l cur : List UInt8), (∀ c ∈ cur, blk c = false) → ∀ x ∈ wds cur l, Word x
  | [], cur, hc, x, hx => by
    by_cases h : cur = []
    · subst h
      simp [wds_end0] at hx
    · rw [wds_end h] at hx
      simp at hx
      subst hx
      exact ⟨h, hc⟩
  | c :: l, cur, hc, x, hx => by
    by_cases h : blk c = true
    · by_cases h0 : cur = []
      · subst h0
        rw [wds_b0 h] at hx
        exact wds_word l [] (by simp) x hx
      · rw [wds_b h h0] at hx
        simp at hx
        rcases hx with rfl | hx
        · exact ⟨h0, hc⟩
        · exact wds_word l [] (by simp) x hx
    · rw [wds_no (by simpa using h)] at hx
      refine wds_word l _ ?_ x hx
      intro d hd
      simp at hd
      rcases hd with hd | rfl
      · exact hc d hd
      · simpa using h
/-- how many blanks. -/
def bks : List UInt8 → Nat
  | [] => 0
  | c :: r => (if blk c = true then 1 else 0) + bks r
theorem bks_snoc (c : UInt8) : ∀ l : List UInt8, bks (l ++ [c]) = bks l + (if blk c = true then 1 else 0)
  | [] => by simp [bks]
  | d :: l => by
    simp only [List.cons_append, bks, bks_snoc c l]
    omega
theorem bks_le : ∀ l : List UInt8, bks l ≤ l.length
  | [] => Nat.le_refl _
  | c :: l => by
    have := bks_le l
    simp only [bks, List.length_cons]
    split <;> omega
/-- the lengths, summed. -/
def tot : List (List UInt8) → Nat
  | [] => 0
  | x :: r => x.length + tot r
theorem tot_snoc (x : List UInt8) : ∀ l : List (List UInt8), tot (l ++ [x]) = tot l + x.length
  | [] => by simp [tot]
  | y :: l => by
    simp only [List.cons_append, tot, tot_snoc x l]
    omega
theorem wds_tot : ∀ (l cur : List UInt8), tot (wds cur l) + bks l = cur.length + l.length
  | [], cur => by
    by_cases h : cur = []
    · subst h; rfl
    · rw [wds_end h]; simp [tot, bks]
  | c :: l, cur => by
    by_cases h : blk c = true
    · have := wds_tot l []
      by_cases h0 : cur = []
      · subst h0
        rw [wds_b0 h]
        simp only [bks, h, if_true, List.length_cons, List.length_nil] at *
        omega
      · rw [wds_b h h0]
        simp only [bks, tot, h, if_true, List.length_cons, List.length_nil] at *
        omega
    · have hf : blk c = false := by simpa using h
      rw [wds_no hf]
      have := wds_tot l (cur ++ [c])
      simp only [bks, hf, List.length_cons, List.length_append, List.length_nil] at *
      simp
      omega
/-- words with blanks between. -/
def wflat : List (List UInt8) → List UInt8
  | [] => []
  | x :: r => x ++ [32, 9] ++ wflat r
theorem wflat_snoc (x : List UInt8) : ∀ l : List (List UInt8), wflat (l ++ [x]) = wflat l ++ (x ++ [32, 9])
  | [] => by simp [wflat]
  | y :: l => by simp [wflat, wflat_snoc x l]
theorem wflat_len (l : List (List UInt8)) : (wflat l).length = tot l + 2 * l.length := by
  induction l with
  | nil => rfl
  | cons x l ih =>
    simp only [wflat, tot, List.length_append, List.length_cons, List.length_nil, ih]
    omega
theorem wback : ∀ l : List (List UInt8), (∀ x ∈ l, Word x) → wds [] (wflat l) = l
  | [], _ => rfl
  | x :: l, h => by
    have hx := h x (by simp)
    show wds [] (x ++ [32, 9] ++ wflat l) = _
    rw [List.append_assoc, wds_plain x hx.2, List.nil_append]
    show wds x (32 :: 9 :: wflat l) = _
    rw [wds_b (by decide) hx.1, wds_b0 (by decide), wback l (fun y hy => h y (by simp [hy]))]
theorem wback_tab (l : List (List UInt8)) (h : ∀ x ∈ l, Word x) : wds [] (9 :: wflat l) = l := by rw [wds_b0 (by decide), wback l h]
def wordsS (s : ByteArray) : List ByteArray := (wds [] (L s)).map B

/-! numbers -/
def dgB (c : UInt8) : Bool := decide (48 ≤ c.toNat ∧ c.toNat ≤ 57)
def nmb : Int → List UInt8 → Option Int
  | n, [] => some n
  | n, c :: r => if dgB c = true ∧ 10 * n + ((c.toNat : Int) - 48) ≤ 9223372036854775807 then nmb (10 * n + ((c.toNat : Int) - 48)) r else none
theorem nmb_nil (n : Int) : nmb n [] = some n := rfl
theorem nmb_yes {n : Int} {c : UInt8} (h : dgB c = true) (h2 : 10 * n + ((c.toNat : Int) - 48) ≤ 9223372036854775807) (r : List UInt8) : nmb n (c :: r) = nmb (10 * n + ((c.toNat : Int) - 48)) r := by
  show (if _ then _ else _) = _
  rw [if_pos ⟨h, h2⟩]
theorem nmb_no {n : Int} {c : UInt8} (h : ¬ (dgB c = true ∧ 10 * n + ((c.toNat : Int) - 48) ≤ 9223372036854775807)) (r : List UInt8) : nmb n (c :: r) = none := by
  show (if _ then _ else _) = _
  rw [if_neg h]
def nm (l : List UInt8) : Option Int := if l = [] then none else nmb 0 l
def nmI (l : List UInt8) : Int := (nm l).getD 0
def nmT (l : List UInt8) : Bool := (nm l).isSome
theorem nmb_bad : ∀ (l : List UInt8) (n : Int), (∃ c ∈ l, dgB c = false) → nmb n l = none
  | [], n, h => by obtain ⟨c, hc, _⟩ := h; simp at hc
  | c :: l, n, h => by
    by_cases k : dgB c = true ∧ 10 * n + ((c.toNat : Int) - 48) ≤ 9223372036854775807
    · rw [nmb_yes k.1 k.2]
      apply nmb_bad l
      obtain ⟨d, hd, hb⟩ := h
      simp at hd
      rcases hd with rfl | hd
      · rw [k.1] at hb; cases hb
      · exact ⟨d, hd, hb⟩
    · exact nmb_no k _
theorem nm_bad {l : List UInt8} (h : ∃ c ∈ l, dgB c = false) : nm l = none := by
  unfold nm
  split
  · rfl
  · exact nmb_bad l 0 h
def dgt (n : Nat) : UInt8 := UInt8.ofNat (48 + n % 10)
theorem dgt_nat (n : Nat) : (dgt n).toNat = 48 + n % 10 := by
  unfold dgt
  rw [UInt8.toNat_ofNat']
  omega
theorem dgt_dg (n : Nat) : dgB (dgt n) = true := by
  unfold dgB
  rw [dgt_nat]
  simp
  omega
def dec (n : Nat) : List UInt8 := if h : n = 0 then [] else dec (n / 10) ++ [dgt n]
termination_by n
decreasing_by omega
theorem dec_zero : dec 0 = [] := by rw [dec]; simp
theorem dec_pos {n : Nat} (h : n ≠ 0) : dec n = dec (n / 10) ++ [dgt n] := by rw [dec, dif_neg h]
theorem dec_ne {n : Nat} (h : n ≠ 0) : dec n ≠ [] := by rw [dec_pos h]; simp
theorem nmb_dec (n : Nat) : (n : Int) ≤ 9223372036854775807 → ∀ r, nmb 0 (dec n ++ r) = nmb n r := by
  induction n using Nat.strongRecOn with
  | ind n ih =>
    intro h r
    by_cases h0 : n = 0
    · subst h0
      rw [dec_zero]
      rfl
    · rw [dec_pos h0, List.append_assoc, ih (n / 10) (by omega) (by omega)]
      have e : 10 * ((n / 10 : Nat) : Int) + (((dgt n).toNat : Int) - 48) = n := by rw [dgt_nat]; omega
      rw [List.singleton_append, nmb_yes (dgt_dg n) (by rw [e]; exact h), e]
theorem nmb_zeros : ∀ (z : Nat) (r : List UInt8), nmb 0 (List.replicate z 48 ++ r) = nmb 0 r
  | 0, r => by simp
  | z + 1, r => by
    rw [List.replicate_succ, List.cons_append, nmb_yes (by decide) (by decide)]
    exact nmb_zeros z r
/-- a number's decimals. -/
def decs (n : Nat) : List UInt8 := if n = 0 then [48] else dec n
theorem decs_ne (n : Nat) : decs n ≠ [] := by
  unfold decs
  split
  · simp
  · rename_i h; exact dec_ne h
theorem nm_decs (n z : Nat) (h : (n : Int) ≤ 9223372036854775807) : nm (List.replicate z 48 ++ decs n) = some n := by
  unfold nm
  rw [if_neg (by simp [decs_ne]), nmb_zeros]
  unfold decs
  split
  · rename_i h0; subst h0; rw [nmb_yes (by decide) (by decide)]; rfl
  · have := nmb_dec n h []
    rw [List.append_nil] at this
    rw [this]
    rfl
theorem dec_len (n : Nat) : ∀ k : Nat, n < 10 ^ k → (dec n).length ≤ k := by
  induction n using Nat.strongRecOn with
  | ind n ih =>
    intro k hk
    by_cases h0 : n = 0
    · subst h0; rw [dec_zero]; simp
    · rw [dec_pos h0]
      cases k with
      | zero => simp at hk; omega
      | succ k =>
        have := ih (n / 10) (by omega) k (by rw [Nat.pow_succ] at hk; omega)
        simp
        omega
theorem decs_len (n : Nat) (h : (n : Int) ≤ 9223372036854775807) : (decs n).length ≤ 19 := by
  unfold decs
  split
  · simp
  · exact dec_len n 19 (by have : (10 : Nat) ^ 19 = 10000000000000000000 := by decide
                           omega)
theorem dec_dg (n : Nat) : ∀ c ∈ dec n, dgB c = true := by
  induction n using Nat.strongRecOn with
  | ind n ih =>
    intro c hc
    by_cases h0 : n = 0
    · subst h0; rw [dec_zero] at hc; simp at hc
    · rw [dec_pos h0] at hc
      simp at hc
      rcases hc with hc | rfl
      · exact ih (n / 10) (by omega) c hc
      · exact dgt_dg n

/-! what is cut -/
def Hit (s t : ByteArray) (i : Nat) : Prop := 0 < t.size ∧ i + t.size ≤ s.size ∧ Lib.occAt (L s) (L t) i = true ∧ ∀ j, j < i → Lib.occAt (L s) (L t) j = false
def Miss (s t : ByteArray) : Prop := t.size = 0 ∨ ∀ j, j ≤ s.size → Lib.occAt (L s) (L t) j = false
theorem hit_or (s t : ByteArray) : Miss s t ∨ ∃ i, Hit s t i := by
  by_cases h0 : t.size = 0
  · exact .inl (.inl h0)
  · rcases Lib.index_spec (L s) (L t) with ⟨_, h⟩ | ⟨i, _, h2, h3, h4⟩
    · exact .inl (.inr h)
    · refine .inr ⟨i, by omega, ?_, h3, h4⟩
      rcases Lib.occAt_room h3 with h | h
      · exact h
      · exact absurd ((L_nil t).1 h) h0
theorem hit_index {s t : ByteArray} {i : Nat} (h : Hit s t i) : Lib.indexB s t = i := Lib.index_first (by have := h.2.1; have : (L s).length = s.size := rfl; show i ≤ (L s).length; omega) h.2.2.1 h.2.2.2
theorem miss_index {s t : ByteArray} (h : ∀ j, j ≤ s.size → Lib.occAt (L s) (L t) j = false) : Lib.indexB s t = -1 := Lib.index_none h
theorem occ_ext (s t : ByteArray) (i : Nat) (h : i + t.size ≤ s.size) : Lib.occAt (L s) (L t) i = decide (s.extract i (i + t.size) = t) := by
  rw [Lib.occAt_iff_take (L s) (L t) i h]
  by_cases k : s.extract i (i + t.size) = t
  · rw [decide_eq_true k]
    have := congrArg L k
    rw [L_ext, show i + t.size - i = t.size by omega] at this
    rw [beq_iff_eq]
    exact this
  · rw [decide_eq_false k, beq_eq_false_iff_ne]
    intro e
    apply k
    apply L_inj
    rw [L_ext, show i + t.size - i = t.size by omega]
    exact e
/-- what is cut, with the cut between. -/
theorem hit_parts {s t : ByteArray} {i : Nat} (h : Hit s t i) : s.extract 0 i ++ t ++ s.extract (i + t.size) s.size = s := by
  have e := occ_ext s t i h.2.1
  rw [h.2.2.1] at e
  have e := of_decide_eq_true e.symm
  apply L_inj
  rw [L_app, L_app, L_ext, L_ext, ← e, L_ext, e]
  have z : (L s).length = s.size := rfl
  have e1 : List.take (s.size - (i + t.size)) (List.drop (i + t.size) (L s)) = List.drop (i + t.size) (L s) := List.take_of_length_le (by rw [List.length_drop, z]; exact Nat.le_refl _)
  rw [e1, List.drop_zero, Nat.sub_zero, show i + t.size - i = t.size by omega, List.append_assoc, ← List.drop_drop, List.take_append_drop, List.take_append_drop]
/-- there is none ahead of it. -/
theorem hit_first {s t : ByteArray} {i : Nat} (h : Hit s t i) : Miss (s.extract 0 i ++ t.extract 0 (t.size - 1)) t := by
  right
  intro j hj
  have h0 := h.1
  have h1 := h.2.1
  have z1 : (s.extract 0 i ++ t.extract 0 (t.size - 1)).size = i + (t.size - 1) := by
    rw [← L_len, L_app, L_ext, L_ext]
    have : (L s).length = s.size := rfl
    have : (L t).length = t.size := rfl
    simp
    omega
  by_cases ho : Lib.occAt (L (s.extract 0 i ++ t.extract 0 (t.size - 1))) (L t) j = true
  · exfalso
    have room : j + t.size ≤ i + (t.size - 1) := by
      rcases Lib.occAt_room ho with r | r
      · have : (L (s.extract 0 i ++ t.extract 0 (t.size - 1))).length = _ := z1
        have : (L t).length = t.size := rfl
        omega
      · have := (L_nil t).1 r
        omega
    have hn := h.2.2.2 j (by omega)
    have pre : ∃ r, L s = L (s.extract 0 i ++ t.extract 0 (t.size - 1)) ++ r := by
      have e := hit_parts h
      refine ⟨((L t).drop (t.size - 1)) ++ L (s.extract (i + t.size) s.size), ?_⟩
      have e2 : L t = L (t.extract 0 (t.size - 1)) ++ (L t).drop (t.size - 1) := by
        rw [L_ext, List.drop_zero, Nat.sub_zero, List.take_append_drop]
      have e3 := congrArg L e
      rw [L_app, L_app] at e3
      rw [L_app, ← e3, List.append_assoc, List.append_assoc]
      conv => lhs; rw [e2]
      rw [List.append_assoc]
    obtain ⟨r, hr⟩ := pre
    unfold Lib.occAt at ho hn
    rw [List.isPrefixOf_iff_prefix] at ho
    have hn' : ¬ (L t) <+: (L s).drop j := by
      intro k
      rw [List.isPrefixOf_iff_prefix.2 k] at hn
      cases hn
    apply hn'
    rw [hr]
    have hl : j ≤ (L (s.extract 0 i ++ t.extract 0 (t.size - 1))).length := by have : (L (s.extract 0 i ++ t.extract 0 (t.size - 1))).length = _ := z1; omega
    rw [List.drop_append_of_le_length hl]
    exact ho.trans (List.prefix_append _ _)
  · simpa using ho

/-! a text's lines by cuts at line feeds -/
def lf : ByteArray := ⟨#[10]⟩
theorem L_lf : L lf = [10] := rfl
theorem occ_lf (l : List UInt8) (j : Nat) : Lib.occAt l [10] j = decide (l[j]? = some 10) := by
  unfold Lib.occAt
  by_cases h : j < l.length
  · rw [List.drop_eq_getElem_cons h, List.getElem?_eq_getElem h]
    generalize l[j] = c
    by_cases e : c = 10
    · subst e; simp
    · rw [List.isPrefixOf_cons_cons, beq_eq_false_iff_ne.2 (fun k => e k.symm), Bool.false_and, decide_eq_false (fun k => e (Option.some.inj k))]
  · rw [List.drop_of_length_le (by omega), List.getElem?_eq_none (by omega)]
    simp
theorem lf_hit {s : ByteArray} {i : Nat} (h : Hit s lf i) : spl [] (L s) = trim (L (s.extract 0 i)) :: spl [] (L (s.extract (i + 1) s.size)) := by
  have e := congrArg L (hit_parts h)
  rw [L_app, L_app, L_lf] at e
  have no : ∀ c ∈ L (s.extract 0 i), c ≠ 10 := by
    intro c hc k
    subst k
    obtain ⟨j, hj, he⟩ := List.getElem_of_mem hc
    have h1 : j < i := by rw [L_ext] at hj; simp at hj; omega
    have := h.2.2.2 j h1
    rw [L_lf, occ_lf] at this
    have k := of_decide_eq_false this
    apply k
    rw [← e, List.append_assoc, List.getElem?_append_left hj, List.getElem?_eq_getElem hj, he]
  rw [← e, List.append_assoc, List.singleton_append, spl_hit no]
  rfl
theorem lf_miss {s : ByteArray} (h : Miss s lf) (h0 : s.size ≠ 0) : spl [] (L s) = [trim (L s)] := by
  refine spl_miss ?_ (fun k => h0 ((L_nil s).1 k))
  intro c hc k
  subst k
  obtain ⟨j, hj, he⟩ := List.getElem_of_mem hc
  rcases h with h | h
  · cases h
  · have := h j (by have : (L s).length = s.size := rfl; omega)
    rw [L_lf, occ_lf] at this
    apply of_decide_eq_false this
    rw [List.getElem?_eq_getElem hj, he]

/-! folded -/
def fld (c : UInt8) : UInt8 := if 65 ≤ c.toNat ∧ c.toNat ≤ 90 then c + 32 else c
def foldS (s : ByteArray) : ByteArray := B ((L s).map fld)
theorem fold_size (s : ByteArray) : (foldS s).size = s.size := by
  unfold foldS
  rw [B_size, List.length_map]
  rfl
theorem fld_nat (c : UInt8) : (fld c).toNat = if 65 ≤ c.toNat ∧ c.toNat ≤ 90 then c.toNat + 32 else c.toNat := by
  unfold fld
  split
  · rw [UInt8.toNat_add]
    have : (32 : UInt8).toNat = 32 := rfl
    omega
  · rfl
theorem fld_fld (c : UInt8) : fld (fld c) = fld c := by
  apply UInt8.toNat_inj.1
  rw [fld_nat, fld_nat]
  split
  · split <;> omega
  · rfl
theorem fold_fold (s : ByteArray) : foldS (foldS s) = foldS s := by
  unfold foldS
  rw [L_B, List.map_map]
  congr 1
  apply List.map_congr_left
  intro c _
  exact fld_fld c

/-! bytes at places -/
def bt (s : ByteArray) (p : Nat) : Nat := ((L s).getD p 0).toNat
theorem bt_at (s : ByteArray) (p : Nat) (h : p < s.size) : (s[p]'h).toNat = bt s p := by
  unfold bt L
  have h' : p < s.data.toList.length := by simpa using h
  rw [List.getD_eq_getElem?_getD, List.getElem?_eq_getElem h', Option.getD_some]
  rfl
theorem bt_lt (s : ByteArray) (p : Nat) : bt s p < 256 := ((L s).getD p 0).toNat_lt
theorem bt_get (s : ByteArray) (p : Nat) (h : p < s.size) : (s.get! p).toNat = bt s p := by
  have := get_at s p h
  rw [Nat.add_zero] at this
  rw [this, bt_at]
theorem drop_at (s : ByteArray) (p : Nat) (h : p < s.size) : ∃ c : UInt8, c.toNat = bt s p ∧ (L s).drop p = c :: (L s).drop (p + 1) ∧ (L s)[p]? = some c := by
  have h' : p < (L s).length := h
  refine ⟨(L s)[p], ?_, List.drop_eq_getElem_cons h', List.getElem?_eq_getElem h'⟩
  unfold bt
  rw [List.getD_eq_getElem?_getD, List.getElem?_eq_getElem h', Option.getD_some]
theorem fold_bt (s : ByteArray) (p : Nat) (h : p < s.size) : bt (foldS s) p = if 65 ≤ bt s p ∧ bt s p ≤ 90 then bt s p + 32 else bt s p := by
  have h' : p < (L s).length := h
  have e : bt s p = ((L s)[p]).toNat := by unfold bt; rw [List.getD_eq_getElem?_getD, List.getElem?_eq_getElem h', Option.getD_some]
  rw [e, ← fld_nat]
  unfold bt foldS
  rw [L_B, List.getD_eq_getElem?_getD, List.getElem?_map, List.getElem?_eq_getElem h']
  rfl

/-! signs -/
/-- a sign that is not ASCII has no byte below 128, and ends within the text. -/
theorem decode_far (s : ByteArray) (p : Nat) (h : p < s.size) (ha : 128 ≤ bt s p) :
    128 ≤ (Utf8.decode s p).1 ∧ 1 ≤ (Utf8.decode s p).2 ∧ p + (Utf8.decode s p).2 ≤ s.size ∧ ∀ j, p ≤ j → j < p + (Utf8.decode s p).2 → 128 ≤ bt s j := by
  have hd := decode_high s p h (by rw [bt_at]; exact ha)
  refine ⟨hd.1, hd.2, ?_⟩
  have b0 := bt_get s p h
  have key : (Utf8.decode s p).2 = 1 ∨ ((Utf8.decode s p).2 = 2 ∧ p + 1 < s.size ∧ (s.get! (p + 1)).toNat / 64 = 2) ∨
      ((Utf8.decode s p).2 = 3 ∧ p + 1 < s.size ∧ (s.get! (p + 1)).toNat / 64 = 2 ∧ p + 2 < s.size ∧ (s.get! (p + 2)).toNat / 64 = 2) ∨
      ((Utf8.decode s p).2 = 4 ∧ p + 1 < s.size ∧ (s.get! (p + 1)).toNat / 64 = 2 ∧ p + 2 < s.size ∧ (s.get! (p + 2)).toNat / 64 = 2 ∧ p + 3 < s.size ∧ (s.get! (p + 3)).toNat / 64 = 2) := by
    simp only [Utf8.decode, Nat.add_zero, Bool.and_eq_true, decide_eq_true_eq, beq_iff_eq]
    generalize (s.get! p).toNat = a0
    generalize (s.get! (p + 1)).toNat = a1
    generalize (s.get! (p + 2)).toNat = a2
    generalize (s.get! (p + 3)).toNat = a3
    repeat' split
    all_goals first
      | (left; rfl)
      | (right; left; exact ⟨rfl, by omega, by omega⟩)
      | (right; right; left; exact ⟨rfl, by omega, by omega, by omega, by omega⟩)
      | (right; right; right; exact ⟨rfl, by omega, by omega, by omega, by omega, by omega, by omega⟩)
  rcases key with k | ⟨k, h1, g1⟩ | ⟨k, h1, g1, h2, g2⟩ | ⟨k, h1, g1, h2, g2, h3, g3⟩
  · rw [k]
    refine ⟨by omega, fun j hj1 hj2 => ?_⟩
    obtain rfl : j = p := by omega
    exact ha
  · rw [k]
    rw [bt_get s _ h1] at g1
    refine ⟨by omega, fun j hj1 hj2 => ?_⟩
    have : j = p ∨ j = p + 1 := by omega
    rcases this with rfl | rfl
    · exact ha
    · omega
  · rw [k]
    rw [bt_get s _ h1] at g1
    rw [bt_get s _ h2] at g2
    refine ⟨by omega, fun j hj1 hj2 => ?_⟩
    have : j = p ∨ j = p + 1 ∨ j = p + 2 := by omega
    rcases this with rfl | rfl | rfl
    · exact ha
    · omega
    · omega
  · rw [k]
    rw [bt_get s _ h1] at g1
    rw [bt_get s _ h2] at g2
    rw [bt_get s _ h3] at g3
    refine ⟨by omega, fun j hj1 hj2 => ?_⟩
    have : j = p ∨ j = p + 1 ∨ j = p + 2 ∨ j = p + 3 := by omega
    rcases this with rfl | rfl | rfl | rfl
    · exact ha
    · omega
    · omega
    · omega
end Go.Proofs.Ytllficloadncfaa.lx
