/-
  The text of ZicWords: a text's lines of their words, letters made small, with a remark ahead of one of them, or behind them all. Plain mathematics (zs). Conditions: as said.
-/
import Derived.Test.YtajfblfkohemeaaDoorZicWordMath
namespace Go.Proofs.YtajfblfkohemeaaDoor.zs
open lx
set_option linter.unusedVariables false
set_option maxRecDepth 100000

/-- lines without line feeds, put together and split again. -/
theorem spl_tr : ∀ (ls : List (List UInt8)), (∀ l ∈ ls, ∀ c ∈ l, c ≠ 10) → ∀ r, spl [] (byl ls ++ r) = ls.map trim ++ spl [] r
  | [], _, r => rfl
  | l :: ls, h, r => by
    have e : byl (l :: ls) = l ++ [10] ++ byl ls := by unfold byl; rw [List.flatMap_cons]
    rw [e, List.append_assoc, List.append_assoc, List.singleton_append, spl_hit (h l (by simp)), spl_tr ls (fun x hx => h x (by simp [hx])) r]
    rfl
theorem trim_two (a b : UInt8) (m : List UInt8) (hb : b ≠ 13) : ∃ m', trim (a :: b :: m) = a :: b :: m' := by
  by_cases h : ∃ x, a :: b :: m = x ++ [13]
  · obtain ⟨x, hx⟩ := h
    rw [hx, trim_off]
    match x, hx with
    | [], hx => simp at hx
    | [y], hx => simp at hx; exact absurd hx.2.1 hb
    | y :: z :: x, hx =>
      simp at hx
      exact ⟨x, by rw [hx.1, hx.2.1]⟩
  · exact ⟨m, trim_keep fun x hx => h ⟨x, hx⟩⟩
theorem lw_rem (m : List UInt8) : lw (trim (32 :: 35 :: m)) = [] := by
  obtain ⟨m', e⟩ := trim_two 32 35 m (by decide)
  rw [e]
  unfold lw
  have := (ahd_some (c := 35) (l := [32]) (by decide) m').1
  rw [show [32] ++ 35 :: m' = 32 :: 35 :: m' from rfl] at this
  rw [this]
  rfl
/-- what stands ahead of line k. -/
def rem (m : List UInt8) : List UInt8 := [32, 35] ++ m ++ [10]
theorem rem_byl (m : List UInt8) : rem m = byl [32 :: 35 :: m] := by unfold rem byl; simp
/-- the text of i rounds. -/
def rtx (ls : List (List UInt8)) (R : List UInt8) (k i : Nat) : List UInt8 := if i ≤ k then byl (ls.take i) else byl (ls.take k) ++ (R ++ byl ((ls.drop k).take (i - k)))
theorem rtx_zero (ls : List (List UInt8)) (R : List UInt8) (k : Nat) : rtx ls R k 0 = [] := by unfold rtx; rw [if_pos (Nat.zero_le _)]; rfl
theorem byl_one (l : List UInt8) : byl [l] = l ++ [10] := by unfold byl; simp
theorem byl_next (ls : List (List UInt8)) (i : Nat) (h : i < ls.length) : byl (ls.take (i + 1)) = byl (ls.take i) ++ (ls[i] ++ [10]) := by
  rw [← byl_one, ← byl_app, List.take_append_getElem h]
theorem rtx_less {ls : List (List UInt8)} {k i : Nat} (R : List UInt8) (h : i < ls.length) (hk : i ≠ k) : rtx ls R k (i + 1) = rtx ls R k i ++ (ls[i] ++ [10]) := by
  unfold rtx
  by_cases g : i < k
  · rw [if_pos (by omega), if_pos (by omega), byl_next ls i h]
  · rw [if_neg (by omega), if_neg (by omega), show i + 1 - k = (i - k) + 1 by omega, byl_next (ls.drop k) (i - k) (by rw [List.length_drop]; omega)]
    have : (ls.drop k)[i - k]'(by rw [List.length_drop]; omega) = ls[i] := by
      rw [List.getElem_drop]
      congr 1
      omega
    rw [this]
    simp
theorem rtx_here {ls : List (List UInt8)} {k : Nat} (R : List UInt8) (h : k < ls.length) : rtx ls R k (k + 1) = rtx ls R k k ++ R ++ (ls[k] ++ [10]) := by
  unfold rtx
  rw [if_neg (by omega), if_pos (Nat.le_refl _), show k + 1 - k = 0 + 1 by omega, byl_next (ls.drop k) 0 (by rw [List.length_drop]; omega)]
  have : (ls.drop k)[0]'(by rw [List.length_drop]; omega) = ls[k] := by rw [List.getElem_drop]; rfl
  rw [this, List.take_zero]
  show _ ++ (R ++ ([] ++ _)) = _
  simp
theorem rtx_end {ls : List (List UInt8)} {k : Nat} (R : List UInt8) (h : k < ls.length) : rtx ls R k (ls.length + 1) = rtx ls R k ls.length := by
  unfold rtx
  rw [if_neg (by omega), if_neg (by omega), List.take_of_length_le (l := ls.drop k) (i := ls.length + 1 - k) (by rw [List.length_drop]; omega), List.take_of_length_le (l := ls.drop k) (i := ls.length - k) (by rw [List.length_drop]; omega)]
theorem rtx_last (ls : List (List UInt8)) (R : List UInt8) : rtx ls R ls.length (ls.length + 1) = rtx ls R ls.length ls.length ++ R := by
  unfold rtx
  rw [if_neg (by omega), if_pos (Nat.le_refl _), List.drop_length]
  simp [byl]
theorem rtx_all {ls : List (List UInt8)} {k : Nat} (R : List UInt8) (h : k ≤ ls.length) : rtx ls R k (ls.length + 1) = byl (ls.take k) ++ (R ++ byl (ls.drop k)) := by
  unfold rtx
  rw [if_neg (by omega), List.take_of_length_le (l := ls.drop k) (i := ls.length + 1 - k) (by rw [List.length_drop]; omega)]
theorem byl_tot (ls : List (List UInt8)) : (byl ls).length = tot ls + ls.length := by
  induction ls with
  | nil => rfl
  | cons l ls ih =>
    have e : byl (l :: ls) = l ++ [10] ++ byl ls := by unfold byl; rw [List.flatMap_cons]
    rw [e, List.length_append, ih, tot]
    simp
    omega
theorem byl_two (ls : List (List UInt8)) (k : Nat) : (byl (ls.take k)).length + (byl (ls.drop k)).length = (byl ls).length := by
  rw [← List.length_append, ← byl_app, List.take_append_drop]
theorem rtx_len (ls : List (List UInt8)) (R : List UInt8) (k i : Nat) : (rtx ls R k i).length ≤ (byl ls).length + R.length := by
  unfold rtx
  have h1 := byl_two ls k
  have h2 := byl_two ls i
  have h3 := byl_two (ls.drop k) (i - k)
  split
  · omega
  · rw [List.length_append, List.length_append]
    omega
/-- what the text is read as. -/
theorem two_texts {ls : List (List UInt8)} (hf : ∀ l ∈ ls, ∀ c ∈ l, c ≠ 10 ∧ c ≠ 13 ∧ c ≠ 35) {m : List UInt8} (hm : ∀ c ∈ m, c ≠ 10) {k : Nat} (hk : k ≤ ls.length) :
    parse ((spl [] (rtx (ls.map hat) (rem m) k ((ls.map hat).length + 1))).map lw) = { parse (ls.map lw) with line := shl k (parse (ls.map lw)).line } := by
  have h10 : ∀ l ∈ ls.map hat, ∀ c ∈ l, c ≠ 10 := fun l hl => by
    obtain ⟨y, hy, rfl⟩ := List.mem_map.1 hl
    exact hat_mem (by decide) (by decide) (by decide) (by decide) fun c hc => (hf y hy c hc).1
  have h13 : ∀ l : List (List UInt8), (∀ x ∈ l, x ∈ ls) → ((l.map hat).map trim).map lw = (l.map lw).map fl := fun l hl => by
    rw [List.map_map, List.map_map, List.map_map]
    refine List.map_congr_left fun x hx => ?_
    have hx' := hl x hx
    have ht : trim (hat x) = hat x := trim_keep fun m e => by
      have := hat_mem (l := x) (d := 13) (by decide) (by decide) (by decide) (by decide) (fun c hc => (hf x hx' c hc).2.1) 13 (by rw [e]; simp)
      exact this rfl
    show lw (trim (hat x)) = fl (lw x)
    rw [ht]
    exact hat_lw fun c hc => (hf x hx' c hc).2.2
  have hsplit : spl [] (rtx (ls.map hat) (rem m) k ((ls.map hat).length + 1)) = ((ls.take k).map hat).map trim ++ ([trim (32 :: 35 :: m)] ++ ((ls.drop k).map hat).map trim) := by
    have hd := spl_tr ((ls.map hat).drop k) (fun l hl => h10 l (List.mem_of_mem_drop hl)) []
    rw [List.append_nil, spl_end0, List.append_nil] at hd
    rw [rtx_all _ (by rw [List.length_map]; exact hk), spl_tr _ (fun l hl => h10 l (List.mem_of_mem_take hl)), rem_byl, spl_tr _ ?_, hd, ← List.map_take, ← List.map_drop]
    · rfl
    · intro l hl c hc
      rw [List.mem_singleton] at hl
      subst hl
      simp only [List.mem_cons] at hc
      rcases hc with rfl | rfl | hc
      · decide
      · decide
      · exact hm c hc
  rw [hsplit, List.map_append, List.map_append, h13 _ (fun x hx => List.mem_of_mem_take hx), h13 _ (fun x hx => List.mem_of_mem_drop hx), List.map_cons, List.map_nil, lw_rem]
  have h := parse_one (((ls.take k).map lw).map fl) (((ls.drop k).map lw).map fl)
  rw [← List.map_append, ← List.map_append, List.take_append_drop, parse_fl, List.length_map, List.length_map, List.length_take, Nat.min_eq_left hk] at h
  exact h
/-! the same of texts -/
def hts (X : List ByteArray) : List (List UInt8) := (X.map L).map hat
theorem hts_len (X : List ByteArray) : (hts X).length = X.length := by unfold hts; rw [List.length_map, List.length_map]
theorem hts_get (X : List ByteArray) (i : Nat) (h : i < X.length) : (hts X)[i]'(by rw [hts_len]; exact h) = hat (L X[i]) := by unfold hts; simp
def rtS (X : List ByteArray) (r : ByteArray) (k i : Nat) : ByteArray := B (rtx (hts X) (rem (L r)) k i)
/-- n words of line q. -/
def mdS (X : List ByteArray) (r : ByteArray) (k q : Nat) (Y : List ByteArray) (n : Nat) : ByteArray := B (rtx (hts X) (rem (L r)) k q ++ ((if q = k then rem (L r) else []) ++ wt ((Y.map L).take n)))
theorem rtS_zero (X : List ByteArray) (r : ByteArray) (k : Nat) : ⟨#[]⟩ = rtS X r k 0 := by unfold rtS; rw [rtx_zero]; rfl
theorem L_rem (r : ByteArray) (a : List UInt8) : L (B a ++ ⟨#[32, 35]⟩ ++ r ++ ⟨#[10]⟩) = a ++ rem (L r) := by
  rw [L_app, L_app, L_app, L_B]
  unfold rem
  show a ++ [32, 35] ++ L r ++ [10] = _
  simp
theorem md_here (X : List ByteArray) (r : ByteArray) (k : Nat) (Y : List ByteArray) : rtS X r k k ++ ⟨#[32, 35]⟩ ++ r ++ ⟨#[10]⟩ = mdS X r k k Y 0 := by
  apply L_inj
  unfold rtS mdS
  rw [L_rem, L_B, if_pos rfl, List.take_zero, wt_nil, List.append_nil]
theorem md_less {X : List ByteArray} {r : ByteArray} {k q : Nat} (Y : List ByteArray) (h : q ≠ k) : rtS X r k q = mdS X r k q Y 0 := by
  unfold rtS mdS
  rw [if_neg h, List.take_zero, wt_nil, List.append_nil, List.append_nil]
theorem md_next {X : List ByteArray} {r : ByteArray} {k q : Nat} {Y : List ByteArray} {n : Nat} (h : n < Y.length) : mdS X r k q Y n ++ ⟨#[9, 32]⟩ ++ foldS Y[n] = mdS X r k q Y (n + 1) := by
  apply L_inj
  unfold mdS foldS
  rw [L_app, L_app, L_B, L_B, L_B, wt_next _ n (by rw [List.length_map]; exact h), List.getElem_map]
  show _ ++ [9, 32] ++ _ = _
  simp
theorem L_words (x : ByteArray) : (wordsS x).map L = wds [] (L x) := by
  unfold wordsS
  rw [List.map_map, show (L ∘ B) = id from funext fun l => L_B l, List.map_id]
theorem md_end {X : List ByteArray} {r : ByteArray} {k q : Nat} (h : q < X.length) : mdS X r k q (wordsS X[q]) (wordsS X[q]).length ++ ⟨#[10]⟩ = rtS X r k (q + 1) := by
  apply L_inj
  unfold mdS rtS
  rw [L_app, L_B, L_B, L_words, List.take_of_length_le (by rw [← L_words, List.length_map]; exact Nat.le_refl _)]
  show _ ++ [10] = _
  have hg := hts_get X q h
  unfold hat at hg
  by_cases e : q = k
  · subst e
    rw [if_pos rfl, rtx_here _ (by rw [hts_len]; exact h), hg]
    simp
  · rw [if_neg e, rtx_less _ (by rw [hts_len]; exact h) e, hg]
    simp
theorem rtS_end {X : List ByteArray} {r : ByteArray} {k : Nat} (h : k < X.length) : rtS X r k X.length = rtS X r k (X.length + 1) := by
  unfold rtS
  have := rtx_end (ls := hts X) (k := k) (rem (L r)) (by rw [hts_len]; exact h)
  rw [hts_len] at this
  rw [this]
theorem rtS_last (X : List ByteArray) (r : ByteArray) : rtS X r X.length X.length ++ ⟨#[32, 35]⟩ ++ r ++ ⟨#[10]⟩ = rtS X r X.length (X.length + 1) := by
  apply L_inj
  unfold rtS
  have := rtx_last (hts X) (rem (L r))
  rw [hts_len] at this
  rw [L_rem, L_B, this]
theorem tot_hat (ls : List (List UInt8)) : tot (ls.map hat) ≤ 3 * tot ls := by
  induction ls with
  | nil => exact Nat.le_refl _
  | cons l ls ih =>
    rw [List.map_cons, tot, tot]
    have := hat_len l
    omega
theorem spl_sum (s : ByteArray) : tot ((splitS s).map L) ≤ s.size := by
  have h : ∀ l cur : List UInt8, tot (spl cur l) ≤ cur.length + l.length := by
    intro l
    induction l with
    | nil =>
      intro cur
      by_cases hn : cur = []
      · subst hn; simp [spl_end0, tot]
      · rw [spl_end hn, tot, tot]
        have := tr cur
        simp
        omega
    | cons a l ih =>
      intro cur
      by_cases ha : a = 10
      · subst ha
        rw [spl_lf, tot]
        have := tr cur
        have := ih []
        simp at this ⊢
        omega
      · rw [spl_no ha]
        have := ih (cur ++ [a])
        simp at this ⊢
        omega
  have := h (L s) []
  unfold splitS
  rw [List.map_map, show (L ∘ B) = id from funext fun l => L_B l, List.map_id]
  rw [List.length_nil, L_len] at this
  omega
where
  tr (cur : List UInt8) : (trim cur).length ≤ cur.length := by
    by_cases h : ∃ m, cur = m ++ [13]
    · obtain ⟨m, rfl⟩ := h
      rw [trim_off]
      simp
    · rw [trim_keep fun m e => h ⟨m, e⟩]
      exact Nat.le_refl _
theorem rtS_size {s : ByteArray} (r : ByteArray) (k i : Nat) : (rtS (splitS s) r k i).size ≤ 4 * s.size + r.size + 10 := by
  unfold rtS
  rw [B_size]
  have h1 := rtx_len (hts (splitS s)) (rem (L r)) k i
  rw [byl_tot, hts_len] at h1
  have h2 := spl_sum s
  have h5 := tot_hat ((splitS s).map L)
  have h3 : (splitS s).length ≤ s.size := by
    unfold splitS
    rw [List.length_map]
    have := spl_len (L s) []
    rw [List.length_nil, L_len] at this
    omega
  have h4 : (rem (L r)).length = r.size + 3 := by
    unfold rem
    rw [List.length_append, List.length_append, L_len]
    simp
    omega
  unfold hts at h1 h5
  unfold hts
  omega
theorem wt_take (ws : List (List UInt8)) (n : Nat) : (wt (ws.take n)).length ≤ (wt ws).length := by
  have h := wt_app (ws.take n) (ws.drop n)
  rw [List.take_append_drop] at h
  rw [h, List.length_append]
  omega
theorem mdS_size {s r : ByteArray} {k q : Nat} (h : q < (splitS s).length) (n : Nat) : (mdS (splitS s) r k q (wordsS (splitS s)[q]) n).size ≤ 4 * s.size + r.size + 10 := by
  have h1 := rtS_size (s := s) r k (q + 1)
  rw [← md_end h] at h1
  have h2 := wt_take ((wordsS (splitS s)[q]).map L) n
  have h3 : (mdS (splitS s) r k q (wordsS (splitS s)[q]) n).size ≤ (mdS (splitS s) r k q (wordsS (splitS s)[q]) (wordsS (splitS s)[q]).length).size := by
    unfold mdS
    rw [B_size, B_size, List.take_of_length_le (l := (wordsS (splitS s)[q]).map L) (i := (wordsS (splitS s)[q]).length) (by rw [List.length_map]; exact Nat.le_refl _)]
    simp only [List.length_append]
    omega
  simp at h1
  omega
theorem trim_mem {cur : List UInt8} {c : UInt8} (hc : c ∈ trim cur) : c ∈ cur := by
  by_cases h : ∃ m, cur = m ++ [13]
  · obtain ⟨m, rfl⟩ := h
    rw [trim_off] at hc
    simp [hc]
  · rw [trim_keep fun m e => h ⟨m, e⟩] at hc
    exact hc
/-- a line of a text: bytes of it, and no line feed. -/
theorem spl_mem : ∀ (l cur : List UInt8), ∀ x ∈ spl cur l, ∀ c ∈ x, c ∈ cur ∨ (c ∈ l ∧ c ≠ 10)
  | [], cur, x, hx, c, hc => by
    by_cases hn : cur = []
    · subst hn; simp [spl_end0] at hx
    · rw [spl_end hn, List.mem_singleton] at hx
      subst hx
      exact .inl (trim_mem hc)
  | a :: l, cur, x, hx, c, hc => by
    by_cases ha : a = 10
    · subst ha
      rw [spl_lf, List.mem_cons] at hx
      rcases hx with rfl | hx
      · exact .inl (trim_mem hc)
      · rcases spl_mem l [] x hx c hc with k | ⟨k, k'⟩
        · simp at k
        · exact .inr ⟨List.mem_cons_of_mem _ k, k'⟩
    · rw [spl_no ha] at hx
      rcases spl_mem l (cur ++ [a]) x hx c hc with k | ⟨k, k'⟩
      · rw [List.mem_append, List.mem_singleton] at k
        rcases k with k | rfl
        · exact .inl k
        · exact .inr ⟨List.mem_cons_self .., ha⟩
      · exact .inr ⟨List.mem_cons_of_mem _ k, k'⟩
theorem L_split (s : ByteArray) : (splitS s).map L = spl [] (L s) := by
  unfold splitS
  rw [List.map_map, show (L ∘ B) = id from funext fun l => L_B l, List.map_id]
theorem wl_split (s : ByteArray) : ((splitS s).map fun x => lw (L x)) = (spl [] (L s)).map lw := by
  unfold splitS
  rw [List.map_map]
  refine List.map_congr_left fun l _ => ?_
  show lw (L (B l)) = lw l
  rw [L_B]
/-- both texts. -/
theorem both_texts {s r : ByteArray} (hs : ∀ c ∈ L s, c ≠ 35 ∧ c ≠ 13) (hr : ∀ c ∈ L r, c ≠ 10) {k : Nat} (hk : k ≤ (splitS s).length) :
    parse ((splitS (rtS (splitS s) r k ((splitS s).length + 1))).map fun x => lw (L x)) = { parse ((splitS s).map fun x => lw (L x)) with line := shl k (parse ((splitS s).map fun x => lw (L x))).line } := by
  have h := two_texts (ls := (splitS s).map L) (m := L r) (k := k) (fun l hl c hc => by
    rw [L_split] at hl
    rcases spl_mem (L s) [] l hl c hc with q | ⟨q, q'⟩
    · simp at q
    · exact ⟨q', (hs c q).2, (hs c q).1⟩) hr (by rw [List.length_map]; exact hk)
  rw [List.length_map, List.length_map] at h
  have e1 : ∀ t : ByteArray, ((splitS t).map fun x => lw (L x)) = (spl [] (L t)).map lw := fun t => wl_split t
  rw [e1, e1]
  unfold rtS
  rw [L_B]
  unfold hts
  rw [L_split] at h ⊢
  exact h
end Go.Proofs.YtajfblfkohemeaaDoor.zs
