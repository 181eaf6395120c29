/-
  Lines with great letters made small, and an empty line more: how a source of them is read; the text that is put together of them. Plain mathematics (zs). Conditions: as said.
-/
import Derived.Test.YtajfblfkohemeaaDoorZicText
namespace Go.Proofs.YtajfblfkohemeaaDoor.zs
open lx cal stx
open lm (Lp ce)
set_option linter.unusedVariables false
set_option maxRecDepth 100000

/-! letters made small -/
def fl (w : List (List UInt8)) : List (List UInt8) := w.map (List.map fld)
theorem ff (l : List UInt8) : (l.map fld).map fld = l.map fld := by
  rw [List.map_map]
  exact List.map_congr_left fun c _ => fld_fld c
theorem fld_eq (c d : UInt8) (h1 : ¬ (65 ≤ d.toNat ∧ d.toNat ≤ 90)) (h2 : ¬ (97 ≤ d.toNat ∧ d.toNat ≤ 122)) : fld c = d ↔ c = d := by
  have hn := fld_nat c
  constructor
  · intro h
    rw [h] at hn
    apply UInt8.toNat_inj.1
    split at hn <;> omega
  · rintro rfl
    apply UInt8.toNat_inj.1
    rw [hn, if_neg h1]
theorem dgB_fld (c : UInt8) : dgB (fld c) = dgB c ∧ (dgB c = true → fld c = c) := by
  have hn := fld_nat c
  unfold dgB
  constructor
  · rw [hn]
    congr 1
    apply propext
    split <;> omega
  · intro h
    have := of_decide_eq_true h
    apply UInt8.toNat_inj.1
    rw [hn, if_neg (by omega)]
theorem nmb_fld : ∀ (l : List UInt8) (n : Int), nmb n (l.map fld) = nmb n l
  | [], n => rfl
  | c :: r, n => by
    obtain ⟨a, b⟩ := dgB_fld c
    rw [List.map_cons]
    by_cases h : dgB c = true ∧ 10 * n + ((c.toNat : Int) - 48) ≤ 9223372036854775807
    · rw [b h.1, nmb_yes h.1 h.2, nmb_yes h.1 h.2, nmb_fld r]
    · rw [nmb_no h]
      cases hd : dgB c with
      | true =>
        rw [b hd, nmb_no h]
      | false => exact nmb_no (fun k => by rw [a, hd] at k; exact absurd k.1 (by decide)) _
theorem nm_fld (l : List UInt8) : nm (l.map fld) = nm l := by
  unfold nm
  rw [nmb_fld]
  by_cases h : l = []
  · rw [if_pos h, if_pos (by rw [h]; rfl)]
  · rw [if_neg h, if_neg (by simpa using h)]
theorem nmT_fld (l : List UInt8) : nmT (l.map fld) = nmT l := by unfold nmT; rw [nm_fld]
theorem nmI_fld (l : List UInt8) : nmI (l.map fld) = nmI l := by unfold nmI; rw [nm_fld]
theorem mon_fld (l : List UInt8) : mon (l.map fld) = mon l := by unfold mon monN; rw [List.length_map, ff]
theorem ahd_fld {c : UInt8} (hc : ∀ x, fld x = c ↔ x = c) (l : List UInt8) : ahd c (l.map fld) = (ahd c l).map fld ∧ bhd c (l.map fld) = (bhd c l).map fld := by
  rcases ahd_or c l with h | ⟨a, r, rfl, h⟩
  · have h' : ∀ x ∈ l.map fld, x ≠ c := fun x hx => by
      obtain ⟨y, hy, rfl⟩ := List.mem_map.1 hx
      exact fun k => h y hy ((hc y).1 k)
    obtain ⟨p, q⟩ := ahd_none h
    obtain ⟨p', q'⟩ := ahd_none h'
    rw [p, q, p', q']
    exact ⟨rfl, rfl⟩
  · have h' : ∀ x ∈ a.map fld, x ≠ c := fun x hx => by
      obtain ⟨y, hy, rfl⟩ := List.mem_map.1 hx
      exact fun k => h y hy ((hc y).1 k)
    obtain ⟨p, q⟩ := ahd_some h r
    obtain ⟨p', q'⟩ := ahd_some h' (r.map fld)
    rw [p, q, List.map_append, List.map_cons, (hc c).2 rfl, p', q']
    exact ⟨rfl, rfl⟩
theorem fld58 (x : UInt8) : fld x = 58 ↔ x = 58 := fld_eq x 58 (by decide) (by decide)
theorem cpt_fld (l : List UInt8) : cpt (l.map fld) = cpt l := by unfold cpt; rw [List.length_map, nm_fld]
theorem c1_fld (l : List UInt8) : c1 (l.map fld) = (c1 l).map fld := (ahd_fld fld58 l).1
theorem c2_fld (l : List UInt8) : c2 (l.map fld) = (c2 l).map fld := by unfold c2; rw [(ahd_fld fld58 l).2, (ahd_fld fld58 _).1]
theorem c3_fld (l : List UInt8) : c3 (l.map fld) = (c3 l).map fld := by unfold c3; rw [(ahd_fld fld58 l).2, (ahd_fld fld58 _).2]
theorem clkT_fld (l : List UInt8) : clkT (l.map fld) = clkT l := by unfold clkT cpT cpI; rw [c1_fld, c2_fld, c3_fld, cpt_fld, cpt_fld, cpt_fld]
theorem clkI_fld (l : List UInt8) : clkI (l.map fld) = clkI l := by unfold clkI; rw [clkT_fld]; unfold cpI; rw [c1_fld, c2_fld, c3_fld, cpt_fld, cpt_fld, cpt_fld]
theorem g_fl (w : List (List UInt8)) (k : Nat) : g (fl w) k = (g w k).map fld := by
  unfold g fl
  rw [List.getD_eq_getElem?_getD, List.getD_eq_getElem?_getD, List.getElem?_map]
  cases w[k]? <;> rfl
theorem mo_fl (w : List (List UInt8)) : mo (fl w) = fl (mo w) := by unfold mo fl; rw [← List.map_drop, ← List.map_take]
theorem moT_fl (w : List (List UInt8)) : moT (fl w) = moT w := by unfold moT; rw [g_fl, g_fl, g_fl, g_fl, nmT_fld, mon_fld, nmT_fld, clkT_fld]
theorem moD_fl (w : List (List UInt8)) : moD (fl w) = moD w := by unfold moD; rw [g_fl, g_fl, g_fl, nmI_fld, mon_fld, nmI_fld]
theorem moN_fl (w : List (List UInt8)) : moN (fl w) = moN w := by unfold moN; rw [moD_fl, g_fl, g_fl, g_fl, nmI_fld, mon_fld, nmI_fld]
theorem moS_fl (w : List (List UInt8)) : moS (fl w) = moS w := by unfold moS; rw [g_fl, clkI_fld]
theorem fw_fl (w : List (List UInt8)) : fw (fl w) = fw w := by
  unfold fw fl
  cases w with
  | nil => rfl
  | cons a r => exact ff a
theorem kd_fl (w : List (List UInt8)) : kd (fl w) = kd w := by
  unfold kd
  rw [fw_fl, show (fl w).length = w.length from List.length_map _]
  by_cases h : w = []
  · rw [if_pos h, if_pos (by rw [h]; rfl)]
  · rw [if_neg h, if_neg (by unfold fl; simpa using h)]
theorem one_fld (l : List UInt8) (d : UInt8) (h1 : ¬ (65 ≤ d.toNat ∧ d.toNat ≤ 90)) (h2 : ¬ (97 ≤ d.toNat ∧ d.toNat ≤ 122)) : l.map fld = [d] ↔ l = [d] := by
  match l with
  | [] => simp
  | [c] =>
    simp only [List.map_cons, List.map_nil, List.cons.injEq, and_true]
    exact fld_eq c d h1 h2
  | c :: e :: r => simp
theorem sgT_fl (w : List (List UInt8)) : sgT (fl w) = sgT w := by
  unfold sgT
  rw [g_fl]
  simp only [one_fld _ 43 (by decide) (by decide), one_fld _ 45 (by decide) (by decide)]
theorem sgn_fl (w : List (List UInt8)) : sgn (fl w) = sgn w := by
  unfold sgn
  rw [g_fl]
  simp only [one_fld _ 45 (by decide) (by decide)]
theorem rkR_fl (x : List UInt8) : rkR (x.map fld) = rkR x := by unfold rkR; rw [ff]
theorem rkT_fl (x : List UInt8) : rkT (x.map fld) = rkT x := by unfold rkT; rw [rkR_fl, ff]
theorem lfT_fl (w : List (List UInt8)) : lfT (fl w) = lfT w := by unfold lfT; rw [mo_fl, moT_fl, g_fl, rkT_fl, sgT_fl]
theorem lpO_fl (w : List (List UInt8)) : lpO (fl w) = lpO w := by unfold lpO; rw [mo_fl, moN_fl, sgn_fl, g_fl, rkR_fl]
theorem stE_fl (w : List (List UInt8)) (s : S) : stE (fl w) s = stE w s := by
  unfold stE lE xE
  rw [kd_fl, lfT_fl, mo_fl, moD_fl, moS_fl, sgn_fl, lpO_fl, moT_fl]
theorem stS_fl (w : List (List UInt8)) (a : Nat) (s : S) : stS (fl w) a s = stS w a s := by
  unfold stS
  rw [kd_fl, lpO_fl, mo_fl, moN_fl, moS_fl]
theorem run_fl : ∀ (ws : List (List (List UInt8))) (k : Nat) (s : S), run (ws.map fl) k s = run ws k s
  | [], k, s => rfl
  | w :: r, k, s => by
    rw [List.map_cons]
    by_cases h : stE w s = 0
    · rw [run_go h, run_go (by rw [stE_fl]; exact h), stS_fl, run_fl r]
    · rw [run_no h, run_no (by rw [stE_fl]; exact h), stE_fl]
theorem parse_fl (ws : List (List (List UInt8))) : parse (ws.map fl) = parse ws := by unfold parse; rw [run_fl]

/-! an empty line more -/
/-- a line's place, where one line more stands at c. -/
def shl (c n : Nat) : Nat := if c < n then n + 1 else n
theorem shl_zero (c n : Nat) : shl c n = 0 ↔ n = 0 := by unfold shl; split <;> omega
def shS (c : Nat) (s : S) : S := { s with xl := shl c s.xl }
theorem lE_sh (c : Nat) (w : List (List UInt8)) (s : S) : lE w (shS c s) = lE w s := rfl
theorem stE_sh (c : Nat) (w : List (List UInt8)) (s : S) : stE w (shS c s) = stE w s := by
  have h : (shS c s).xl = 0 ↔ s.xl = 0 := shl_zero c s.xl
  unfold stE xE
  rw [lE_sh]
  simp only [ne_eq, h]
theorem stS_sh (c a : Nat) (w : List (List UInt8)) (s : S) (ha : c < a) : stS w (a + 1) (shS c s) = shS c (stS w a s) := by
  unfold stS shS
  simp only [S.mk.injEq, and_true, true_and]
  split
  · unfold shl
    rw [if_pos ha]
  · rfl
theorem run_sh (c : Nat) : ∀ (ws : List (List (List UInt8))) (j : Nat) (s : S), c ≤ j → run ws (j + 1) (shS c s) = ((shl c (run ws j s).1.1, (run ws j s).1.2), shS c (run ws j s).2)
  | [], j, s, h => by
    rw [run_nil, run_nil]
    simp only [shl, Nat.not_lt_zero, if_false]
  | w :: r, j, s, h => by
    by_cases e : stE w s = 0
    · rw [run_go e, run_go (by rw [stE_sh]; exact e), stS_sh c (j + 1) w s (by omega)]
      exact run_sh c r (j + 1) _ (by omega)
    · rw [run_no e, run_no (by rw [stE_sh]; exact e), stE_sh]
      unfold shl
      rw [if_pos (show c < j + 1 by omega)]
theorem kd_nil : kd [] = 0 := rfl
theorem stE_nil (s : S) : stE [] s = 0 := by unfold stE; rw [if_pos kd_nil]
theorem stS_nil (a : Nat) (s : S) : stS [] a s = s := by
  unfold stS
  rw [if_neg (by rw [kd_nil]; decide), if_neg (by rw [kd_nil]; decide), if_neg (by rw [kd_nil]; decide)]
theorem fin_sh (c : Nat) (s : S) : fin (shS c s) = { fin s with line := shl c (fin s).line } := by
  have h : (shS c s).xl = 0 ↔ s.xl = 0 := shl_zero c s.xl
  unfold fin
  by_cases g : s.xl = 0
  · rw [if_pos g, if_pos (h.2 g)]
    unfold shl
    simp only [Nat.not_lt_zero, if_false]
    rfl
  · rw [if_neg g, if_neg (fun k => g (h.1 k))]
    by_cases e : ce s.lv true s.ex = 0
    · rw [if_pos e, if_pos (show ce (shS c s).lv true (shS c s).ex = 0 from e)]
      unfold shl
      simp only [Nat.not_lt_zero, if_false]
      rfl
    · rw [if_neg e, if_neg (show ¬ ce (shS c s).lv true (shS c s).ex = 0 from e)]
      rfl
/-- an empty line ahead of the lines b: nothing turns but the line of a fault. -/
theorem parse_one (a b : List (List (List UInt8))) : parse (a ++ ([] :: b)) = { parse (a ++ b) with line := shl a.length (parse (a ++ b)).line } := by
  obtain ⟨hinv, hbd⟩ := run_inv a 0 S0 inv_zero
  rw [Nat.zero_add] at hinv hbd
  by_cases hc : (run a 0 S0).1.2 = 0
  · have e1 : run (a ++ b) 0 S0 = run b a.length (run a 0 S0).2 := by rw [run_app, if_pos hc, Nat.zero_add]
    have hs : shS a.length (run a 0 S0).2 = (run a 0 S0).2 := by
      unfold shS shl
      rw [if_neg (by have := hinv.place; omega)]
    have e2 : run (a ++ ([] :: b)) 0 S0 = run b (a.length + 1) (shS a.length (run a 0 S0).2) := by
      rw [run_app, if_pos hc, Nat.zero_add, run_go (stE_nil _), stS_nil, hs]
    rw [run_sh a.length b a.length _ (Nat.le_refl _)] at e2
    unfold parse
    rw [e1, e2]
    by_cases hb : (run b a.length (run a 0 S0).2).1.2 = 0
    · rw [if_neg (fun k => k hb), if_neg (fun k => k hb)]
      exact fin_sh _ _
    · rw [if_pos hb, if_pos hb]
      rfl
  · have hb := hbd hc
    have e1 : run (a ++ b) 0 S0 = run a 0 S0 := by rw [run_app, if_neg hc]
    have e2 : run (a ++ ([] :: b)) 0 S0 = run a 0 S0 := by rw [run_app, if_neg hc]
    unfold parse
    have hz : shl a.length (run a 0 S0).1.1 = (run a 0 S0).1.1 := if_neg (by omega)
    rw [e1, e2, if_pos hc]
    unfold bad
    simp only [hz]

/-! lines put together -/
/-- a line of its words, a tab and a blank ahead of each, letters made small. -/
def wt (ws : List (List UInt8)) : List UInt8 := ws.flatMap fun w => [9, 32] ++ w.map fld
theorem wt_nil : wt [] = [] := rfl
theorem wt_cons (w : List UInt8) (ws : List (List UInt8)) : wt (w :: ws) = 9 :: 32 :: (w.map fld ++ wt ws) := by unfold wt; rw [List.flatMap_cons]; simp
theorem wt_app (a b : List (List UInt8)) : wt (a ++ b) = wt a ++ wt b := List.flatMap_append
theorem wt_next (ws : List (List UInt8)) (n : Nat) (h : n < ws.length) : wt (ws.take (n + 1)) = wt (ws.take n) ++ ([9, 32] ++ ws[n].map fld) := by
  rw [← List.take_append_getElem h, wt_app]
  unfold wt
  simp
theorem wt_len (ws : List (List UInt8)) : (wt ws).length = tot ws + 2 * ws.length := by
  induction ws with
  | nil => rfl
  | cons w ws ih =>
    rw [wt_cons, List.length_cons, List.length_cons, List.length_append, List.length_map, ih, tot, List.length_cons]
    omega
theorem blk_fld {c : UInt8} (h : blk c = false) : blk (fld c) = false := by
  have hn : ¬ (c = 32 ∨ c = 9) := fun k => by
    unfold blk at h
    exact absurd (of_decide_eq_false h) (fun q => q k)
  unfold blk
  refine decide_eq_false fun k => hn ?_
  rw [fld_eq c 32 (by decide) (by decide), fld_eq c 9 (by decide) (by decide)] at k
  exact k
theorem wds_wt : ∀ (ws : List (List UInt8)), (∀ x ∈ ws, Word x) → ∀ cur, wds cur (wt ws) = (if cur = [] then [] else [cur]) ++ fl ws
  | [], _, cur => by
    rw [wt_nil]
    by_cases h : cur = []
    · subst h; rfl
    · rw [wds_end h, if_neg h]; rfl
  | w :: ws, hw, cur => by
    have h1 := hw w (by simp)
    have ih := wds_wt ws (fun x hx => hw x (by simp [hx])) (w.map fld)
    have e : wds [] (32 :: (w.map fld ++ wt ws)) = fl (w :: ws) := by
      rw [wds_b0 (by decide), wds_plain _ (fun c hc => by
        obtain ⟨y, hy, rfl⟩ := List.mem_map.1 hc
        exact blk_fld (h1.2 y hy)), List.nil_append, ih, if_neg (by simpa using h1.1)]
      rfl
    rw [wt_cons]
    by_cases h : cur = []
    · subst h
      rw [wds_b0 (by decide), e, if_pos rfl, List.nil_append]
    · rw [wds_b (by decide) h, e, if_neg h]
      rfl
theorem wds_mem : ∀ (l cur : List UInt8), ∀ x ∈ wds cur l, ∀ c ∈ x, c ∈ cur ∨ c ∈ l
  | [], cur, x, hx, c, hc => by
    by_cases h : cur = []
    · subst h; simp [wds_end0] at hx
    · rw [wds_end h, List.mem_singleton] at hx
      subst hx
      exact .inl hc
  | a :: l, cur, x, hx, c, hc => by
    cases hb : blk a with
    | true =>
      by_cases h : cur = []
      · subst h
        rw [wds_b0 hb] at hx
        rcases wds_mem l [] x hx c hc with k | k
        · simp at k
        · exact .inr (List.mem_cons_of_mem _ k)
      · rw [wds_b hb h, List.mem_cons] at hx
        rcases hx with rfl | hx
        · exact .inl hc
        · rcases wds_mem l [] x hx c hc with k | k
          · simp at k
          · exact .inr (List.mem_cons_of_mem _ k)
    | false =>
      rw [wds_no hb] at hx
      rcases wds_mem l (cur ++ [a]) x hx c hc with k | k
      · rw [List.mem_append, List.mem_singleton] at k
        rcases k with k | rfl
        · exact .inl k
        · exact .inr (List.mem_cons_self ..)
      · exact .inr (List.mem_cons_of_mem _ k)
/-- a line as it is written again. -/
def hat (l : List UInt8) : List UInt8 := wt (wds [] l)
theorem hat_mem {l : List UInt8} {d : UInt8} (h1 : ¬ (65 ≤ d.toNat ∧ d.toNat ≤ 90)) (h2 : ¬ (97 ≤ d.toNat ∧ d.toNat ≤ 122)) (h9 : d ≠ 9) (h32 : d ≠ 32) (h : ∀ c ∈ l, c ≠ d) : ∀ c ∈ hat l, c ≠ d := by
  intro c hc k
  subst k
  unfold hat wt at hc
  rw [List.mem_flatMap] at hc
  obtain ⟨x, hx, hc⟩ := hc
  rw [List.mem_append] at hc
  rcases hc with hc | hc
  · simp at hc
    rcases hc with rfl | rfl
    · exact h9 rfl
    · exact h32 rfl
  · obtain ⟨y, hy, e⟩ := List.mem_map.1 hc
    rw [fld_eq y c h1 h2] at e
    subst e
    rcases wds_mem l [] x hx y hy with k | k
    · simp at k
    · exact h y k rfl
theorem hat_lw {l : List UInt8} (h : ∀ c ∈ l, c ≠ 35) : lw (hat l) = fl (lw l) := by
  unfold lw
  rw [(ahd_none (hat_mem (by decide) (by decide) (by decide) (by decide) h)).1, (ahd_none h).1]
  unfold hat
  rw [wds_wt _ (wds_word l [] (by simp)), if_pos rfl, List.nil_append]
theorem hat_len (l : List UInt8) : (hat l).length ≤ 3 * l.length := by
  unfold hat
  rw [wt_len]
  have h1 := wds_tot l []
  have h2 := wds_len l []
  simp at h1 h2
  omega
end Go.Proofs.YtajfblfkohemeaaDoor.zs
