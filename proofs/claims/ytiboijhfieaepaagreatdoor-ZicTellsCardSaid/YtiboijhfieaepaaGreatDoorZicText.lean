/-
  The text of a table as lines of a source, as plain mathematics; what was written is read as it was. No condition beside those in the statements.
-/
import Derived.Test.YtiboijhfieaepaaGreatDoorZicParse
import Derived.Test.YtiboijhfieaepaaGreatDoorDayDate
import Derived.Lib.ItoaNum
import Derived.Lib.Join
import Derived.Lib.Case
namespace Go.Proofs.YtiboijhfieaepaaGreatDoor.zs
open lx cal stx
open lm (Lp ce Good dy st)
open leap (rl)
set_option linter.unusedVariables false
set_option maxRecDepth 100000

/-! decimals -/
theorem dd_decs : ∀ n : Nat, Lib.decDigits n = decs n := by
  intro n
  induction n using Nat.strongRecOn with
  | _ n ih =>
    by_cases h : n < 10
    · rw [Lib.decDigits_one h]
      unfold decs
      by_cases h0 : n = 0
      · subst h0; rfl
      · rw [if_neg h0, dec_pos h0, show n / 10 = 0 by omega, dec_zero, List.nil_append]
        unfold lx.dgt
        rw [show n % 10 = n by omega]
    · rw [Lib.decDigits, dif_neg h, ih (n / 10) (by omega)]
      unfold decs
      rw [if_neg (by omega), if_neg (by omega), dec_pos (show n ≠ 0 by omega)]
      rfl
def dcm (n : Int) : List UInt8 := decs n.toNat
theorem itoa_dcm {n : Int} (h : 0 ≤ n) : Lib.itoa n = dcm n := by
  unfold Lib.itoa dcm
  rw [if_neg (by omega), dd_decs]
theorem dcm_dg (n : Int) : ∀ c ∈ dcm n, dgB c = true := by
  intro c hc
  unfold dcm decs at hc
  split at hc
  · simp at hc; subst hc; decide
  · exact dec_dg _ c hc
theorem dcm_ne (n : Int) : dcm n ≠ [] := decs_ne _
theorem dcm_nm {n : Int} (h0 : 0 ≤ n) (h : n ≤ 9223372036854775807) : nm (dcm n) = some n := by
  have := nm_decs n.toNat 0 (by omega)
  rw [List.replicate_zero, List.nil_append] at this
  unfold dcm
  rw [this]
  show some ((n.toNat : Nat) : Int) = some n
  rw [Int.toNat_of_nonneg h0]
/-- a word of printable bytes, without '#'. -/
def Pr (x : List UInt8) : Prop := x ≠ [] ∧ ∀ c ∈ x, 36 ≤ c.toNat ∧ c.toNat ≤ 126
theorem pr_byte {c : UInt8} (h : 36 ≤ c.toNat ∧ c.toNat ≤ 126) : blk c = false ∧ c ≠ 10 ∧ c ≠ 13 ∧ c ≠ 35 := by
  refine ⟨blk_false (by omega) (by omega), ?_, ?_, ?_⟩ <;> (rintro rfl; exact absurd h (by decide))
theorem dg_pr {c : UInt8} (h : dgB c = true) : 36 ≤ c.toNat ∧ c.toNat ≤ 126 := by
  unfold dgB at h
  rw [decide_eq_true_eq] at h
  omega
theorem dcm_pr (n : Int) : Pr (dcm n) := ⟨dcm_ne n, fun c hc => dg_pr (dcm_dg n c hc)⟩
theorem pr_word {x : List UInt8} (h : Pr x) : Word x := ⟨h.1, fun c hc => (pr_byte (h.2 c hc)).1⟩

/-! words with tabs between -/
def tabs : List (List UInt8) → List UInt8
  | [] => []
  | [x] => x
  | x :: y :: r => x ++ 9 :: tabs (y :: r)
theorem tabs_tail : ∀ (x : List UInt8) (r : List (List UInt8)), tabs (x :: r) = x ++ Lib.joinTail [9] r
  | x, [] => by simp [tabs, Lib.joinTail]
  | x, y :: r => by
    rw [tabs, tabs_tail y r]
    simp [Lib.joinTail]
theorem join_tabs (x : List UInt8) (r : List (List UInt8)) : Lib.join (x :: r) [9] = tabs (x :: r) := by rw [Lib.join_cons, tabs_tail]
theorem wds_tabs : ∀ (ws : List (List UInt8)), (∀ w ∈ ws, Word w) → wds [] (tabs ws) = ws
  | [], _ => rfl
  | [x], h => by
    have hx := h x (by simp)
    have := wds_plain x hx.2 [] []
    rw [List.append_nil, List.nil_append] at this
    rw [tabs, this, wds_end hx.1]
  | x :: y :: r, h => by
    have hx := h x (by simp)
    rw [tabs, wds_plain x hx.2, List.nil_append, wds_b (by decide) hx.1, wds_tabs (y :: r) (fun w hw => h w (by simp only [List.mem_cons] at hw ⊢; exact .inr hw))]
theorem tabs_mem : ∀ (ws : List (List UInt8)) (c : UInt8), c ∈ tabs ws → c = 9 ∨ ∃ w ∈ ws, c ∈ w
  | [], c, h => by cases h
  | [x], c, h => .inr ⟨x, by simp, h⟩
  | x :: y :: r, c, h => by
    rw [tabs] at h
    simp only [List.mem_append, List.mem_cons] at h
    rcases h with h | rfl | h
    · exact .inr ⟨x, by simp, h⟩
    · exact .inl rfl
    · rcases tabs_mem (y :: r) c h with h | ⟨w, hw, hc⟩
      · exact .inl h
      · exact .inr ⟨w, by simp only [List.mem_cons] at hw ⊢; exact .inr hw, hc⟩
/-- a line that a split leaves as it is. -/
def Fin1 (l : List UInt8) : Prop := (∀ c ∈ l, c ≠ 10) ∧ trim l = l
theorem fin1_of {l : List UInt8} (h : ∀ c ∈ l, c ≠ 10 ∧ c ≠ 13) : Fin1 l := by
  refine ⟨fun c hc => (h c hc).1, trim_keep fun m e => ?_⟩
  exact (h 13 (by rw [e]; simp)).2 rfl
theorem tabs_fin {ws : List (List UInt8)} (h : ∀ w ∈ ws, Pr w) : Fin1 (tabs ws) := fin1_of fun c hc => by
  rcases tabs_mem ws c hc with rfl | ⟨w, hw, hcw⟩
  · decide
  · exact ⟨(pr_byte ((h w hw).2 c hcw)).2.1, (pr_byte ((h w hw).2 c hcw)).2.2.1⟩
theorem lw_tabs {ws : List (List UInt8)} (h : ∀ w ∈ ws, Pr w) : lw (tabs ws) = ws := by
  unfold lw
  rw [(ahd_none (c := 35) (l := tabs ws) (fun c hc => by
    rcases tabs_mem ws c hc with rfl | ⟨w, hw, hcw⟩
    · decide
    · exact (pr_byte ((h w hw).2 c hcw)).2.2.2)).1]
  exact wds_tabs ws fun w hw => pr_word (h w hw)
def byl (ls : List (List UInt8)) : List UInt8 := ls.flatMap (· ++ [10])
theorem byl_app (a b : List (List UInt8)) : byl (a ++ b) = byl a ++ byl b := List.flatMap_append
theorem spl_byl : ∀ (ls : List (List UInt8)), (∀ l ∈ ls, Fin1 l) → ∀ r, spl [] (byl ls ++ r) = ls ++ spl [] r
  | [], _, r => rfl
  | l :: ls, h, r => by
    have hl := h l (by simp)
    have e : byl (l :: ls) = l ++ [10] ++ byl ls := by unfold byl; rw [List.flatMap_cons]
    rw [e, List.append_assoc, List.append_assoc, List.singleton_append, spl_hit hl.1, hl.2, spl_byl ls (fun x hx => h x (by simp [hx])) r]
    rfl
theorem spl_all {ls : List (List UInt8)} (h : ∀ l ∈ ls, Fin1 l) : spl [] (byl ls) = ls := by
  have := spl_byl ls h []
  rw [List.append_nil, spl_end0, List.append_nil] at this
  exact this

/-! a second of a day, and its words -/
open Classical in
noncomputable def dtm (n : Int) : Int × Int × Int := if h : ∃ p : Int × Int × Int, Vld p.1 p.2.1 p.2.2 ∧ cal.num p.1 p.2.1 p.2.2 = n then Classical.choose h else (0, 0, 0)
theorem dtm_spec {n : Int} (h1 : -719162 ≤ n) (h2 : n ≤ 2932896) : Vld (dtm n).1 (dtm n).2.1 (dtm n).2.2 ∧ cal.num (dtm n).1 (dtm n).2.1 (dtm n).2.2 = n := by
  obtain ⟨y, m, d, v, e⟩ := day.exists_date n h1 h2
  have h : ∃ p : Int × Int × Int, Vld p.1 p.2.1 p.2.2 ∧ cal.num p.1 p.2.1 p.2.2 = n := ⟨(y, m, d), v, e⟩
  unfold dtm
  rw [dif_pos h]
  exact Classical.choose_spec h
theorem dtm_is {y m d n : Int} (v : Vld y m d) (e : cal.num y m d = n) : dtm n = (y, m, d) := by
  have hb := num_bd v
  obtain ⟨v', e'⟩ := dtm_spec (n := n) (by omega) (by omega)
  obtain ⟨a, b, c⟩ := num_inj v' v (e'.trans e.symm)
  exact Prod.ext a (Prod.ext b c)
def ckm (k : Int) : Int × Int × Int := if k = 86400 then (23, 59, 60) else (k / 3600, k / 60 % 60, k % 60)
theorem ckm_spec {k : Int} (h1 : 0 ≤ k) (h2 : k ≤ 86400) : Clk (ckm k).1 (ckm k).2.1 (ckm k).2.2 ∧ secN (ckm k).1 (ckm k).2.1 (ckm k).2.2 = k := by
  unfold ckm
  by_cases h : k = 86400
  · subst h
    rw [if_pos rfl]
    exact ⟨Or.inr ⟨rfl, rfl, rfl⟩, rfl⟩
  · rw [if_neg h]
    show Clk (k / 3600) (k / 60 % 60) (k % 60) ∧ secN (k / 3600) (k / 60 % 60) (k % 60) = k
    unfold Clk secN
    omega
/-- a word with a great first letter. -/
def gr (w : List UInt8) : List UInt8 := (w.take 1).map Lib.upperB ++ w.drop 1
def mon3 (m : Int) : List UInt8 := gr ((names.getD (m.toNat - 1) []).take 3)
def clkL (h i x : Int) : List UInt8 := [stx.dgt (h.toNat / 10), stx.dgt h.toNat, 58, stx.dgt (i.toNat / 10), stx.dgt i.toNat, 58, stx.dgt (x.toNat / 10), stx.dgt x.toNat]
theorem sdg (n : Nat) : dgB (stx.dgt n) = true := dgt_dg n
theorem mon3_is (m : Int) (h1 : 1 ≤ m) (h2 : m ≤ 12) : mon (mon3 m) = m ∧ Pr (mon3 m) := by
  rcases twelve h1 h2 with rfl | rfl | rfl | rfl | rfl | rfl | rfl | rfl | rfl | rfl | rfl | rfl <;> exact ⟨by decide +kernel, by decide +kernel, by decide +kernel⟩
theorem nm_two (n : Int) (h0 : 0 ≤ n) (h1 : n ≤ 99) : cpt [stx.dgt (n.toNat / 10), stx.dgt n.toNat] = some n := by
  obtain ⟨k, rfl⟩ : ∃ k : Nat, n = k := ⟨n.toNat, by omega⟩
  have e1 := stx.dgt_nat (k / 10)
  have e2 := stx.dgt_nat k
  unfold cpt
  rw [if_neg (by simp)]
  unfold nm
  rw [if_neg (by simp), Int.toNat_natCast, nmb_yes (sdg _) (by rw [e1]; omega), nmb_yes (sdg _) (by rw [e1, e2]; omega), nmb_nil, e1, e2]
  congr 1
  omega
theorem clkL_parts (h i x : Int) : c1 (clkL h i x) = [stx.dgt (h.toNat / 10), stx.dgt h.toNat] ∧ c2 (clkL h i x) = [stx.dgt (i.toNat / 10), stx.dgt i.toNat] ∧ c3 (clkL h i x) = [stx.dgt (x.toNat / 10), stx.dgt x.toNat] := by
  have no : ∀ n : Nat, ∀ y ∈ [stx.dgt (n / 10), stx.dgt n], y ≠ 58 := by
    intro n y hy k
    subst k
    simp only [List.mem_cons, List.not_mem_nil, or_false] at hy
    rcases hy with hy | hy
    · have := sdg (n / 10); rw [← hy] at this; exact absurd this (by decide)
    · have := sdg n; rw [← hy] at this; exact absurd this (by decide)
  obtain ⟨a1, a2⟩ := ahd_some (c := 58) (no h.toNat) ([stx.dgt (i.toNat / 10), stx.dgt i.toNat] ++ 58 :: [stx.dgt (x.toNat / 10), stx.dgt x.toNat])
  obtain ⟨b1, b2⟩ := ahd_some (c := 58) (no i.toNat) [stx.dgt (x.toNat / 10), stx.dgt x.toNat]
  have e : clkL h i x = [stx.dgt (h.toNat / 10), stx.dgt h.toNat] ++ 58 :: ([stx.dgt (i.toNat / 10), stx.dgt i.toNat] ++ 58 :: [stx.dgt (x.toNat / 10), stx.dgt x.toNat]) := rfl
  unfold c1 c2 c3
  rw [e, a1, a2, b1, b2]
  exact ⟨rfl, rfl, rfl⟩
theorem clkL_is {h i x : Int} (c : Clk h i x) : clkT (clkL h i x) = true ∧ clkI (clkL h i x) = secN h i x := by
  obtain ⟨p1, p2, p3⟩ := clkL_parts h i x
  have hb := clk_bd c
  have q1 := nm_two h (by omega) (by omega)
  have q2 := nm_two i (by omega) (by omega)
  have q3 := nm_two x (by omega) (by omega)
  have t : clkT (clkL h i x) = true := by
    unfold clkT cpT cpI
    rw [p1, p2, p3, q1, q2, q3]
    simp only [Option.isSome_some, Option.getD_some, Bool.true_and]
    exact (clkB_iff _ _ _).2 c
  refine ⟨t, ?_⟩
  unfold clkI
  rw [if_pos t]
  unfold cpI
  rw [p1, p2, p3, q1, q2, q3]
  rfl
theorem clkL_pr (h i x : Int) : Pr (clkL h i x) := by
  refine ⟨by simp [clkL], fun c hc => ?_⟩
  unfold clkL at hc
  simp only [List.mem_cons, List.not_mem_nil, or_false] at hc
  rcases hc with rfl | rfl | rfl | rfl | rfl | rfl | rfl | rfl <;> first | exact dg_pr (sdg _) | decide
/-- the words of a line: its first word, a second of a day, and what else it says. -/
def lnW (f : List UInt8) (p q : Int × Int × Int) (more : List (List UInt8)) : List (List UInt8) := [gr f, dcm p.1, mon3 p.2.1, dcm p.2.2, clkL q.1 q.2.1 q.2.2] ++ more
noncomputable def wLeap (lv : List Lp) (i : Nat) : List (List UInt8) := lnW leapL (dtm (dy lv i)) (ckm (if st lv i = -1 then 86399 else 86400)) [if st lv i = -1 then [45] else [43], if rl lv i = true then [82] else [83]]
noncomputable def wExp (x : Int) : List (List UInt8) := lnW expL (dtm (x / 86400)) (ckm (x % 86400)) []
noncomputable def wls (lv : List Lp) (k : Nat) : List (List (List UInt8)) := (List.range k).map (wLeap lv)
noncomputable def full (lv : List Lp) (has : Bool) (x : Int) : List (List (List UInt8)) := wls lv lv.length ++ (if has = true then [wExp x] else [])
theorem wls_succ (lv : List Lp) (k : Nat) : wls lv (k + 1) = wls lv k ++ [wLeap lv k] := by
  unfold wls
  rw [List.range_succ, List.map_append]
  rfl
theorem lnW_pr {f : List UInt8} {p q : Int × Int × Int} {more : List (List UInt8)} (hf : Pr (gr f)) (hp : 1 ≤ p.2.1 ∧ p.2.1 ≤ 12) (hm : ∀ w ∈ more, Pr w) : ∀ w ∈ lnW f p q more, Pr w := by
  intro w hw
  unfold lnW at hw
  simp only [List.mem_append, List.mem_cons, List.not_mem_nil, or_false] at hw
  rcases hw with (rfl | rfl | rfl | rfl | rfl) | hw
  · exact hf
  · exact dcm_pr _
  · exact (mon3_is _ hp.1 hp.2).2
  · exact dcm_pr _
  · exact clkL_pr _ _ _
  · exact hm w hw
theorem gr_leap : Pr (gr leapL) ∧ (gr leapL).map fld = leapL := ⟨⟨by decide, by decide +kernel⟩, by decide +kernel⟩
theorem gr_exp : Pr (gr expL) ∧ (gr expL).map fld = expL := ⟨⟨by decide, by decide +kernel⟩, by decide +kernel⟩
/-- what is read of a second of a day that was written. -/
theorem mo_lnW {f : List UInt8} {p q : Int × Int × Int} {more : List (List UInt8)} {n k : Int} (v : Vld p.1 p.2.1 p.2.2) (hn : cal.num p.1 p.2.1 p.2.2 = n) (c : Clk q.1 q.2.1 q.2.2) (hk : secN q.1 q.2.1 q.2.2 = k) :
    moT (mo (lnW f p q more)) = true ∧ moD (mo (lnW f p q more)) = true ∧ moN (mo (lnW f p q more)) = n ∧ moS (mo (lnW f p q more)) = k := by
  have e : mo (lnW f p q more) = [dcm p.1, mon3 p.2.1, dcm p.2.2, clkL q.1 q.2.1 q.2.2] := rfl
  have y0 := dcm_nm (n := p.1) (by have := v.1; omega) (by have := v.2.1; omega)
  have dm := dim_bd p.1 p.2.1
  have d0 := dcm_nm (n := p.2.2) (by have := v.2.2.2.2.1; omega) (by have := v.2.2.2.2.2; omega)
  have m0 := (mon3_is p.2.1 v.2.2.1 v.2.2.2.1).1
  obtain ⟨k1, k2⟩ := clkL_is c
  have g0 : g (mo (lnW f p q more)) 0 = dcm p.1 := rfl
  have g1 : g (mo (lnW f p q more)) 1 = mon3 p.2.1 := rfl
  have g2 : g (mo (lnW f p q more)) 2 = dcm p.2.2 := rfl
  have g3 : g (mo (lnW f p q more)) 3 = clkL q.1 q.2.1 q.2.2 := rfl
  have a0 : nmI (dcm p.1) = p.1 := by unfold nmI; rw [y0]; rfl
  have a2 : nmI (dcm p.2.2) = p.2.2 := by unfold nmI; rw [d0]; rfl
  have hD : moD (mo (lnW f p q more)) = true := by
    unfold moD
    rw [g0, g1, g2, a0, a2, m0]
    exact (vldB_iff _ _ _).2 v
  refine ⟨?_, hD, ?_, ?_⟩
  · unfold moT nmT
    rw [g0, g1, g2, g3, y0, d0, m0, k1]
    have := v.2.2.1
    simp
    omega
  · unfold moN
    rw [if_pos hD, g0, g1, g2, a0, a2, m0]
    exact hn
  · unfold moS
    rw [g3, k2, hk]
theorem kd_leap (p q : Int × Int × Int) (a b : List UInt8) : kd (lnW leapL p q [a, b]) = 1 := by
  unfold kd
  rw [if_neg (by simp [lnW]), if_pos ⟨gr_leap.2, rfl⟩]
theorem kd_exp (p q : Int × Int × Int) : kd (lnW expL p q []) = 2 := by
  unfold kd
  rw [if_neg (by simp [lnW]), if_neg (fun h => absurd h.2 (by simp [lnW])), if_pos ⟨gr_exp.2, rfl⟩]

theorem dy_take (lv : List Lp) {n i : Nat} (h : i < n) : (lv.take n).getD i lm.z3 = lv.getD i lm.z3 := by
  rw [List.getD_eq_getElem?_getD, List.getD_eq_getElem?_getD, List.getElem?_take, if_pos h]
theorem good_take {lv : List Lp} (h : lm.Good lv) (n : Nat) : lm.Good (lv.take n) := by
  intro i hi
  rw [List.length_take] at hi
  have := h i (by omega)
  unfold lm.wr dy st at *
  rw [dy_take lv (by omega)]
  by_cases h0 : 0 < i
  · rw [dy_take lv (show i - 1 < n by omega)]
    exact this
  · simpa [h0] using this
theorem ce_good {lv : List Lp} (h : lm.Good lv) : ce lv false 0 = 0 := by rw [(lm.ce_end h).2]; rfl
theorem take_snoc (lv : List Lp) {k : Nat} (h : k < lv.length) : lv.take k ++ [(dy lv k, st lv k, rl lv k)] = lv.take (k + 1) := by
  rw [List.take_succ_eq_append_getElem h]
  congr 2
  unfold dy st leap.rl
  rw [List.getD_eq_getElem?_getD, List.getElem?_eq_getElem h]
  rfl
theorem leap_line {lv : List Lp} (hg : lm.Good lv) {k : Nat} (hk : k < lv.length) (s : S) : lfT (wLeap lv k) = true ∧ lpO (wLeap lv k) = (dy lv k, st lv k, rl lv k) ∧ lE (wLeap lv k) s = ce (s.lv ++ [(dy lv k, st lv k, rl lv k)]) false 0 := by
  have hd := hg.day hk
  have hst := hg.step hk
  obtain ⟨v, hn⟩ := dtm_spec (n := dy lv k) (by omega) (by omega)
  have hk2 : 0 ≤ (if st lv k = -1 then (86399 : Int) else 86400) ∧ (if st lv k = -1 then (86399 : Int) else 86400) ≤ 86400 := by split <;> omega
  obtain ⟨c, hc⟩ := ckm_spec hk2.1 hk2.2
  obtain ⟨o1, o2, o3, o4⟩ := mo_lnW (f := leapL) (more := [if st lv k = -1 then [45] else [43], if rl lv k = true then [82] else [83]]) v hn c hc
  have g5 : g (wLeap lv k) 5 = if st lv k = -1 then [45] else [43] := rfl
  have g6 : g (wLeap lv k) 6 = if rl lv k = true then [82] else [83] := rfl
  have rT : rkT (g (wLeap lv k) 6) = true := by rw [g6]; split <;> decide
  have rR : rkR (g (wLeap lv k) 6) = rl lv k := by rw [g6]; cases rl lv k <;> decide
  have sT : sgT (wLeap lv k) = true := by unfold sgT; rw [g5]; split <;> decide
  have sN : sgn (wLeap lv k) = st lv k := by
    unfold sgn
    rw [g5]
    rcases hst with e | e <;> rw [e] <;> decide
  have hl : lfT (wLeap lv k) = true := by
    unfold lfT
    rw [rT, sT]
    show (moT (mo (wLeap lv k)) && (true && true)) = true
    rw [show moT (mo (wLeap lv k)) = true from o1]
    rfl
  have hp : lpO (wLeap lv k) = (dy lv k, st lv k, rl lv k) := by
    unfold lpO
    rw [sN, rR, show moN (mo (wLeap lv k)) = dy lv k from o3]
  refine ⟨hl, hp, ?_⟩
  unfold lE
  rw [hl, if_neg (by decide), show moD (mo (wLeap lv k)) = true from o2, if_neg (by decide), sN, show moS (mo (wLeap lv k)) = _ from o4, if_neg (fun h => h rfl), hp]
theorem run_wls {lv : List Lp} (hg : lm.Good lv) : ∀ k, k ≤ lv.length → run (wls lv k) 0 S0 = ((0, 0), ⟨lv.take k, 0, 0⟩)
  | 0, _ => rfl
  | k + 1, hk => by
    have ih := run_wls hg k (by omega)
    obtain ⟨h1, h2, h3⟩ := leap_line hg (show k < lv.length by omega) ⟨lv.take k, 0, 0⟩
    have hkd : kd (wLeap lv k) = 1 := kd_leap _ _ _ _
    have hE : stE (wLeap lv k) ⟨lv.take k, 0, 0⟩ = 0 := by
      unfold stE
      rw [hkd, if_neg (by decide), if_pos rfl, h3]
      show ce (lv.take k ++ _) false 0 = 0
      rw [take_snoc lv (by omega), ce_good (good_take hg _)]
    rw [wls_succ, run_snoc ih hE]
    unfold stS
    rw [hkd, h2]
    show ((0, 0), (⟨lv.take k ++ [(dy lv k, st lv k, rl lv k)], 0, 0⟩ : S)) = _
    rw [take_snoc lv (by omega)]
theorem x_bd {lv : List Lp} {has : Bool} {x : Int} (h : ce lv has x = 0) : if has = true then 63072000 ≤ x ∧ x ≤ 253402300799 else x = 0 := by
  have hg := lm.good_of h
  have hx := (lm.ce_ok.1 h).2
  unfold lm.xp at hx
  cases has with
  | false =>
    simp at hx ⊢
    exact hx
  | true =>
    simp only [if_true] at hx ⊢
    have hl : 63072000 ≤ lm.lst lv := by
      unfold lm.lst
      split
      · omega
      · rename_i hn
        have := hg.day (i := lv.length - 1) (by omega)
        omega
    split at hx
    · omega
    · omega
theorem parse_full {lv : List Lp} {has : Bool} {x : Int} (h : ce lv has x = 0) : parse (full lv has x) = ⟨0, 0, lv, has, x⟩ := by
  have hg := lm.good_of h
  have hx := x_bd h
  have r := run_wls hg lv.length (Nat.le_refl _)
  rw [List.take_length] at r
  cases has with
  | false =>
    simp at hx
    subst hx
    have e : full lv false 0 = wls lv lv.length := by unfold full; simp
    rw [e, run_fin r]
    rfl
  | true =>
    simp only [if_true] at hx
    have e : full lv true x = wls lv lv.length ++ [wExp x] := rfl
    obtain ⟨v, hn⟩ := dtm_spec (n := x / 86400) (by omega) (by omega)
    obtain ⟨c, hc⟩ := ckm_spec (k := x % 86400) (by omega) (by omega)
    obtain ⟨o1, o2, o3, o4⟩ := mo_lnW (f := expL) (more := []) v hn c hc
    have hkd : kd (wExp x) = 2 := kd_exp _ _
    have hE : stE (wExp x) ⟨lv, 0, 0⟩ = 0 := by
      unfold stE
      rw [hkd, if_neg (by decide), if_neg (by decide), if_pos rfl]
      unfold xE
      rw [show moT (mo (wExp x)) = true from o1, show moD (mo (wExp x)) = true from o2, show moS (mo (wExp x)) = x % 86400 from o4, if_neg (by simp), if_neg (by simp; omega)]
    rw [e, run_fin (run_snoc r hE)]
    unfold stS
    rw [hkd, show moN (mo (wExp x)) = x / 86400 from o3, show moS (mo (wExp x)) = x % 86400 from o4]
    unfold fin
    simp only [show ¬ (2 = 1) by decide, if_false, if_true]
    rw [if_neg (by omega), show x / 86400 * 86400 + x % 86400 = x by omega, if_pos h]
theorem full_pr {lv : List Lp} {has : Bool} {x : Int} (h : ce lv has x = 0) : ∀ ws ∈ full lv has x, ∀ w ∈ ws, Pr w := by
  intro ws hws
  have hg := lm.good_of h
  have hx := x_bd h
  unfold full at hws
  rcases List.mem_append.1 hws with hw | hw
  · obtain ⟨i, hi, rfl⟩ := List.mem_map.1 hw
    rw [List.mem_range] at hi
    have hd := hg.day hi
    obtain ⟨v, hn⟩ := dtm_spec (n := dy lv i) (by omega) (by omega)
    refine lnW_pr gr_leap.1 ⟨v.2.2.1, v.2.2.2.1⟩ (fun w hw => ?_)
    simp only [List.mem_cons, List.not_mem_nil, or_false] at hw
    rcases hw with rfl | rfl <;> (split <;> exact ⟨by decide, by decide⟩)
  · cases has with
    | false => simp at hw
    | true =>
      simp only [if_true, List.mem_singleton] at hw
      subst hw
      simp only [if_true] at hx
      obtain ⟨v, hn⟩ := dtm_spec (n := x / 86400) (by omega) (by omega)
      exact lnW_pr gr_exp.1 ⟨v.2.2.1, v.2.2.2.1⟩ (fun w hw => by cases hw)
/-- the bytes of lines of words. -/
def txw (ws : List (List (List UInt8))) : List UInt8 := byl (ws.map tabs)
theorem wl_txw {ws : List (List (List UInt8))} (h : ∀ w ∈ ws, ∀ x ∈ w, Pr x) : (splitS (B (txw ws))).map zic.wl = ws := by
  unfold splitS txw
  rw [L_B, spl_all (fun l hl => by
    obtain ⟨w, hw, rfl⟩ := List.mem_map.1 hl
    exact tabs_fin (h w hw)), List.map_map, List.map_map]
  conv => rhs; rw [← List.map_id ws]
  refine List.map_congr_left fun w hw => ?_
  show lw (L (B (tabs w))) = w
  rw [L_B]
  exact lw_tabs (h w hw)
end Go.Proofs.YtiboijhfieaepaaGreatDoor.zs
