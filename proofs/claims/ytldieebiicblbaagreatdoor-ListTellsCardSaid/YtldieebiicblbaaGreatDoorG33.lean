/-
  What the document's own Parse of layer 10 leaves, and what stands at the head of a line; places of kinds. No condition of its own.
-/
import Derived.Test.YtldieebiicblbaaGreatDoorG30
import Derived.Test.YtldieebiicblbaaGreatDoorG32
import Derived.Test.YtldieebiicblbaaGreatDoorG21
namespace Go.Proofs.YtldieebiicblbaaGreatDoor.ref10
open Go.ChangeShapes Go.WideShapes Go.ChangeAt Go.RowKit
open lx ls mem
open lm (Lp ce)
open leap (tcs Lps szT tcs_one tcs_cells)
open list (fcs fcs_one szF end_two run_snoc run_bad run_fin)
set_option linter.unusedVariables false
set_option maxRecDepth 100000

/-! places -/
/-- the place, from 1 on, of the first line of a kind; 0: none. -/
def fdp (kind : Nat) (l : List (List UInt8)) : Nat := if fd kind l < l.length then fd kind l + 1 else 0
theorem fd_snoc (kind : Nat) (y : List UInt8) : ∀ l : List (List UInt8), fd kind (l ++ [y]) = if fd kind l < l.length then fd kind l else if kd y = kind then l.length else l.length + 1
  | [] => by
    rw [List.nil_append, fd]
    simp [fd]
  | x :: r => by
    have ih := fd_snoc kind y r
    have le := fd_le kind r
    rw [List.cons_append, fd, fd, List.length_cons, ih]
    (repeat' split) <;> omega
theorem fdp_snoc (kind : Nat) (y : List UInt8) (l : List (List UInt8)) : fdp kind (l ++ [y]) = if fdp kind l ≠ 0 then fdp kind l else if kd y = kind then l.length + 1 else 0 := by
  have le := fd_le kind l
  unfold fdp
  rw [fd_snoc, List.length_append, List.length_singleton]
  (repeat' split) <;> omega
theorem fd_take (kind : Nat) : ∀ (l : List (List UInt8)) (k : Nat), k ≤ l.length → fd kind (l.take k) = if fd kind l < k then fd kind l else k
  | l, 0, _ => by simp [fd]
  | [], k + 1, h => by simp at h
  | x :: r, k + 1, h => by
    have ih := fd_take kind r k (by simpa using h)
    rw [List.take_succ_cons, fd, fd, ih]
    (repeat' split) <;> omega
theorem fd_lt_of (kind : Nat) : ∀ (l : List (List UInt8)) (k : Nat), k < l.length → kd (l.getD k []) = kind → fd kind l ≤ k
  | [], k, h, _ => by simp at h
  | x :: r, k, h, e => by
    rw [fd]
    split
    · omega
    · rename_i g
      match k, h, e with
      | 0, _, e => exact absurd e g
      | k + 1, h, e => have := fd_lt_of kind r k (by simpa using h) e; omega
/-- what find tells of a line of that kind. -/
theorem find_here {kind : Nat} {l : List (List UInt8)} {k : Nat} (h : k < l.length) (e : kd (l.getD k []) = kind) : (fdp kind (l.take k) = 0 → fdI kind l = (k : Nat)) ∧ (fdp kind (l.take k) ≠ 0 → fdI kind l ≠ (k : Nat)) := by
  have h1 := fd_lt_of kind l k h e
  have h2 := fd_take kind l k (by omega)
  have h3 : (l.take k).length = k := by rw [List.length_take]; omega
  have hf : fdI kind l = ((fd kind l : Nat) : Int) := by unfold fdI; rw [if_pos (by omega)]
  unfold fdp
  rw [h2, h3, hf]
  constructor
  · intro q
    (repeat' split at q) <;> omega
  · intro q
    (repeat' split at q) <;> omega
theorem find_all (kind : Nat) (l : List (List UInt8)) : fdI kind l = if fdp kind l = 0 then -1 else (fdp kind l : Int) - 1 := by
  unfold fdI fdp
  (repeat' split) <;> omega
theorem fdp_line {kind : Nat} {l : List (List UInt8)} (h : fdp kind l ≠ 0) : fdp kind l - 1 < l.length := by
  unfold fdp at h ⊢
  by_cases g : fd kind l < l.length
  · rw [if_pos g]; omega
  · rw [if_neg g] at h; exact absurd rfl h

/-- what a reading tells of the lines that it has read. -/
structure Pinv (l : List (List UInt8)) (s : S) : Prop where
  p : ∀ i, i = 1 ∨ i = 2 ∨ i = 3 ∨ i = 5 → s.p i = fdp i l
  ex : s.p 2 ≠ 0 → s.ex = g1 (l.getD (s.p 2 - 1) []) - 2208988800 ∧ kd (l.getD (s.p 2 - 1) []) = 2 ∧ ok (l.getD (s.p 2 - 1) []) = true
  h : s.p 3 ≠ 0 → s.h = nx.hN (B ((l.getD (s.p 3 - 1) []).drop 2)) ∧ kd (l.getD (s.p 3 - 1) []) = 3
theorem pinv_zero : Pinv [] S0 := ⟨fun i _ => rfl, fun h => absurd rfl h, fun h => absurd rfl h⟩
theorem getD_old {l : List (List UInt8)} {y : List UInt8} {k : Nat} (h : k < l.length) : (l ++ [y]).getD k [] = l.getD k [] := by rw [getD_snoc, if_pos h]
theorem getD_new {l : List (List UInt8)} {y : List UInt8} : (l ++ [y]).getD l.length [] = y := by rw [getD_snoc, if_neg (Nat.lt_irrefl _), if_pos rfl]
theorem stE_ok {y : List UInt8} {s : S} (h : stE y s = 0) (hk : kd y = 1 ∨ kd y = 2 ∨ kd y = 3) : s.p (kd y) = 0 ∧ ok y = true := by
  unfold stE at h
  rw [if_neg (by omega), if_neg (by omega)] at h
  by_cases g : s.p (kd y) = 0 ∧ ok y = true
  · exact g
  · rw [if_neg g] at h; cases h
theorem stS_p (y : List UInt8) (a i : Nat) (s : S) (hi : i = 1 ∨ i = 2 ∨ i = 3 ∨ i = 5) : (stS y a s).p i = if i = kd y ∧ s.p i = 0 then a else s.p i := by
  have e : (stS y a s).p i = (if kd y = 0 ∨ kd y = 4 then s.p else put s.p (kd y) a) i := rfl
  rw [e]
  by_cases h : kd y = 0 ∨ kd y = 4
  · rw [if_pos h, if_neg (fun k => by have := k.1; omega)]
  · rw [if_neg h]
    unfold put
    by_cases g : i = kd y
    · subst g; rfl
    · have n1 : ¬ (i = kd y ∧ s.p (kd y) = 0) := fun k => g k.1
      have n2 : ¬ (i = kd y ∧ s.p i = 0) := fun k => g k.1
      rw [if_neg n1, if_neg n2]
theorem pinv_step {l : List (List UInt8)} {y : List UInt8} {s : S} (h : Pinv l s) (e : stE y s = 0) : Pinv (l ++ [y]) (stS y (l.length + 1) s) := by
  have lt : ∀ i, (i = 1 ∨ i = 2 ∨ i = 3 ∨ i = 5) → s.p i ≠ 0 → s.p i - 1 < l.length := fun i hi hp => by
    rw [h.p i hi] at hp ⊢
    exact fdp_line hp
  have at' : ∀ i, (i = 1 ∨ i = 2 ∨ i = 3) → ((stS y (l.length + 1) s).p i = l.length + 1 ∧ kd y = i ∧ ok y = true) ∨ ((stS y (l.length + 1) s).p i = s.p i ∧ kd y ≠ i) := fun i hi => by
    by_cases q : kd y = i
    · obtain ⟨z, o⟩ := stE_ok e (by omega)
      rw [q] at z
      exact .inl ⟨(stS_p y _ i s (by omega)).trans (if_pos ⟨q.symm, z⟩), q, o⟩
    · exact .inr ⟨(stS_p y _ i s (by omega)).trans (if_neg fun k => q k.1.symm), q⟩
  refine ⟨fun i hi => ?_, fun h2 => ?_, fun h3 => ?_⟩
  · rw [stS_p y _ i s hi, fdp_snoc, h.p i hi]
    (repeat' split) <;> omega
  · have ex : (stS y (l.length + 1) s).ex = if kd y = 2 then g1 y - 2208988800 else s.ex := rfl
    rw [ex]
    rcases at' 2 (by omega) with ⟨z, q, o⟩ | ⟨z, q⟩
    · rw [z, if_pos q, Nat.add_sub_cancel, getD_new]
      exact ⟨rfl, q, o⟩
    · rw [z] at h2 ⊢
      rw [if_neg q, getD_old (lt 2 (by omega) h2)]
      exact h.ex h2
  · have ex : (stS y (l.length + 1) s).h = if kd y = 3 then nx.hN (B (y.drop 2)) else s.h := rfl
    rw [ex]
    rcases at' 3 (by omega) with ⟨z, q, o⟩ | ⟨z, q⟩
    · rw [z, if_pos q, Nat.add_sub_cancel, getD_new]
      exact ⟨rfl, q⟩
    · rw [z] at h3 ⊢
      rw [if_neg q, getD_old (lt 3 (by omega) h3)]
      exact h.h h3

/-! memory -/
def QTold (o : Out) (w : World) (e : Ending) (w' : World) : Prop :=
  ∃ A c, e = .returned (.tuple #[.agg (tcs A o.lv.length c o.has o.x), .agg (fcs o.line o.code)]) ∧ Lps w' A o.lv ∧ Below w.heap.size w w'
def offs (s : S) : Int := if s.p 5 = 0 then -1 else s.ct
/-- at the head of a line. -/
def QHead (ls : List (List UInt8)) (W1 : World) (a i : Value) (W : World) : Prop :=
  ∃ (k : Nat) (s : S) (A : Option Addr) (c : Nat), a = .int .i64 (offs s) ∧ i = .int .i64 (k : Nat) ∧ k ≤ ls.length ∧ run (ls.take k) 0 S0 = ((0, 0), s) ∧ Pinv (ls.take k) s ∧
    W.heap[W1.heap.size]? = some (.cells (tcs A s.lv.length c false 0) 24 (0, 0)) ∧ Lps W A s.lv ∧ Below W1.heap.size W1 W
theorem qnext {ls : List (List UInt8)} {W1 W' : World} {k : Nat} {s s' : S} {A : Option Addr} {c : Nat} (hlt : k < ls.length) (hr : run (ls.take k) 0 S0 = ((0, 0), s)) (hp : Pinv (ls.take k) s) (he : stE (ls.getD k []) s = 0) (hs : stS (ls.getD k []) (k + 1) s = s')
    (ht : W'.heap[W1.heap.size]? = some (.cells (tcs A s'.lv.length c false 0) 24 (0, 0))) (hl : Lps W' A s'.lv) (hb : Below W1.heap.size W1 W') : QHead ls W1 (.int .i64 (offs s')) (.int .i64 ((k : Int) + 1)) W' := by
  have hk : (ls.take k).length = k := by rw [List.length_take]; omega
  have h := run_snoc hr he
  have g := pinv_step hp he
  rw [hk, hs] at h g
  rw [← take_D hlt] at h g
  exact ⟨k + 1, s', A, c, rfl, rfl, hlt, h, g, ht, hl, hb⟩
theorem pbad {ls : List (List UInt8)} {k : Nat} {s : S} (hlt : k < ls.length) (hr : run (ls.take k) 0 S0 = ((0, 0), s)) (he : stE (ls.getD k []) s ≠ 0) : parse ls = bad (k + 1) (stE (ls.getD k []) s) := by
  have h := run_bad (r := ls.drop (k + 1)) hr he
  have hk : (ls.take k).length = k := by rw [List.length_take]; omega
  rw [hk] at h
  rw [← h]
  congr 1
  rw [List.getD_eq_getElem?_getD, List.getElem?_eq_getElem hlt]
  show ls = ls.take k ++ ls[k] :: ls.drop (k + 1)
  rw [List.getElem_cons_drop]
  exact (List.take_append_drop k ls).symm
theorem lps_flt {W : World} {A : Option Addr} {l : List Lp} {g : Nat} {a b : Value} {cs : Array Value} (h : Lps W A l) (hg : W.heap[g]? = some (.cells #[a, b] 29 (0, 0))) : Lps (W.setRow g cs) A l := by
  intro hl
  obtain ⟨b', o, e, hlt, hc⟩ := h hl
  have hne : b' ≠ g := by
    intro k
    subst k
    obtain ⟨c0, c1, c2⟩ := hc 0 (by omega)
    rw [Nat.zero_mul, Nat.add_zero] at c2
    rw [row_cell hg] at c2
    match o, c2 with
    | 0, c2 => simp at c2
    | o + 1, c2 => simp at c2
  have hb : (W.setRow g cs).heap[b']? = W.heap[b']? := setRow_other _ _ _ _ hne
  refine ⟨b', o, e, by simpa using hlt, fun k hk => ?_⟩
  obtain ⟨c0, c1, c2⟩ := hc k hk
  exact ⟨(World.cell?_of_block (a := ⟨b', _, none⟩) hb).trans c0, (World.cell?_of_block (a := ⟨b', _, none⟩) hb).trans c1, (World.cell?_of_block (a := ⟨b', _, none⟩) hb).trans c2⟩
/-- the two results, as they lie. -/
structure QZ (w W : World) : Prop where
  z0 : W.heap[w.heap.size]? = some (.cells (tcs none 0 0 false 0) 24 (0, 0))
  z1 : W.heap[w.heap.size + 1]? = some (.cells (fcs 0 0) 29 (0, 0))
  bel : Below w.heap.size w W
theorem QZ.below {w W W' : World} (h : QZ w W) (hb : Below W.heap.size W W') : QZ w W' := ⟨kept h.z0 hb, kept h.z1 hb, btr h.bel hb⟩
theorem QZ.fl {w W : World} (h : QZ w W) (t : Array Value) : (W.setRow w.heap.size t).heap[w.heap.size + 1]? = some (.cells (fcs 0 0) 29 (0, 0)) := by
  rw [setRow_other _ _ _ _ (by omega)]; exact h.z1
theorem qbad {w W : World} (h : QZ w W) (n : Nat) (e : Int) (t f : Array Value) : QTold (bad n e) w (.returned (.tuple #[.agg (tcs none 0 0 false 0), .agg (fcs n e)])) ((W.setRow w.heap.size t).setRow (w.heap.size + 1) f) :=
  ⟨none, 0, rfl, fun k => absurd rfl k, bel_setRow (bel_setRow h.bel (Nat.le_refl _) _) (by omega) _⟩
theorem qgood {w W : World} (h : QZ w W) {l : List Lp} {A : Option Addr} {c : Nat} {has : Bool} {x : Int} (hl : Lps W A l) (t f : Array Value) : QTold ⟨0, 0, l, has, x⟩ w (.returned (.tuple #[.agg (tcs A l.length c has x), .agg (fcs 0 0)])) ((W.setRow w.heap.size t).setRow (w.heap.size + 1) f) :=
  ⟨A, c, rfl, lps_flt (lps_row hl h.z0) (h.fl _), bel_setRow (bel_setRow h.bel (Nat.le_refl _) _) (by omega) _⟩
/-! what a line does -/
theorem offs_at {y : List UInt8} {s : S} {a : Nat} : offs (stS y a s) = if (stS y a s).p 5 = 0 then -1 else if kd y = 5 then g2 y else s.ct := rfl
theorem lv_at {y : List UInt8} {s : S} {a : Nat} : (stS y a s).lv = if kd y = 5 ∧ s.p 5 ≠ 0 then s.lv ++ [lp (g1 y) (g2 y - s.ct)] else s.lv := rfl
theorem line_skip {y : List UInt8} (h : kd y = 0 ∨ kd y = 4) (a : Nat) (s : S) : stE y s = 0 ∧ stS y a s = s := by
  refine ⟨by unfold stE; rw [if_pos h], ?_⟩
  have n5 : ¬ (kd y = 5 ∧ s.p 5 ≠ 0) := fun k => by have := k.1; omega
  unfold stS
  rw [if_pos h, if_neg n5, if_neg (show ¬ kd y = 5 by omega), if_neg (show ¬ kd y = 2 by omega), if_neg (show ¬ kd y = 3 by omega)]
theorem line_bad {y : List UInt8} (h : ok y = false) (s : S) : stE y s = 2 := by
  have hk : ¬ (kd y = 0 ∨ kd y = 4) := fun k => by unfold ok at h; rw [if_pos k] at h; cases h
  have n : ¬ (s.p (kd y) = 0 ∧ ok y = true) := fun k => by rw [h] at k; exact absurd k.2 (by decide)
  unfold stE dE
  rw [if_neg hk, if_pos h, if_neg n]
  split <;> rfl
theorem line_twice {y : List UInt8} (hk : kd y = 1 ∨ kd y = 2 ∨ kd y = 3) {s : S} (h : s.p (kd y) ≠ 0) : stE y s = 2 := by
  have n : ¬ (s.p (kd y) = 0 ∧ ok y = true) := fun k => h k.1
  unfold stE
  rw [if_neg (show ¬ (kd y = 0 ∨ kd y = 4) by omega), if_neg (show ¬ kd y = 5 by omega), if_neg n]
theorem line_mark {y : List UInt8} (hk : kd y = 1 ∨ kd y = 2 ∨ kd y = 3) {s : S} (h : s.p (kd y) = 0) (ho : ok y = true) (a : Nat) : stE y s = 0 ∧ (stS y a s).lv = s.lv ∧ offs (stS y a s) = offs s := by
  have n5 : ¬ (kd y = 5 ∧ s.p 5 ≠ 0) := fun k => by have := k.1; omega
  refine ⟨?_, ?_, ?_⟩
  · unfold stE; rw [if_neg (show ¬ (kd y = 0 ∨ kd y = 4) by omega), if_neg (show ¬ kd y = 5 by omega), if_pos ⟨h, ho⟩]
  · rw [lv_at, if_neg n5]
  · rw [offs_at, stS_p y a 5 s (by omega), if_neg (show ¬ (5 = kd y ∧ s.p 5 = 0) from fun k => by have := k.1; omega), if_neg (show ¬ kd y = 5 by omega)]
    rfl
theorem line_first {y : List UInt8} (hk : kd y = 5) {s : S} (h : s.p 5 = 0) (ho : ok y = true) (a : Nat) (ha : a ≠ 0) : stE y s = (if g1 y ≠ 2272060800 ∨ g2 y ≠ 10 then 9 else 0) ∧ (stS y a s).lv = s.lv ∧ offs (stS y a s) = g2 y := by
  have n5 : ¬ (kd y = 5 ∧ s.p 5 ≠ 0) := fun k => k.2 h
  refine ⟨?_, ?_, ?_⟩
  · unfold stE dE
    rw [if_neg (show ¬ (kd y = 0 ∨ kd y = 4) by omega), if_pos hk, if_neg (show ¬ ok y = false by rw [ho]; decide), if_neg (show ¬ s.p 5 ≠ 0 from fun k => k h)]
  · rw [lv_at, if_neg n5]
  · rw [offs_at, stS_p y a 5 s (by omega), if_pos (show 5 = kd y ∧ s.p 5 = 0 from ⟨hk.symm, h⟩), if_neg ha, if_pos hk]
theorem line_next {y : List UInt8} (hk : kd y = 5) {s : S} (h : s.p 5 ≠ 0) (ho : ok y = true) (a : Nat) : stE y s = lE (g1 y) (g2 y - s.ct) s.lv ∧ (lE (g1 y) (g2 y - s.ct) s.lv = 0 → (stS y a s).lv = nxL s.lv (g1 y) (g2 y - s.ct)) ∧ offs (stS y a s) = g2 y := by
  refine ⟨?_, fun e => ?_, ?_⟩
  · unfold stE dE
    rw [if_neg (show ¬ (kd y = 0 ∨ kd y = 4) by omega), if_pos hk, if_neg (show ¬ ok y = false by rw [ho]; decide), if_pos h]
  · rw [lv_at, if_pos ⟨hk, h⟩]; unfold nxL; rw [if_pos e]
  · rw [offs_at, stS_p y a 5 s (by omega), if_neg (show ¬ (5 = kd y ∧ s.p 5 = 0) from fun k => h k.2), if_neg h, if_pos hk]
end Go.Proofs.YtldieebiicblbaaGreatDoor.ref10
