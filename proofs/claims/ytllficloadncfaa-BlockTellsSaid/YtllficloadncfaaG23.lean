/-
  The heads of the rounds of the document's own Decode of layer 16, and what a round does to them; what it answers in all. Nothing of any one function. Conditions: as said.
-/
import Derived.Test.YtllficloadncfaaG22
import Derived.Test.YtllficloadncfaaG18
import Derived.Test.YtllficloadncfaaG19
namespace Go.Proofs.Ytllficloadncfaa.ref16
open Go.ChangeShapes Go.WideShapes Go.ChangeAt Go.RowKit
open om mem oct bk blk
open head (end_pair)
set_option linter.unusedVariables false
set_option maxRecDepth 100000

theorem DS.box_grown {W0 : World} {lo hi zb base g : Nat} {l : List Nat} {ver : Int} {pos : Nat} {T : List Pr} {K : List Ty} {A : List Int} {C : List Pr} {vt vk va vl : Value} {W W' : World} {k n : Nat} {e : TypeId} {v : Value} {xs : List Value} (h : DS W0 lo hi zb base g l ver pos T K A C vt vk va vl W) (hr : W.ownsRow base e k v n xs) (hg : W.grownBy W' v.ownBlock) : W'.heap[zb]? = some (.cells #[vk, vt, vl, .string ⟨#[]⟩, .int .i64 ver] 26) := by
  rw [(rw_low h hr hg).block zb h.gz.2.2]
  exact h.box
abbrev nil0 : Value := .slice none 0 0
/-- at the head of a round that reads changes. -/
def H1 (W0 : World) (lo hi zb base g : Nat) (l : List Nat) (ver : Int) (s n : Nat) (a : Nat → Int) (i : Value) (W : World) : Prop :=
  ∃ (j : Nat) (vt : Value), j ≤ n ∧ i = .int .i64 (j : Nat) ∧ DS W0 lo hi zb base g l ver (s * j) (tA a j) [] [] [] vt nil0 nil0 nil0 W
theorem h1_step {W0 : World} {lo hi zb base g : Nat} {l : List Nat} {ver : Int} {s n : Nat} {a : Nat → Int} {j : Nat} {vt : Value} {w1 w' : World} {g' c : Nat} (hj : j < n) (D : DS W0 lo hi zb base g l ver (s * j + s) (tA a j) [] [] [] vt nil0 nil0 nil0 w1) (hr : w'.ownsRow base 43 2 (.slice (some ⟨g', 0, none⟩) (j + 1) c) (j + 1) (pcs (tA a j ++ [(a j, 0)]))) (hg : w1.grownBy w' vt.ownBlock) :
    H1 W0 lo hi zb base g l ver s n a (.int .i64 ((j : Int) + 1)) (w'.setCell ⟨zb, 1, none⟩ (.slice (some ⟨g', 0, none⟩) (j + 1) c)) := by
  refine ⟨j + 1, .slice (some ⟨g', 0, none⟩) (j + 1) c, hj, rfl, ?_⟩
  rw [Nat.mul_succ]
  rw [← tA_succ] at hr
  have hr' : w'.ownsRow base 43 2 (.slice (some ⟨g', 0, none⟩) (j + 1) c) (tA a (j + 1)).length (pcs (tA a (j + 1))) := by rw [tA_len]; exact hr
  exact D.growT hg hr'
/-- at the head of a round that reads the kinds of changes. -/
def H2 (W0 : World) (lo hi zb base g : Nat) (l : List Nat) (ver : Int) (p n : Nat) (a b : Nat → Int) (vt : Value) (i : Value) (W : World) : Prop :=
  ∃ k : Nat, k ≤ n ∧ i = .int .i64 (k : Nat) ∧ DS W0 lo hi zb base g l ver (p + k) (tB a b n k) [] [] [] vt nil0 nil0 nil0 W
theorem h2_step {W0 : World} {lo hi zb base g : Nat} {l : List Nat} {ver : Int} {p n : Nat} {a b : Nat → Int} {k gt c : Nat} {w1 : World} (hk : k < n) (D : DS W0 lo hi zb base g l ver (p + k + 1) (tB a b n k) [] [] [] (.slice (some ⟨gt, 0, none⟩) n c) nil0 nil0 nil0 w1) :
    H2 W0 lo hi zb base g l ver p n a b (.slice (some ⟨gt, 0, none⟩) n c) (.int .i64 ((k : Int) + 1)) (w1.setCell ⟨gt, k * 2 + 1, none⟩ (.int .i64 (b k))) :=
  ⟨k + 1, hk, rfl, D.setT (tB_len ..).symm k (by rw [tB_len]; exact hk) (b k) (tB_set a b n k hk)⟩
/-- at the head of a round that reads kinds of local time. -/
def H3 (W0 : World) (lo hi zb base g : Nat) (l : List Nat) (ver : Int) (p n : Nat) (T : List Pr) (vt : Value) (u o i : Value) (W : World) : Prop :=
  ∃ (j : Nat) (va vk : Value) (q : Bool), j ≤ n ∧ va = u ∧ o = .bool q ∧ i = .int .i64 (j : Nat) ∧ q = mkAll l p j ∧ DS W0 lo hi zb base g l ver (p + 6 * j) T (kA (gOf l p) (dOf l p) j) (iA (gPl l p) j) [] vt vk va nil0 W
/-- at the head of a round that gives names. -/
def H4 (W0 : World) (lo hi zb base g : Nat) (l : List Nat) (ver : Int) (p pos n : Nat) (s : ByteArray) (b : Bool) (T : List Pr) (vt vk va : Value) (o i : Value) (W : World) : Prop :=
  ∃ (k : Nat) (q : Bool), k ≤ n ∧ o = .bool q ∧ i = .int .i64 (k : Nat) ∧ q = (b && isAll s (gPl l p) k) ∧ DS W0 lo hi zb base g l ver pos T (kB (gOf l p) (dOf l p) (nmAt s (gPl l p)) n k) (iA (gPl l p) n) [] vt vk va nil0 W
theorem isAll_succ (s : ByteArray) (q : Nat → Int) (k : Nat) : isAll s q (k + 1) = (isAll s q k && isAt s q k) := by
  unfold isAll; rw [List.range_succ, List.all_append]; simp
theorem h4_step {W0 : World} {lo hi zb base g : Nat} {l : List Nat} {ver : Int} {p pos n : Nat} {s : ByteArray} {b q q' : Bool} {T : List Pr} {vt va : Value} {k gk c : Nat} {w1 : World} (hk : k < n) (hq : q = (b && isAll s (gPl l p) k)) (hq' : q' = (q && isAt s (gPl l p) k)) (D : DS W0 lo hi zb base g l ver pos T (kB (gOf l p) (dOf l p) (nmAt s (gPl l p)) n k) (iA (gPl l p) n) [] vt (.slice (some ⟨gk, 0, none⟩) n c) va nil0 w1) :
    H4 W0 lo hi zb base g l ver p pos n s b T vt (.slice (some ⟨gk, 0, none⟩) n c) va (.bool q') (.int .i64 ((k : Int) + 1)) (w1.setCell ⟨gk, k * 3 + 2, none⟩ (.string (nmAt s (gPl l p) k))) :=
  ⟨k + 1, q', hk, rfl, rfl, by rw [hq', hq, isAll_succ, Bool.and_assoc], D.setK (kB_len ..).symm k (by rw [kB_len]; exact hk) _ (kB_set _ _ _ n k hk)⟩
/-- at the head of a round that reads leaps. -/
def H5 (W0 : World) (lo hi zb base g : Nat) (l : List Nat) (ver : Int) (s p n : Nat) (a b : Nat → Int) (T : List Pr) (K : List Ty) (A : List Int) (vt vk va : Value) (i : Value) (W : World) : Prop :=
  ∃ (j : Nat) (vl : Value), j ≤ n ∧ i = .int .i64 (j : Nat) ∧ DS W0 lo hi zb base g l ver (p + (s + 4) * j) T K A (tC a b j) vt vk va vl W
theorem h5_step {W0 : World} {lo hi zb base g : Nat} {l : List Nat} {ver : Int} {s p n : Nat} {a b : Nat → Int} {T : List Pr} {K : List Ty} {A : List Int} {vt vk va vl : Value} {j g' c : Nat} {w1 w' : World} (hj : j < n) (D : DS W0 lo hi zb base g l ver (p + (s + 4) * j + s + 4) T K A (tC a b j) vt vk va vl w1) (hr : w'.ownsRow base 45 2 (.slice (some ⟨g', 0, none⟩) (j + 1) c) (j + 1) (pcs (tC a b j ++ [(a j, b j)]))) (hg : w1.grownBy w' vl.ownBlock) :
    H5 W0 lo hi zb base g l ver s p n a b T K A vt vk va (.int .i64 ((j : Int) + 1)) (w'.setCell ⟨zb, 2, none⟩ (.slice (some ⟨g', 0, none⟩) (j + 1) c)) := by
  refine ⟨j + 1, .slice (some ⟨g', 0, none⟩) (j + 1) c, hj, rfl, ?_⟩
  rw [Nat.mul_succ, ← Nat.add_assoc, ← Nat.add_assoc]
  rw [← tC_succ] at hr
  have hr' : w'.ownsRow base 45 2 (.slice (some ⟨g', 0, none⟩) (j + 1) c) (tC a b (j + 1)).length (pcs (tC a b (j + 1))) := by rw [tC_len]; exact hr
  exact D.growC hg hr'
/-- at the head of a round that looks at the marks. -/
def H6 (a u : List Nat) (n : Nat) (b : Bool) (o i : Value) : Prop := ∃ (k : Nat) (q : Bool), k ≤ n ∧ o = .bool q ∧ i = .int .i64 (k : Nat) ∧ q = (b && thAll a u k)
theorem h6_step {a u : List Nat} {n : Nat} {b q q' : Bool} {k : Nat} (hk : k < n) (hq : q = (b && thAll a u k)) (hq' : q' = (q && thB a u k)) : H6 a u n b (.bool q') (.int .i64 ((k : Int) + 1)) :=
  ⟨k + 1, q', hk, rfl, rfl, by rw [hq', hq, thAll_succ, Bool.and_assoc]⟩
theorem prs_setRow {W : World} {A : Option Addr} {l : List Pr} {base z : Nat} (h : Prs W A l) (hA : ∀ g o, A = some ⟨g, o, none⟩ → base ≤ g) (hz : z < base) (c : Array Value) : Prs (W.setRow z c) A l :=
  h.keep (by simp) fun b o p e hlt => World.cell?_of_block (a := ⟨b, p, none⟩) (setRow_other _ _ _ _ (by have := hA b o e; show b ≠ z; omega))
theorem tys_setRow {W : World} {A : Option Addr} {l : List Ty} {base z : Nat} (h : Tys W A l) (hA : ∀ g o, A = some ⟨g, o, none⟩ → base ≤ g) (hz : z < base) (c : Array Value) : Tys (W.setRow z c) A l :=
  h.keep (by simp) fun b o p e hlt => World.cell?_of_block (a := ⟨b, p, none⟩) (setRow_other _ _ _ _ (by have := hA b o e; show b ≠ z; omega))
theorem gz_is (v : Int) (ut sd lp tm ty ch s : Nat) (l : List Nat) : gZ ⟨v, ut, sd, lp, tm, ty, ch⟩ l s = ⟨kB (gOf l (s * tm + tm)) (dOf l (s * tm + tm)) (nmAt (strN (sl l (s * tm + tm + 6 * ty) ch)) (gPl l (s * tm + tm))) ty ty, tC (fun k => rd (sl l (s * k) s)) (fun k => rd (sl l (s * tm + k) 1)) tm, tC (fun k => rd (sl l (s * tm + tm + 6 * ty + ch + (s + 4) * k) s)) (fun k => rd (sl l (s * tm + tm + 6 * ty + ch + (s + 4) * k + s) 4)) lp, ⟨#[]⟩, v⟩ := by
  unfold gZ gTy gTr gLp P3 P2 P1
  simp only [Int.toNat_natCast]
  rw [kB_all, nmAt_is]
  rfl
theorem dv_is (v : Int) (ut sd lp tm ty ch s : Nat) (l : List Nat) (hk : lenB ⟨v, ut, sd, lp, tm, ty, ch⟩ l s = true) (hu : (sl l (s * tm + tm + 6 * ty + ch + (s + 4) * lp + sd) ut).length = ut) : dv ⟨v, ut, sd, lp, tm, ty, ch⟩ l s = (mkAll l (s * tm + tm) ty && isAll (strN (sl l (s * tm + tm + 6 * ty) ch)) (gPl l (s * tm + tm)) ty && thAll (sl l (s * tm + tm + 6 * ty + ch + (s + 4) * lp) sd) (sl l (s * tm + tm + 6 * ty + ch + (s + 4) * lp + sd) ut) ut && le1 (sl l (s * tm + tm + 6 * ty + ch + (s + 4) * lp) sd) && le1 (sl l (s * tm + tm + 6 * ty + ch + (s + 4) * lp + sd) ut)) := by
  unfold dv
  rw [hk, Bool.true_and]
  unfold mkdB nmdB P5 P4 P3 P2 P1
  simp only [Int.toNat_natCast]
  rw [amB_is, hu, isAll_nmd]
  simp only [Bool.and_assoc]
  rfl
theorem rd_cells {W : World} {A : Option Addr} {n c : Nat} {l : List Nat} (h : RdW W (.slice A n c) l) (k : Nat) (hk : k < l.length) : ∃ b o, A = some ⟨b, o, none⟩ ∧ W.cell? ⟨b, o + k, none⟩ = some (.int .u8 (l.getD k 0 : Nat)) := by
  obtain ⟨A', c', e, _, _, hr⟩ := h
  injection e with e1 e2 e3
  subst e1
  obtain ⟨b, o, e, hc⟩ := hr (fun e => by rw [e] at hk; simp at hk)
  refine ⟨b, o, e, ?_⟩
  rw [hc k hk, List.getD_eq_getElem?_getD, List.getElem?_eq_getElem hk]
  rfl
theorem thB_no {a u : List Nat} {k : Nat} (h : u.getD k 0 ≠ 1) : thB a u k = true := by
  unfold thB
  rw [show (u.getD k 0 == 1) = false by simpa using h]
  rfl
theorem thB_far {a u : List Nat} {k : Nat} (h : u.getD k 0 = 1) (h2 : a.length ≤ k) : thB a u k = false := by
  unfold thB
  rw [show (u.getD k 0 == 1) = true by simpa using h, decide_eq_true h2]
  rfl
theorem thB_zero {a u : List Nat} {k : Nat} (h : u.getD k 0 = 1) (h2 : a.getD k 0 = 0) : thB a u k = false := by
  unfold thB
  rw [show (u.getD k 0 == 1) = true by simpa using h, show (a.getD k 0 == 0) = true by simpa using h2]
  simp
theorem thB_one {a u : List Nat} {k : Nat} (h1 : k < a.length) (h2 : a.getD k 0 ≠ 0) : thB a u k = true := by
  unfold thB
  rw [show (a.getD k 0 == 0) = false by simpa using h2, decide_eq_false (by omega)]
  simp
end Go.Proofs.Ytllficloadncfaa.ref16
