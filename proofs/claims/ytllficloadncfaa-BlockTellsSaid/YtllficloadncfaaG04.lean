/-
  Plain mathematics: the data of a zone as bytes, what is read of bytes, and that what was laid is read as it was. Nothing of any program. Conditions: as said.
-/
import Derived.Test.YtllficloadncfaaG01
import Derived.Test.YtllficloadncfaaG03
import Derived.Test.YtllficloadncfaaRows
import Derived.WalkKit
import Derived.ProofKit
import Derived.OpenShut
import Derived.IntWalk
import Derived.Below
import Derived.Laws.Rows
import Derived.Laws.Tables
import Derived.Deep.WholeRow
import Derived.Deep.MidRow
import Derived.Lib.Hide
import Derived.Lib.QuietBelow
import Derived.BigQuiet
import Derived.LaidMore
import Derived.Stop.Joined
namespace Go.Proofs.Ytllficloadncfaa.bk
open om lx ab
set_option linter.unusedVariables false
set_option maxRecDepth 100000

/-- a kind of local time. -/
structure Ty where
  off : Int
  dst : Bool
  ab : ByteArray
theorem Ty.ext3 {a b : Ty} (h1 : a.off = b.off) (h2 : a.dst = b.dst) (h3 : a.ab = b.ab) : a = b := by
  cases a; cases b; simp_all
abbrev Pr := Int × Int
/-- a zone. -/
structure Zn where
  ty : List Ty
  tr : List Pr
  lp : List Pr
  ft : ByteArray
  v : Int
theorem Zn.ext5 {a b : Zn} (h1 : a.ty = b.ty) (h2 : a.tr = b.tr) (h3 : a.lp = b.lp) (h4 : a.ft = b.ft) (h5 : a.v = b.v) : a = b := by
  cases a; cases b; simp_all
/-- its names. -/
def nm (l : List Ty) : List ByteArray := l.map (·.ab)
def I64 (n : Int) : Prop := -9223372036854775808 ≤ n ∧ n ≤ 9223372036854775807
def PrsBd (l : List Pr) : Prop := ∀ x ∈ l, I64 x.1 ∧ I64 x.2
def TysBd (l : List Ty) : Prop := ∀ x ∈ l, I64 x.off
structure Bd (z : Zn) : Prop where
  ty : TysBd z.ty
  tr : PrsBd z.tr
  lp : PrsBd z.lp
  v : I64 z.v
  ab : ∀ x ∈ nm z.ty, x.size ≤ 9223372036854775807
def nmL (l : List Ty) : List Nm := (nm l).map L
/-- its head. -/
def cnt (z : Zn) : hd.Hd := ⟨z.v, 0, 0, z.lp.length, z.tr.length, z.ty.length, (pT (nmL z.ty)).length⟩
def okC (z : Zn) : Bool := hd.okB (cnt z)
theorem okC_names {z : Zn} (h : okC z = true) : ab.okB (nmL z.ty) = true := by
  rcases e : ab.okB (nmL z.ty) with _ | _
  · have := (hd.ok_iff.1 h).2.2.2.2.2.2.1
    have e2 : pT (nmL z.ty) = [] := by unfold pT; rw [e]; rfl
    unfold cnt at this
    rw [e2] at this
    simp at this
  · rfl
theorem okC_pool {z : Zn} (h : okC z = true) : pT (nmL z.ty) = pl (dst (nmL z.ty)) := if_pos (okC_names h)
/-- the head that Count tells. -/
def cv (z : Zn) : hd.Hd := if okC z = true then cnt z else hd.zero
theorem cv_yes {z : Zn} (h : okC z = true) : cv z = cnt z := if_pos h
theorem cv_no {z : Zn} (h : okC z = false) : cv z = hd.zero := if_neg (by rw [h]; decide)
theorem okC_places {z : Zn} (h : okC z = true) : pN (nmL z.ty) = (nmL z.ty).map (fun x => (st x (dst (nmL z.ty)) : Int)) := if_pos (okC_names h)
/-! what is laid -/
/-- the bytes of a number, none if it has none of that size. -/
def nb (n z : Int) : List Nat := if fitB n z = true then lay n z.toNat else []
theorem nb_yes {n z : Int} (h : fitB n z = true) : nb n z = lay n z.toNat := if_pos h
theorem nb_no {n z : Int} (h : fitB n z = false) : nb n z = [] := if_neg (by rw [h]; decide)
theorem nb_bys (n z : Int) : Bys (nb n z) := by
  unfold nb; split
  · exact lay_bys _ _
  · exact bys_nil
theorem nb_len (n z : Int) : (nb n z).length ≤ 8 := by
  unfold nb; split
  · rename_i h
    have := fit_sz (fit_iff.1 h)
    unfold Sz at this
    rw [lay_len]
    omega
  · simp
theorem nb_len_of {n : Int} {s : Nat} (h : fitB n s = true) : (nb n s).length = s := by rw [nb_yes h, lay_len]; simp
theorem nb_len1 {n : Int} (h : fitB n 1 = true) : (nb n 1).length = 1 := nb_len_of (s := 1) h
theorem nb_len4 {n : Int} (h : fitB n 4 = true) : (nb n 4).length = 4 := nb_len_of (s := 4) h
def b01 (b : Bool) : Int := if b = true then 1 else 0
def trA (s : Nat) (t : Pr) : List Nat := nb t.1 s
def trB (t : Pr) : List Nat := nb t.2 1
def plc (X : List Nm) (t : Ty) : Int := (st (L t.ab) (dst X) : Nat)
def tyD (X : List Nm) (t : Ty) : List Nat := nb t.off 4 ++ nb (b01 t.dst) 1 ++ nb (plc X t) 1
def lpD (s : Nat) (c : Pr) : List Nat := nb c.1 s ++ nb c.2 4
def fA (s : Nat) (t : Pr) : Bool := fitB t.1 s
def fB (t : Pr) : Bool := fitB t.2 1
def fT (X : List Nm) (t : Ty) : Bool := fitB t.off 4 && fitB (b01 t.dst) 1 && fitB (plc X t) 1
def fL (s : Nat) (c : Pr) : Bool := fitB c.1 s && fitB c.2 4
def poolN (l : List Ty) : List Nat := (pl (dst (nmL l))).map UInt8.toNat
/-- a zone's data. -/
def dat (z : Zn) (s : Nat) : List Nat := z.tr.flatMap (trA s) ++ (z.tr.flatMap trB ++ (z.ty.flatMap (tyD (nmL z.ty)) ++ (poolN z.ty ++ z.lp.flatMap (lpD s))))
def fits (z : Zn) (s : Nat) : Bool := z.tr.all (fA s) && z.tr.all fB && z.ty.all (fT (nmL z.ty)) && z.lp.all (fL s)
def sz48 (s : Int) : Bool := (s == 4) || (s == 8)
/-- may it be laid? -/
def ev (z : Zn) (s : Int) : Bool := okC z && sz48 s && fits z s.toNat
def enc (z : Zn) (s : Int) : List Nat := if ev z s = true then dat z s.toNat else []
theorem bys_flat {α : Type} (l : List α) (f : α → List Nat) (h : ∀ x, Bys (f x)) : Bys (l.flatMap f) := by
  intro y hy
  obtain ⟨x, _, hx⟩ := List.mem_flatMap.1 hy
  exact h x y hx
theorem poolN_bys (l : List Ty) : Bys (poolN l) := by
  intro x hx
  obtain ⟨c, _, rfl⟩ := List.mem_map.1 hx
  exact c.toNat_lt
theorem tyD_bys (X : List Nm) (t : Ty) : Bys (tyD X t) := ((nb_bys _ _).app (nb_bys _ _)).app (nb_bys _ _)
theorem lpD_bys (s : Nat) (c : Pr) : Bys (lpD s c) := (nb_bys _ _).app (nb_bys _ _)
theorem dat_bys (z : Zn) (s : Nat) : Bys (dat z s) :=
  (bys_flat _ _ fun _ => nb_bys _ _).app ((bys_flat _ _ fun _ => nb_bys _ _).app ((bys_flat _ _ (tyD_bys _)).app ((poolN_bys _).app (bys_flat _ _ (lpD_bys s)))))
theorem flat_take {α : Type} (l : List α) (f : α → List Nat) (k : Nat) (h : k < l.length) : (l.take (k + 1)).flatMap f = (l.take k).flatMap f ++ f l[k] := by
  rw [List.take_succ_eq_append_getElem h, List.flatMap_append]; simp
theorem all_take {α : Type} (l : List α) (f : α → Bool) (k : Nat) (h : k < l.length) : (l.take (k + 1)).all f = ((l.take k).all f && f l[k]) := by
  rw [List.take_succ_eq_append_getElem h, List.all_append]; simp
theorem flat_le {α : Type} (f : α → List Nat) (c : Nat) (h : ∀ x, (f x).length ≤ c) : ∀ l : List α, (l.flatMap f).length ≤ c * l.length
  | [] => by simp
  | x :: l => by
    have := flat_le f c h l
    have := h x
    rw [List.flatMap_cons, List.length_append, List.length_cons, Nat.mul_add, Nat.mul_one]
    omega
theorem tyD_len (X : List Nm) (t : Ty) : (tyD X t).length ≤ 24 := by
  have h1 := nb_len t.off 4
  have h2 := nb_len (b01 t.dst) 1
  have h3 := nb_len (plc X t) 1
  unfold tyD
  rw [List.length_append, List.length_append]
  omega
theorem lpD_len (s : Nat) (c : Pr) : (lpD s c).length ≤ 16 := by
  have h1 := nb_len c.1 s
  have h2 := nb_len c.2 4
  unfold lpD
  rw [List.length_append]
  omega
/-! pieces of a row -/
def sl (l : List Nat) (i n : Nat) : List Nat := (l.drop i).take n
theorem sl_len {l : List Nat} {i n : Nat} (h : i + n ≤ l.length) : (sl l i n).length = n := by
  unfold sl; rw [List.length_take, List.length_drop]; omega
theorem sl_bys {l : List Nat} (h : Bys l) (i n : Nat) : Bys (sl l i n) := (h.drop i).take n
theorem sl_left {a b : List Nat} {i n : Nat} (h : i + n ≤ a.length) : sl (a ++ b) i n = sl a i n := by
  unfold sl
  rw [List.drop_append_of_le_length (by omega), List.take_append_of_le_length (by rw [List.length_drop]; omega)]
theorem sl_right (a b : List Nat) (i n p : Nat) (h : p = a.length + i) : sl (a ++ b) p n = sl b i n := by
  subst h
  unfold sl
  rw [← List.drop_drop, List.drop_left]
theorem sl_all (a : List Nat) (r : List Nat) (n : Nat) (h : a.length = n) : sl (a ++ r) 0 n = a := by
  unfold sl
  rw [List.drop_zero, ← h, List.take_left]
theorem sl_flat {α : Type} (f : α → List Nat) (c i n : Nat) (r : List Nat) (hin : i + n ≤ c) : ∀ (xs : List α) (k : Nat) (h : k < xs.length), (∀ x ∈ xs, (f x).length = c) → sl (xs.flatMap f ++ r) (c * k + i) n = sl (f xs[k]) i n
  | x :: xs, 0, _, hc => by
    have hx := hc x (List.mem_cons_self ..)
    rw [Nat.mul_zero, Nat.zero_add, List.flatMap_cons, List.append_assoc, sl_left (by omega)]
    rfl
  | x :: xs, k + 1, h, hc => by
    have hx := hc x (List.mem_cons_self ..)
    have h' : k < xs.length := by simpa using h
    rw [List.flatMap_cons, List.append_assoc, sl_right (f x) _ (c * k + i) n _ (by rw [hx, Nat.mul_succ]; omega), sl_flat f c i n r hin xs k h' (fun y hy => hc y (List.mem_cons_of_mem _ hy))]
    rfl
theorem flat_len {α : Type} (f : α → List Nat) (c : Nat) : ∀ (xs : List α), (∀ x ∈ xs, (f x).length = c) → (xs.flatMap f).length = c * xs.length
  | [], _ => by simp
  | x :: xs, hc => by
    rw [List.flatMap_cons, List.length_append, flat_len f c xs (fun y hy => hc y (List.mem_cons_of_mem _ hy)), hc x (List.mem_cons_self ..), List.length_cons, Nat.mul_succ]
    omega
theorem range_is {α : Type} (xs : List α) (f : Nat → α) (h : ∀ k (h : k < xs.length), f k = xs[k]) : (List.range xs.length).map f = xs := by
  apply List.ext_getElem
  · simp
  · intro k h1 h2
    rw [List.getElem_map, List.getElem_range]
    exact h k h2
/-! what is read -/
def gTr (l : List Nat) (s t : Nat) : List Pr := (List.range t).map fun k => (rd (sl l (s * k) s), rd (sl l (s * t + k) 1))
def gMk (l : List Nat) (p k : Nat) : Int := rd (sl l (p + 6 * k + 4) 1)
def gPl (l : List Nat) (p k : Nat) : Int := rd (sl l (p + 6 * k + 5) 1)
def gOf (l : List Nat) (p k : Nat) : Int := rd (sl l (p + 6 * k) 4)
def gPo (l : List Nat) (p c : Nat) : List UInt8 := (sl l p c).map UInt8.ofNat
def gTy (l : List Nat) (p n : Nat) (po : List UInt8) : List Ty := (List.range n).map fun k => ⟨gOf l p k, decide (gMk l p k = 1), B (aS po (gPl l p k))⟩
def gLp (l : List Nat) (p s n : Nat) : List Pr := (List.range n).map fun k => (rd (sl l (p + (s + 4) * k) s), rd (sl l (p + (s + 4) * k + s) 4))
def mkB (x : Int) : Bool := (x == 0) || (x == 1)
def mksB (l : List Nat) : Bool := l.all fun x => mkB x
/-- each 1 of the second row has one of the first at its place. -/
def utB (a u : List Nat) (k : Nat) : Bool := mkB (u.getD k 0 : Nat) && !(u.getD k 0 == 1 && !(decide (k < a.length) && (a.getD k 0 == 1)))
def amB (a u : List Nat) : Bool := mksB a && (List.range u.length).all (utB a u)
def P1 (h : hd.Hd) (s : Nat) : Nat := s * h.tm.toNat + h.tm.toNat
def P2 (h : hd.Hd) (s : Nat) : Nat := P1 h s + 6 * h.ty.toNat
def P3 (h : hd.Hd) (s : Nat) : Nat := P2 h s + h.ch.toNat
def P4 (h : hd.Hd) (s : Nat) : Nat := P3 h s + (s + 4) * h.lp.toNat
def P5 (h : hd.Hd) (s : Nat) : Nat := P4 h s + h.sd.toNat
def gZ (h : hd.Hd) (l : List Nat) (s : Nat) : Zn := ⟨gTy l (P1 h s) h.ty.toNat (gPo l (P2 h s) h.ch.toNat), gTr l s h.tm.toNat, gLp l (P3 h s) s h.lp.toNat, ⟨#[]⟩, h.v⟩
def mkdB (h : hd.Hd) (l : List Nat) (s : Nat) : Bool := (List.range h.ty.toNat).all fun k => mkB (gMk l (P1 h s) k)
def nmdB (h : hd.Hd) (l : List Nat) (s : Nat) : Bool := (List.range h.ty.toNat).all fun k => aB (gPo l (P2 h s) h.ch.toNat) (gPl l (P1 h s) k)
def lenB (h : hd.Hd) (l : List Nat) (s : Int) : Bool := hd.szOk h s && ((l.length : Int) == hd.sz h s)
/-- may it be read? -/
def dv (h : hd.Hd) (l : List Nat) (s : Int) : Bool := lenB h l s && mkdB h l s.toNat && nmdB h l s.toNat && amB (sl l (P4 h s.toNat) h.sd.toNat) (sl l (P5 h s.toNat) h.ut.toNat)
def zero : Zn := ⟨[], [], [], ⟨#[]⟩, 0⟩
def dec (h : hd.Hd) (l : List Nat) (s : Int) : Zn := if dv h l s = true then gZ h l s.toNat else zero
theorem len_nat {h : hd.Hd} {l : List Nat} {s : Nat} (k : lenB h l s = true) : hd.Ok h ∧ (s = 4 ∨ s = 8) ∧ l.length = P5 h s + h.ut.toNat := by
  unfold lenB at k
  rw [Bool.and_eq_true, beq_iff_eq] at k
  obtain ⟨k1, k2⟩ := k
  have h1 := hd.szb_iff.1 k1
  rw [hd.sz_yes k1] at k2
  have hs : s = 4 ∨ s = 8 := by omega
  refine ⟨h1.1, hs, ?_⟩
  obtain ⟨h1, _⟩ := h1
  obtain ⟨_, h2, h3, h4, h5, h6, h7⟩ := h1
  unfold hd.szv at k2
  unfold P5 P4 P3 P2 P1
  rcases hs with rfl | rfl <;> omega
theorem nat_len {h : hd.Hd} {l : List Nat} {s : Nat} (h1 : hd.Ok h) (hs : s = 4 ∨ s = 8) (hl : l.length = P5 h s + h.ut.toNat) : lenB h l s = true := by
  have k1 : hd.szOk h s = true := hd.szb_iff.2 ⟨h1, by omega⟩
  unfold lenB
  rw [k1, hd.sz_yes k1, Bool.true_and, beq_iff_eq, hl]
  obtain ⟨_, h2, h3, h4, h5, h6, h7⟩ := h1
  unfold hd.szv
  unfold P5 P4 P3 P2 P1
  rcases hs with rfl | rfl <;> omega
/-! what was laid is read as it was -/
theorem fitsP {z : Zn} {s : Nat} (h : fits z s = true) : (∀ x ∈ z.tr, fA s x = true) ∧ (∀ x ∈ z.tr, fB x = true) ∧ (∀ x ∈ z.ty, fT (nmL z.ty) x = true) ∧ (∀ x ∈ z.lp, fL s x = true) := by
  unfold fits at h
  simp only [Bool.and_eq_true, List.all_eq_true] at h
  exact ⟨h.1.1.1, h.1.1.2, h.1.2, h.2⟩
theorem trA_len {z : Zn} {s : Nat} (h : fits z s = true) : ∀ x ∈ z.tr, (trA s x).length = s := fun x hx => nb_len_of ((fitsP h).1 x hx)
theorem trB_len {z : Zn} {s : Nat} (h : fits z s = true) : ∀ x ∈ z.tr, (trB x).length = 1 := fun x hx => nb_len_of (s := 1) ((fitsP h).2.1 x hx)
theorem fT_iff {X : List Nm} {t : Ty} (h : fT X t = true) : fitB t.off 4 = true ∧ fitB (b01 t.dst) 1 = true ∧ fitB (plc X t) 1 = true := by
  unfold fT at h
  simp only [Bool.and_eq_true] at h
  exact ⟨h.1.1, h.1.2, h.2⟩
theorem fL_iff {s : Nat} {c : Pr} (h : fL s c = true) : fitB c.1 s = true ∧ fitB c.2 4 = true := by
  unfold fL at h
  simp only [Bool.and_eq_true] at h
  exact h
theorem tyD_six {z : Zn} {s : Nat} (h : fits z s = true) : ∀ x ∈ z.ty, (tyD (nmL z.ty) x).length = 6 := fun x hx => by
  obtain ⟨h1, h2, h3⟩ := fT_iff ((fitsP h).2.2.1 x hx)
  have e1 := nb_len4 h1
  have e2 := nb_len1 h2
  have e3 := nb_len1 h3
  unfold tyD
  rw [List.length_append, List.length_append]
  omega
theorem lpD_all {z : Zn} {s : Nat} (h : fits z s = true) : ∀ x ∈ z.lp, (lpD s x).length = s + 4 := fun x hx => by
  obtain ⟨h1, h2⟩ := fL_iff ((fitsP h).2.2.2 x hx)
  have e1 := nb_len_of h1
  have e2 := nb_len4 h2
  unfold lpD
  rw [List.length_append]
  omega
theorem rd_nb {n : Int} {s : Nat} (h : fitB n s = true) (b : I64 n) : rd (nb n s) = n := by
  rw [nb_yes h]
  exact rd_lay (fit_iff.1 h) b.1 b.2
theorem rd_nb1 {n : Int} (h : fitB n 1 = true) (b : I64 n) : rd (nb n 1) = n := rd_nb (s := 1) h b
theorem rd_nb4 {n : Int} (h : fitB n 4 = true) (b : I64 n) : rd (nb n 4) = n := rd_nb (s := 4) h b
theorem pool_len (l : List Ty) : (poolN l).length = (pl (dst (nmL l))).length := by simp [poolN]
structure Same (h : hd.Hd) (z : Zn) : Prop where
  v : h.v = z.v
  lp : h.lp = z.lp.length
  tm : h.tm = z.tr.length
  ty : h.ty = z.ty.length
  ch : h.ch = (poolN z.ty).length
theorem same_cnt {z : Zn} (h : okC z = true) : Same (cnt z) z := ⟨rfl, rfl, rfl, rfl, by unfold cnt; rw [okC_pool h, pool_len]⟩
theorem at1 {h : hd.Hd} {z : Zn} {s : Nat} (e : Same h z) (f : fits z s = true) : P1 h s = (z.tr.flatMap (trA s)).length + (z.tr.flatMap trB).length := by
  unfold P1
  rw [flat_len _ _ _ (trA_len f), flat_len _ _ _ (trB_len f), e.tm]
  simp
theorem at2 {h : hd.Hd} {z : Zn} {s : Nat} (e : Same h z) (f : fits z s = true) : P2 h s = P1 h s + (z.ty.flatMap (tyD (nmL z.ty))).length := by
  unfold P2
  rw [flat_len _ _ _ (tyD_six f), e.ty]
  simp
theorem at3 {h : hd.Hd} {z : Zn} {s : Nat} (e : Same h z) : P3 h s = P2 h s + (poolN z.ty).length := by
  unfold P3
  rw [e.ch]
  simp
theorem at4 {h : hd.Hd} {z : Zn} {s : Nat} (e : Same h z) (f : fits z s = true) : P4 h s = P3 h s + (z.lp.flatMap (lpD s)).length := by
  unfold P4
  rw [flat_len _ _ _ (lpD_all f), e.lp]
  simp
theorem dat_len {h : hd.Hd} {z : Zn} {s : Nat} (e : Same h z) (f : fits z s = true) : (dat z s).length = P4 h s := by
  rw [at4 e f, at3 e, at2 e f, at1 e f]
  unfold dat
  simp only [List.length_append]
  omega
theorem r_tr {h : hd.Hd} {z : Zn} {s : Nat} (e : Same h z) (f : fits z s = true) (b : Bd z) (r : List Nat) : gTr (dat z s ++ r) s h.tm.toNat = z.tr := by
  rw [e.tm, Int.toNat_natCast]
  unfold gTr
  refine range_is _ _ fun k h2 => ?_
  · have hm := List.getElem_mem h2
    unfold dat
    have x1 : sl (z.tr.flatMap (trA s) ++ (z.tr.flatMap trB ++ (z.ty.flatMap (tyD (nmL z.ty)) ++ (poolN z.ty ++ z.lp.flatMap (lpD s)))) ++ r) (s * k) s = trA s z.tr[k] := by
      rw [List.append_assoc]
      have := sl_flat (trA s) s 0 s ((z.tr.flatMap trB ++ (z.ty.flatMap (tyD (nmL z.ty)) ++ (poolN z.ty ++ z.lp.flatMap (lpD s)))) ++ r) (by omega) z.tr k h2 (trA_len f)
      rw [Nat.add_zero] at this
      rw [this]
      have e0 := trA_len f _ hm
      have := sl_all (trA s z.tr[k]) [] s e0
      rw [List.append_nil] at this
      exact this
    have x2 : sl (z.tr.flatMap (trA s) ++ (z.tr.flatMap trB ++ (z.ty.flatMap (tyD (nmL z.ty)) ++ (poolN z.ty ++ z.lp.flatMap (lpD s)))) ++ r) (s * z.tr.length + k) 1 = trB z.tr[k] := by
      rw [List.append_assoc, sl_right _ _ k 1 _ (by rw [flat_len _ _ _ (trA_len f)]), List.append_assoc]
      have := sl_flat trB 1 0 1 ((z.ty.flatMap (tyD (nmL z.ty)) ++ (poolN z.ty ++ z.lp.flatMap (lpD s))) ++ r) (by omega) z.tr k h2 (trB_len f)
      rw [Nat.add_zero, Nat.one_mul] at this
      rw [this]
      have e0 := trB_len f _ hm
      have := sl_all (trB z.tr[k]) [] 1 e0
      rw [List.append_nil] at this
      exact this
    rw [x1, x2]
    have b0 := b.tr _ hm
    unfold trA trB
    rw [rd_nb ((fitsP f).1 _ hm) b0.1, rd_nb1 ((fitsP f).2.1 _ hm) b0.2]
theorem b01_bd (b : Bool) : I64 (b01 b) := by unfold I64; cases b <;> decide
theorem b01_one (b : Bool) : decide (b01 b = 1) = b := by cases b <;> rfl
theorem mk_b01 (b : Bool) : mkB (b01 b) = true := by cases b <;> rfl
theorem plc_lt {l : List Ty} {t : Ty} (h : t ∈ l) : 0 ≤ plc (nmL l) t ∧ plc (nmL l) t < (pl (dst (nmL l))).length := by
  have hx : L t.ab ∈ dst (nmL l) := (dst_mem _ _).2 (List.mem_map.2 ⟨t.ab, List.mem_map.2 ⟨t, h, rfl⟩, rfl⟩)
  obtain ⟨r, hr⟩ := pl_at hx
  have := congrArg List.length hr
  rw [List.length_drop, List.length_append, List.length_cons] at this
  unfold plc
  omega
theorem u8_back (l : List UInt8) : (l.map UInt8.toNat).map UInt8.ofNat = l := by
  rw [List.map_map]
  conv => rhs; rw [← List.map_id l]
  apply List.map_congr_left
  intro a _
  simp
theorem ty_sl {h : hd.Hd} {z : Zn} {s : Nat} (e : Same h z) (f : fits z s = true) (r : List Nat) (k i n : Nat) (hk : k < z.ty.length) (hin : i + n ≤ 6) : sl (dat z s ++ r) (P1 h s + 6 * k + i) n = sl (tyD (nmL z.ty) z.ty[k]) i n := by
  unfold dat
  rw [List.append_assoc, sl_right _ _ ((z.tr.flatMap trB).length + (6 * k + i)) n _ (by rw [at1 e f]; omega), List.append_assoc, sl_right _ _ (6 * k + i) n _ rfl, List.append_assoc]
  exact sl_flat _ 6 i n _ hin z.ty k hk (tyD_six f)
theorem ty_parts {z : Zn} {s : Nat} (f : fits z s = true) (b : Bd z) (ho : okC z = true) (t : Ty) (ht : t ∈ z.ty) : rd (sl (tyD (nmL z.ty) t) 0 4) = t.off ∧ rd (sl (tyD (nmL z.ty) t) 4 1) = b01 t.dst ∧ rd (sl (tyD (nmL z.ty) t) 5 1) = plc (nmL z.ty) t := by
  obtain ⟨h1, h2, h3⟩ := fT_iff ((fitsP f).2.2.1 t ht)
  have e1 : (nb t.off 4).length = 4 := nb_len4 h1
  have e2 : (nb (b01 t.dst) 1).length = 1 := nb_len1 h2
  have e3 : (nb (plc (nmL z.ty) t) 1).length = 1 := nb_len1 h3
  have hp := plc_lt ht
  have hq := ((ab.ok_iff _).1 (okC_names ho)).2
  unfold tyD
  refine ⟨?_, ?_, ?_⟩
  · rw [List.append_assoc, sl_all _ _ _ e1]
    exact rd_nb4 h1 (b.ty t ht)
  · rw [List.append_assoc, sl_right _ _ 0 1 _ (by omega), sl_all _ _ _ e2]
    exact rd_nb1 h2 (b01_bd _)
  · rw [sl_right _ _ 0 1 _ (by rw [List.length_append]; omega)]
    have := sl_all (nb (plc (nmL z.ty) t) 1) [] 1 e3
    rw [List.append_nil] at this
    rw [this]
    exact rd_nb1 h3 (by unfold I64; omega)
theorem r_pool {h : hd.Hd} {z : Zn} {s : Nat} (e : Same h z) (f : fits z s = true) (r : List Nat) : gPo (dat z s ++ r) (P2 h s) h.ch.toNat = pl (dst (nmL z.ty)) := by
  unfold gPo dat
  rw [List.append_assoc, sl_right _ _ ((z.tr.flatMap trB).length + (z.ty.flatMap (tyD (nmL z.ty))).length) _ _ (by rw [at2 e f, at1 e f]; omega), List.append_assoc, sl_right _ _ ((z.ty.flatMap (tyD (nmL z.ty))).length) _ _ rfl, List.append_assoc, sl_right _ _ 0 _ _ (Nat.add_zero _).symm, List.append_assoc, sl_all _ _ _ (by rw [e.ch]; simp)]
  exact u8_back _
theorem r_mk {h : hd.Hd} {z : Zn} {s : Nat} (e : Same h z) (f : fits z s = true) (b : Bd z) (ho : okC z = true) (r : List Nat) (k : Nat) (hk : k < z.ty.length) : gMk (dat z s ++ r) (P1 h s) k = b01 z.ty[k].dst := by
  unfold gMk
  rw [ty_sl e f r k 4 1 hk (by omega)]
  exact (ty_parts f b ho _ (List.getElem_mem hk)).2.1
theorem r_pl {h : hd.Hd} {z : Zn} {s : Nat} (e : Same h z) (f : fits z s = true) (b : Bd z) (ho : okC z = true) (r : List Nat) (k : Nat) (hk : k < z.ty.length) : gPl (dat z s ++ r) (P1 h s) k = plc (nmL z.ty) z.ty[k] := by
  unfold gPl
  rw [ty_sl e f r k 5 1 hk (by omega)]
  exact (ty_parts f b ho _ (List.getElem_mem hk)).2.2
theorem r_of {h : hd.Hd} {z : Zn} {s : Nat} (e : Same h z) (f : fits z s = true) (b : Bd z) (ho : okC z = true) (r : List Nat) (k : Nat) (hk : k < z.ty.length) : gOf (dat z s ++ r) (P1 h s) k = z.ty[k].off := by
  unfold gOf
  rw [show P1 h s + 6 * k = P1 h s + 6 * k + 0 from rfl, ty_sl e f r k 0 4 hk (by omega)]
  exact (ty_parts f b ho _ (List.getElem_mem hk)).1
theorem at_name {z : Zn} (ho : okC z = true) (t : Ty) (ht : t ∈ z.ty) : aT (pl (dst (nmL z.ty))) (plc (nmL z.ty) t) = some (L t.ab) :=
  aT_pool (okC_names ho) (List.mem_map.2 ⟨t.ab, List.mem_map.2 ⟨t, ht, rfl⟩, rfl⟩)
theorem r_ty {h : hd.Hd} {z : Zn} {s : Nat} (e : Same h z) (f : fits z s = true) (b : Bd z) (ho : okC z = true) (r : List Nat) : gTy (dat z s ++ r) (P1 h s) h.ty.toNat (pl (dst (nmL z.ty))) = z.ty := by
  rw [e.ty, Int.toNat_natCast]
  unfold gTy
  refine range_is _ _ fun k h2 => ?_
  · apply Ty.ext3
    · exact r_of e f b ho r k h2
    · show decide (gMk _ _ _ = 1) = _
      rw [r_mk e f b ho r k h2, b01_one]
    · show B (aS _ (gPl _ _ _)) = _
      rw [r_pl e f b ho r k h2]
      unfold aS
      rw [at_name ho _ (List.getElem_mem h2), Option.getD_some, B_L]
theorem r_lp {h : hd.Hd} {z : Zn} {s : Nat} (e : Same h z) (f : fits z s = true) (b : Bd z) (r : List Nat) : gLp (dat z s ++ r) (P3 h s) s h.lp.toNat = z.lp := by
  rw [e.lp, Int.toNat_natCast]
  unfold gLp
  refine range_is _ _ fun k h2 => ?_
  · have hm := List.getElem_mem h2
    have hf := fL_iff ((fitsP f).2.2.2 _ hm)
    have g : ∀ i n, i + n ≤ s + 4 → sl (dat z s ++ r) (P3 h s + (s + 4) * k + i) n = sl (lpD s z.lp[k]) i n := fun i n hin => by
      unfold dat
      rw [List.append_assoc, sl_right _ _ ((z.tr.flatMap trB).length + ((z.ty.flatMap (tyD (nmL z.ty))).length + ((poolN z.ty).length + ((s + 4) * k + i)))) n _ (by rw [at3 e, at2 e f, at1 e f]; omega), List.append_assoc, sl_right _ _ _ n _ rfl, List.append_assoc, sl_right _ _ _ n _ rfl, List.append_assoc, sl_right _ _ _ n _ rfl]
      exact sl_flat _ (s + 4) i n _ hin z.lp k h2 (lpD_all f)
    have g0 := g 0 s (by omega)
    rw [Nat.add_zero] at g0
    rw [g0, g s 4 (by omega)]
    have b0 := b.lp _ hm
    have e1 := nb_len_of hf.1
    have e2 : (nb z.lp[k].2 4).length = 4 := nb_len4 hf.2
    unfold lpD
    rw [sl_all _ _ _ e1, sl_right _ _ 0 4 _ (by omega)]
    have := sl_all (nb z.lp[k].2 4) [] 4 e2
    rw [List.append_nil] at this
    rw [this, rd_nb hf.1 b0.1, rd_nb4 hf.2 b0.2]
theorem r_zone {h : hd.Hd} {z : Zn} {s : Nat} (e : Same h z) (f : fits z s = true) (b : Bd z) (ho : okC z = true) (r : List Nat) : gZ h (dat z s ++ r) s = ⟨z.ty, z.tr, z.lp, ⟨#[]⟩, z.v⟩ := by
  unfold gZ
  rw [r_pool e f, r_ty e f b ho, r_tr e f b, r_lp e f b, e.v]
theorem r_mkd {h : hd.Hd} {z : Zn} {s : Nat} (e : Same h z) (f : fits z s = true) (b : Bd z) (ho : okC z = true) (r : List Nat) : mkdB h (dat z s ++ r) s = true := by
  unfold mkdB
  rw [List.all_eq_true]
  intro k hk
  rw [List.mem_range, e.ty, Int.toNat_natCast] at hk
  rw [r_mk e f b ho r k hk]
  exact mk_b01 _
theorem r_nmd {h : hd.Hd} {z : Zn} {s : Nat} (e : Same h z) (f : fits z s = true) (b : Bd z) (ho : okC z = true) (r : List Nat) : nmdB h (dat z s ++ r) s = true := by
  unfold nmdB
  rw [List.all_eq_true]
  intro k hk
  rw [List.mem_range, e.ty, Int.toNat_natCast] at hk
  rw [r_pool e f, r_pl e f b ho r k hk]
  unfold aB
  rw [at_name ho _ (List.getElem_mem hk)]
  rfl
/-- what behind the data is read: the marks alone. -/
theorem dv_of {h : hd.Hd} {z : Zn} {s : Nat} (e : Same h z) (f : fits z s = true) (b : Bd z) (ho : okC z = true) (h1 : hd.Ok h) (hs : s = 4 ∨ s = 8) (r : List Nat) (hr : r.length = h.sd.toNat + h.ut.toNat) : dv h (dat z s ++ r) s = amB (r.take h.sd.toNat) (r.drop h.sd.toNat) := by
  unfold dv
  have hl := dat_len e f
  rw [nat_len h1 hs (by rw [List.length_append, hl]; unfold P5; omega), Int.toNat_natCast, r_mkd e f b ho, r_nmd e f b ho]
  simp only [Bool.true_and]
  congr 1
  · unfold sl
    rw [← hl, List.drop_left]
  · unfold sl P5
    rw [← hl, ← List.drop_drop, List.drop_left, List.take_of_length_le (by rw [List.length_drop]; omega)]
theorem ev_iff {z : Zn} {s : Int} (h : ev z s = true) : okC z = true ∧ (s = 4 ∨ s = 8) ∧ fits z s.toNat = true := by
  unfold ev sz48 at h
  simp only [Bool.and_eq_true, Bool.or_eq_true, beq_iff_eq] at h
  exact ⟨h.1.1, h.1.2, h.2⟩
def noFt (z : Zn) : Zn := ⟨z.ty, z.tr, z.lp, ⟨#[]⟩, z.v⟩
theorem back {z : Zn} {s : Int} (b : Bd z) (h : ev z s = true) : dv (cnt z) (dat z s.toNat) s = true ∧ gZ (cnt z) (dat z s.toNat) s.toNat = noFt z ∧ ((dat z s.toNat).length : Int) = hd.sz (cnt z) s := by
  obtain ⟨ho, hs, f⟩ := ev_iff h
  obtain ⟨n, rfl⟩ : ∃ n : Nat, s = n := ⟨s.toNat, by omega⟩
  rw [Int.toNat_natCast] at *
  have e := same_cnt ho
  have hn : n = 4 ∨ n = 8 := by omega
  have h1 := dv_of e f b ho (hd.ok_iff.1 ho) hn [] rfl
  have h2 := r_zone e f b ho []
  rw [List.append_nil] at h1 h2
  refine ⟨h1.trans rfl, h2, ?_⟩
  have hl := dat_len e f
  have k := nat_len (h := cnt z) (l := dat z n) (s := n) (hd.ok_iff.1 ho) hn (by rw [hl]; unfold P5; rfl)
  unfold lenB at k
  rw [Bool.and_eq_true, beq_iff_eq] at k
  exact k.2
theorem dec_back {z : Zn} {s : Int} (b : Bd z) (h : ev z s = true) : dec (cnt z) (dat z s.toNat) s = noFt z := by
  obtain ⟨h1, h2, _⟩ := back b h
  unfold dec
  rw [if_pos h1, h2]
end Go.Proofs.Ytllficloadncfaa.bk

/-
  What memory keeps, in small steps: blocks that are new or old, old memory behind calls, listed variables, loads and stores of whole rows, regions that draw their order around calls that make memory. Nothing of any one function. Conditions: as said.
-/
namespace Go.Proofs.Ytllficloadncfaa.mem
open Go.ChangeShapes Go.WideShapes Go.ChangeAt Go.RowKit
set_option linter.unusedVariables false
set_option maxRecDepth 100000

theorem bal {w W : World} (hb : Below w.heap.size w W) (o : Obj) : Below w.heap.size w (W.alloc o) := hb.alloc hb.size o
theorem btr {w W W' : World} (hb : Below w.heap.size w W) (h : Below W.heap.size W W') : Below w.heap.size w W' := hb.trans (h.mono hb.size)
theorem kept {W W' : World} {g : Nat} {o : Obj} (h : W.heap[g]? = some o) (hb : Below W.heap.size W W') : W'.heap[g]? = some o := by
  rw [hb.block g (Array.getElem?_eq_some_iff.1 h).1]; exact h
theorem hp_lt {w : World} {k : Nat} {v : Obj} (h : w.heap[k]? = some v) : k < w.heap.size := (Array.getElem?_eq_some_iff.1 h).1
theorem hp_new (w : World) (o : Obj) : (w.alloc o).heap[w.heap.size]? = some o := heap_alloc_new w o
theorem hp_old {w : World} {k : Nat} {v : Obj} (h : w.heap[k]? = some v) (o : Obj) : (w.alloc o).heap[k]? = some v := by
  rw [Below.heap_alloc w o k (hp_lt h)]; exact h
theorem hp_new1 (w : World) (a o : Obj) : ((w.alloc a).alloc o).heap[w.heap.size + 1]? = some o := heap_alloc2_new w a o
theorem bel_setRow {B : Nat} {a w : World} (h : Below B a w) {g : Nat} (hg : B ≤ g) (c : Array Value) : Below B a (w.setRow g c) :=
  h.trans ⟨rfl, rfl, rfl, by simp, fun k hk => setRow_other _ _ _ _ (by omega)⟩
theorem bel_drewN {B : Nat} {a w : World} (h : Below B a w) (n : Nat) : Below B a (w.drewN n) := ⟨h.os, h.tape, h.output, h.size, h.block⟩
theorem row_cell {w : World} {g : Nat} {c : Array Value} {t : TypeId} {fr : Nat × Nat} (h : w.heap[g]? = some (.cells c t fr)) (j : Nat) : w.cell? ⟨g, j, none⟩ = c[j]? := by
  simp [World.cell?, h]
theorem below_grow (w : World) (k : Nat) (os : Array Obj) : Below w.heap.size w (Sort.grow (w.drewN k) os) :=
  (bel_drewN (Below.refl _ _) k).trans ⟨rfl, rfl, rfl, by simp, fun j hj => by
    simp only [Sort.grow]
    rw [Array.getElem?_append_left (by exact hj)]⟩
theorem ret_bool {b : Bool} (h : b = true) : Ending.returned (.bool b) = .returned (.bool true) := by rw [h]
theorem ret_s {a b : ByteArray} (h : a = b) : Ending.returned (.string a) = .returned (.string b) := by rw [h]
/-- 'return x', x a struct in the result's row. -/
theorem end_row {fn : Func} {R : Ending → World → Prop} {p : Tmp} {ty : TypeId} (hr : fn.results = #[.cell p ty]) (a : Act) (w : World) (g : Nat) (t : TypeId) (c : Array Value) (fs : Array Field)
    (hp : a.tmps.getD p undef = .pointer (some ⟨g, 0, none⟩)) (hg : w.heap[g]? = some (.cells c t (0, 0))) (hu : Try.prog.underlying ty = some (.struct fs))
    (hi : (Try.prog.info? ty).map (·.size) = some c.size) (hdf : a.defers = []) (h : R (.returned (.agg c)) w) : bodyPost Try.prog fn R .ret a w :=
  bodyPost_ret (v := .agg c) (results_cell_row hr _ _ g t c (0, 0) _ hp hg hu rfl hi) hdf h

/-! listed variables -/
theorem laid_at {P : Program} {W : World} {n : String} {d : DataW Unit} {g : Nat} {t : TypeId} (hg : P.globalNamed n = some g) (ht : (P.globals[g]?).map (·.type) = some t) :
    ∀ (l : List (String × DataW Unit)) (ps : List MemPlace), DataW.LaidVars P W l ps → (n, d) ∈ l → ∃ (cs : Array Value) (fuel : Nat) (p : List MemPlace), W.var? P n = some cs ∧ DataW.trod (fun _ => ()) P W 0 (fun _ => true) false fuel t cs.toList = some (d, p)
  | [], _, _, h => by cases h
  | (n', d') :: r, ps, h, hm => by
    obtain ⟨g', t', cs, fuel, p, q, h1, h2, h3, h4, h5, rfl⟩ := h
    rcases List.mem_cons.1 hm with e | hm
    · cases e
      obtain rfl := Option.some.inj (hg.symm.trans h1)
      obtain rfl := Option.some.inj (ht.symm.trans h2)
      exact ⟨cs, fuel, p, h3, h4⟩
    · exact laid_at hg ht r q h5 hm

/-! regions that draw their order around calls that make memory -/
theorem qload {P : Program} {ops : Array Oper} {C : World → Prop} {Q : Act → Prop} {a : Act} {o : Oper} {rest : List Oper} (hw : Region.wanted o (yielded ops a.tmps) = true) (ty : TypeId) (x : Operand) (ho : o.op = .load ty x) (p : Addr) (hx : a.eval x = .pointer (some p)) (c : Array Value)
    (hl : ∀ W, C W → (loadVar ty p).run P W = .ok (.agg c) W) (h : wpQuiet P ops C Q rest (a.put o.dst (.agg c))) : wpQuiet P ops C Q (o :: rest) a := by
  refine wpQuiet_step (fun K hK => ?_)
  rw [if_pos hw]
  refine ⟨.agg c, fun W hW => ?_, hK _ h⟩
  unfold Oper.quietAt execOp
  simp only [ho, hx, Instr.loadAt, Instr.sureAddr, Sem.run_bind, Sem.run_pure, Result.andThen_ok, hl W hW]
  exact ⟨rfl, rfl⟩
theorem below_of {f : FuncId} {args : Array Value} {v : Value} (h : ∀ W : World, Calls Try.prog f args W fun e w' => e = .returned v ∧ Below W.heap.size W w') (w : World) (d : Nat) (os : Array Obj) :
    Calls Try.prog f args (Sort.grow (redrawn w d) os) fun e w'' => e = .returned v ∧ ∃ p : Regrown, w'' = Sort.grow (redrawn w p.d) p.os := Calls.regrown_of (h _)
/-- the same of a callee that asks something of the memory which old memory keeps. -/
theorem below_at {f : FuncId} {args : Array Value} {v : Value} {T : World → Prop} {w : World} (h : ∀ W : World, T W → Calls Try.prog f args W fun e w' => e = .returned v ∧ Below W.heap.size W w') (hk : ∀ W, Below w.heap.size w W → T W) (d : Nat) (os : Array Obj) :
    Calls Try.prog f args (Sort.grow (redrawn w d) os) fun e w'' => e = .returned v ∧ ∃ p : Regrown, w'' = Sort.grow (redrawn w p.d) p.os := Calls.regrown_of (h _ (hk _ (below_regrown w d os)))
theorem same_of {f : FuncId} {args : Array Value} {v : Value} (h : ∀ W : World, Calls Try.prog f args W fun e w' => e = .returned v ∧ W = w') (w : World) (d : Nat) (os : Array Obj) :
    Calls Try.prog f args (Sort.grow (redrawn w d) os) fun e w'' => e = .returned v ∧ ∃ p : Regrown, w'' = Sort.grow (redrawn w p.d) p.os :=
  (h _).mono fun e w' ⟨he, hw⟩ => ⟨he, ⟨d, os⟩, hw.symm⟩
end Go.Proofs.Ytllficloadncfaa.mem
