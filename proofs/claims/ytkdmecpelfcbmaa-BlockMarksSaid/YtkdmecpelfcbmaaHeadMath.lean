/-
  Plain mathematics: heads of files of zones, when they are right, their bytes, what is read of bytes, and how many bytes follow. Nothing of any program. Conditions: as said.
-/
import Derived.Test.YtkdmecpelfcbmaaOctMath
namespace Go.Proofs.Ytkdmecpelfcbmaa.hd
open om
set_option linter.unusedVariables false
set_option maxRecDepth 100000

/-- a head: its version and its six counts. -/
structure Hd where
  v : Int
  ut : Int
  sd : Int
  lp : Int
  tm : Int
  ty : Int
  ch : Int
theorem Hd.ext7 {a b : Hd} (h1 : a.v = b.v) (h2 : a.ut = b.ut) (h3 : a.sd = b.sd) (h4 : a.lp = b.lp) (h5 : a.tm = b.tm) (h6 : a.ty = b.ty) (h7 : a.ch = b.ch) : a = b := by
  cases a; cases b; simp_all
def fromB (a n b : Int) : Bool := decide (a ≤ n) && decide (n ≤ b)
def noneB (n a : Int) : Bool := (n == 0) || (n == a)
/-- is it right? -/
def okB (h : Hd) : Bool := fromB 1 h.v 4 && noneB h.ut h.ty && noneB h.sd h.ty && fromB 0 h.lp 201 && fromB 0 h.tm 2000 && fromB 1 h.ty 64 && fromB 1 h.ch 256
theorem from_iff {a n b : Int} : fromB a n b = true ↔ a ≤ n ∧ n ≤ b := by unfold fromB; simp
theorem none_iff {n a : Int} : noneB n a = true ↔ n = 0 ∨ n = a := by unfold noneB; simp
def Ok (h : Hd) : Prop := (1 ≤ h.v ∧ h.v ≤ 4) ∧ (h.ut = 0 ∨ h.ut = h.ty) ∧ (h.sd = 0 ∨ h.sd = h.ty) ∧ (0 ≤ h.lp ∧ h.lp ≤ 201) ∧ (0 ≤ h.tm ∧ h.tm ≤ 2000) ∧ (1 ≤ h.ty ∧ h.ty ≤ 64) ∧ (1 ≤ h.ch ∧ h.ch ≤ 256)
theorem ok_iff {h : Hd} : okB h = true ↔ Ok h := by
  unfold okB Ok
  simp only [Bool.and_eq_true, from_iff, none_iff, and_assoc]
theorem ok_no {h : Hd} : okB h = false ↔ ¬ Ok h := by rw [← ok_iff]; simp
/-- the byte of a version. -/
def vb (v : Int) : Nat := if v = 1 then 0 else (48 + v).toNat
theorem vb_lt {v : Int} (h : v ≤ 200) : vb v < 256 := by unfold vb; split <;> omega
/-- what stands ahead of the numbers. -/
def pref (v : Int) : List Nat := [84, 90, 105, 102, vb v, 0, 0, 0, 0, 0, 0, 0, 0, 0, 0, 0, 0, 0, 0, 0]
def nums (h : Hd) : List Int := [h.ut, h.sd, h.lp, h.tm, h.ty, h.ch]
/-- numbers, in four bytes each. -/
def lay4s : List Int → List Nat
  | [] => []
  | n :: l => lay n 4 ++ lay4s l
theorem lay4s_snoc : ∀ (l : List Int) (n : Int), lay4s (l ++ [n]) = lay4s l ++ lay n 4
  | [], n => by simp [lay4s]
  | m :: l, n => by rw [List.cons_append, lay4s, lay4s_snoc l n, lay4s, List.append_assoc]
theorem lay4s_len : ∀ l : List Int, (lay4s l).length = 4 * l.length
  | [] => rfl
  | n :: l => by rw [lay4s, List.length_append, lay_len, lay4s_len l, List.length_cons]; omega
theorem lay4s_bys : ∀ l : List Int, Bys (lay4s l)
  | [] => bys_nil
  | n :: l => (lay_bys n 4).app (lay4s_bys l)
/-- a head's bytes. -/
def byts (h : Hd) : List Nat := pref h.v ++ lay4s (nums h)
theorem byts_len (h : Hd) : (byts h).length = 44 := by unfold byts; rw [List.length_append, lay4s_len]; rfl
theorem pref_bys {v : Int} (h : v ≤ 200) : Bys (pref v) := by
  intro x hx
  unfold pref at hx
  have := vb_lt h
  simp only [List.mem_cons, List.not_mem_nil, or_false] at hx
  omega
theorem byts_bys {h : Hd} (k : okB h = true) : Bys (byts h) := (pref_bys (by have := (ok_iff.1 k).1; omega)).app (lay4s_bys _)
/-- the bytes that Encode tells. -/
def enc (h : Hd) : List Nat := if okB h = true then byts h else []
theorem enc_yes {h : Hd} (k : okB h = true) : enc h = byts h := if_pos k
theorem enc_no {h : Hd} (k : okB h = false) : enc h = [] := if_neg (by rw [k]; decide)
/-- the six numbers as they are read, four bytes each, the k-th of them. -/
def at4 (l : List Nat) (k : Nat) : Int := rd ((l.drop (20 + 4 * k)).take 4)
/-- the version of a byte: as the program reads it, and as the document does. -/
def vof (c : Int) : Int := if c = 0 then 1 else c - 48
def vdoc (c : Int) : Int := if 48 < c then c - 48 else 1
def cnd (f : Int → Int) (l : List Nat) : Hd := ⟨f (l.getD 4 0 : Nat), at4 l 0, at4 l 1, at4 l 2, at4 l 3, at4 l 4, at4 l 5⟩
/-- has it that head? -/
def isB (f : Int → Int) (l : List Nat) : Bool := decide (44 ≤ l.length) && (okB (cnd f l) && decide (byts (cnd f l) = l.take 44))
theorem fits4 {n : Int} (h : -2147483648 ≤ n ∧ n ≤ 2147483647) : Fits n 4 := by unfold Fits; omega
theorem rd4 {n : Int} (h : -2147483648 ≤ n ∧ n ≤ 2147483647) : rd (lay n 4) = n := rd_lay (z := 4) (fits4 h) (by omega) (by omega)
theorem drop_len {a b : List Nat} {n : Nat} (h : a.length = n) : (a ++ b).drop n = b := by rw [← h, List.drop_left']; rfl
theorem take_len {a b : List Nat} {n : Nat} (h : a.length = n) : (a ++ b).take n = a := by rw [← h, List.take_left']; rfl
theorem at4_num (v : Int) (ns : List Int) (r : List Nat) (k : Nat) (h : k < ns.length) (hb : -2147483648 ≤ ns[k] ∧ ns[k] ≤ 2147483647) : at4 (pref v ++ lay4s ns ++ r) k = ns[k] := by
  unfold at4
  have e : ns = ns.take k ++ ns[k] :: ns.drop (k + 1) := by rw [← List.drop_eq_getElem_cons h, List.take_append_drop]
  have l2 : ∀ a b : List Int, lay4s (a ++ b) = lay4s a ++ lay4s b := fun a b => by
    induction a with
    | nil => rfl
    | cons x a ih => rw [List.cons_append, lay4s, ih, lay4s, List.append_assoc]
  have e2 : pref v ++ lay4s ns ++ r = (pref v ++ lay4s (ns.take k)) ++ (lay ns[k] 4 ++ (lay4s (ns.drop (k + 1)) ++ r)) := by
    conv => lhs; rw [e]
    rw [l2, lay4s]
    simp only [List.append_assoc]
  rw [e2, drop_len (by rw [List.length_append, lay4s_len, List.length_take, Nat.min_eq_left (by omega)]; rfl), take_len (lay_len _ _), rd4 hb]
/-- a head's bytes, whatever follows, are read as it. -/
theorem cnd_byts {f : Int → Int} (hf : ∀ v, 1 ≤ v → v ≤ 4 → f (vb v : Nat) = v) {h : Hd} (k : Ok h) (r : List Nat) : cnd f (byts h ++ r) = h := by
  obtain ⟨k1, k2, k3, k4, k5, k6, k7⟩ := k
  unfold cnd byts
  apply Hd.ext7
  · show f (((pref h.v ++ lay4s (nums h) ++ r).getD 4 0 : Nat) : Int) = h.v
    rw [show (pref h.v ++ lay4s (nums h) ++ r).getD 4 0 = vb h.v from rfl]
    exact hf _ k1.1 k1.2
  · exact at4_num h.v (nums h) r 0 (show 0 < 6 by decide) (by simp only [nums, List.getElem_cons_zero]; omega)
  · exact at4_num h.v (nums h) r 1 (show 1 < 6 by decide) (by simp only [nums, List.getElem_cons_zero, List.getElem_cons_succ]; omega)
  · exact at4_num h.v (nums h) r 2 (show 2 < 6 by decide) (by simp only [nums, List.getElem_cons_zero, List.getElem_cons_succ]; omega)
  · exact at4_num h.v (nums h) r 3 (show 3 < 6 by decide) (by simp only [nums, List.getElem_cons_zero, List.getElem_cons_succ]; omega)
  · exact at4_num h.v (nums h) r 4 (show 4 < 6 by decide) (by simp only [nums, List.getElem_cons_zero, List.getElem_cons_succ]; omega)
  · exact at4_num h.v (nums h) r 5 (show 5 < 6 by decide) (by simp only [nums, List.getElem_cons_zero, List.getElem_cons_succ]; omega)
theorem vof_vb (v : Int) (h1 : 1 ≤ v) (h2 : v ≤ 4) : vof (vb v : Nat) = v := by
  unfold vof vb
  split <;> split <;> omega
theorem vdoc_vb (v : Int) (h1 : 1 ≤ v) (h2 : v ≤ 4) : vdoc (vb v : Nat) = v := by
  unfold vdoc vb
  split <;> split <;> omega
/-- bytes begin with a head's. -/
def Heads (h : Hd) (l : List Nat) : Prop := okB h = true ∧ byts h = l.take 44
theorem is_iff {f : Int → Int} (hf : ∀ v, 1 ≤ v → v ≤ 4 → f (vb v : Nat) = v) {l : List Nat} {h : Hd} : isB f l = true ∧ cnd f l = h ↔ Heads h l := by
  unfold isB Heads
  simp only [Bool.and_eq_true, decide_eq_true_eq]
  constructor
  · rintro ⟨⟨h1, h2, h3⟩, rfl⟩
    exact ⟨h2, h3⟩
  · rintro ⟨h1, h2⟩
    have hl : 44 ≤ l.length := by
      have := congrArg List.length h2
      rw [byts_len, List.length_take] at this
      omega
    have e : l = byts h ++ l.drop 44 := by rw [h2, List.take_append_drop]
    have e2 : cnd f l = h := by rw [e]; exact cnd_byts hf (ok_iff.1 h1) _
    rw [e2]
    exact ⟨⟨hl, h1, h2⟩, rfl⟩
/-- what Decode tells. -/
def zero : Hd := ⟨0, 0, 0, 0, 0, 0, 0⟩
def dec (f : Int → Int) (l : List Nat) : Hd := if isB f l = true then cnd f l else zero
theorem dec_yes {f : Int → Int} {l : List Nat} (h : isB f l = true) : dec f l = cnd f l := if_pos h
theorem dec_no {f : Int → Int} {l : List Nat} (h : isB f l = false) : dec f l = zero := if_neg (by rw [h]; decide)
theorem is_same (l : List Nat) : isB vdoc l = isB vof l := by
  rw [Bool.eq_iff_iff]
  constructor
  · intro h
    exact ((is_iff vof_vb).2 ((is_iff vdoc_vb).1 ⟨h, rfl⟩)).1
  · intro h
    exact ((is_iff vdoc_vb).2 ((is_iff vof_vb).1 ⟨h, rfl⟩)).1
theorem dec_same (l : List Nat) : dec vdoc l = dec vof l := by
  unfold dec
  rw [is_same]
  split
  · rename_i h
    have := ((is_iff vdoc_vb).2 ((is_iff vof_vb).1 ⟨h, rfl⟩)).2
    exact this
  · rfl
/-- how many bytes follow. -/
def szOk (h : Hd) (s : Int) : Bool := okB h && ((s == 4) || (s == 8))
def szv (h : Hd) (s : Int) : Int := h.tm * (s + 1) + h.ty * 6 + h.ch + h.lp * (s + 4) + h.sd + h.ut
def sz (h : Hd) (s : Int) : Int := if szOk h s = true then szv h s else 0
theorem sz_yes {h : Hd} {s : Int} (k : szOk h s = true) : sz h s = szv h s := if_pos k
theorem sz_no {h : Hd} {s : Int} (k : szOk h s = false) : sz h s = 0 := if_neg (by rw [k]; decide)
theorem szb_iff {h : Hd} {s : Int} : szOk h s = true ↔ Ok h ∧ (s = 4 ∨ s = 8) := by unfold szOk; simp [ok_iff]
/-- unlike heads have unlike bytes. -/
theorem byts_inj {h g : Hd} (kh : okB h = true) (kg : okB g = true) (e : byts h = byts g) : h = g := by
  rw [← cnd_byts vof_vb (ok_iff.1 kh) [], ← cnd_byts vof_vb (ok_iff.1 kg) [], e]
/-- no beginning is one. -/
theorem is_short {f : Int → Int} {l : List Nat} (h : l.length < 44) : isB f l = false := by
  unfold isB
  rw [decide_eq_false (by omega)]
  rfl
theorem is_byts {h : Hd} (k : okB h = true) (r : List Nat) : isB vof (byts h ++ r) = true ∧ dec vof (byts h ++ r) = h := by
  have q : Heads h (byts h ++ r) := ⟨k, (take_len (byts_len h)).symm⟩
  have := (is_iff vof_vb).2 q
  exact ⟨this.1, by rw [dec_yes this.1]; exact this.2⟩
end Go.Proofs.Ytkdmecpelfcbmaa.hd
