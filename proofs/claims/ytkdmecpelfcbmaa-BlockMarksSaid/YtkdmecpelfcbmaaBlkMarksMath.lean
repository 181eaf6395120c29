/-
  Marks behind a zone's data: rows of noughts in which one or two places are others. Conditions: as said.
-/
import Derived.Test.YtkdmecpelfcbmaaBlkAre
import Derived.Test.YtkdmecpelfcbmaaBlkUse
namespace Go.Proofs.Ytkdmecpelfcbmaa.blk
open om oct bk
set_option linter.unusedVariables false
set_option maxRecDepth 100000

theorem getD_set (l : List Nat) (i x j : Nat) : (l.set i x).getD j 0 = if i = j ∧ i < l.length then x else l.getD j 0 := by
  rw [List.getD_eq_getElem?_getD, List.getElem?_set, List.getD_eq_getElem?_getD]
  by_cases h : i = j
  · subst h
    by_cases h2 : i < l.length
    · simp [h2]
    · simp [h2]
  · simp [h]
theorem getD_zero (m j : Nat) : (List.replicate m 0).getD j 0 = 0 := by
  rw [List.getD_eq_getElem?_getD, List.getElem?_replicate]
  split <;> rfl
theorem take_getD (r : List Nat) {n j : Nat} (h : j < n) : (r.take n).getD j 0 = r.getD j 0 := by
  rw [List.getD_eq_getElem?_getD, List.getD_eq_getElem?_getD, List.getElem?_take_of_lt h]
theorem drop_getD (r : List Nat) (n j : Nat) : (r.drop n).getD j 0 = r.getD (n + j) 0 := by
  rw [List.getD_eq_getElem?_getD, List.getD_eq_getElem?_getD, List.getElem?_drop]
theorem getD_get {l : List Nat} {k : Nat} (h : k < l.length) : l[k] = l.getD k 0 := by
  rw [List.getD_eq_getElem?_getD, List.getElem?_eq_getElem h]; rfl
theorem ut_is (r : List Nat) {n j : Nat} (hr : r.length = 2 * n) (h : j < n) : utB (r.take n) (r.drop n) j = (mkB (r.getD (n + j) 0 : Nat) && !(r.getD (n + j) 0 == 1 && !(r.getD j 0 == 1))) := by
  unfold utB
  have hl : (r.take n).length = n := by rw [List.length_take]; omega
  rw [hl, decide_eq_true h, Bool.true_and, take_getD r h, drop_getD]
theorem marks_yes {r : List Nat} {n : Nat} (hr : r.length = 2 * n) (h1 : ∀ j, j < n → mkB (r.getD j 0 : Nat) = true) (h2 : ∀ j, j < n → (mkB (r.getD (n + j) 0 : Nat) && !(r.getD (n + j) 0 == 1 && !(r.getD j 0 == 1))) = true) : amB (r.take n) (r.drop n) = true := by
  refine am_yes (fun k hk => ?_) (fun k hk => ?_)
  · rw [List.length_take] at hk
    rw [take_getD r (by omega)]
    exact h1 k (by omega)
  · rw [List.length_drop] at hk
    rw [ut_is r hr (by omega)]
    exact h2 k (by omega)
theorem marks_no1 {r : List Nat} {n k : Nat} (hr : r.length = 2 * n) (hk : k < n) (h : mkB (r.getD k 0 : Nat) = false) : amB (r.take n) (r.drop n) = false := by
  have hl : k < (r.take n).length := by rw [List.length_take]; omega
  refine am_no1 hl ?_
  rw [getD_get hl, take_getD r hk]
  exact h
theorem marks_no2 {r : List Nat} {n k : Nat} (hr : r.length = 2 * n) (hk : k < n) (h : (mkB (r.getD (n + k) 0 : Nat) && !(r.getD (n + k) 0 == 1 && !(r.getD k 0 == 1))) = false) : amB (r.take n) (r.drop n) = false := by
  refine am_no2 (k := k) (by rw [List.length_drop]; omega) ?_
  rw [ut_is r hr hk]
  exact h
/-- the marks of the statement, one after the other. -/
def R0 (n : Nat) : List Nat := List.replicate (2 * n) 0
def R1 (n k : Nat) : List Nat := (R0 n).set (n + k) 1
def R2 (n k : Nat) : List Nat := (R1 n k).set k 1
def R3 (n k : Nat) : List Nat := (R2 n k).set k 2
theorem len0 (n : Nat) : (R0 n).length = 2 * n := by unfold R0; simp
theorem len1 (n k : Nat) : (R1 n k).length = 2 * n := by unfold R1; rw [List.length_set, len0]
theorem len2 (n k : Nat) : (R2 n k).length = 2 * n := by unfold R2; rw [List.length_set, len1]
theorem len3 (n k : Nat) : (R3 n k).length = 2 * n := by unfold R3; rw [List.length_set, len2]
theorem g0 (n j : Nat) : (R0 n).getD j 0 = 0 := getD_zero _ _
theorem g1 {n k : Nat} (h : k < n) (j : Nat) : (R1 n k).getD j 0 = if n + k = j then 1 else 0 := by
  unfold R1
  rw [getD_set, g0, len0]
  by_cases e : n + k = j
  · rw [if_pos ⟨e, by omega⟩, if_pos e]
  · rw [if_neg (fun h => e h.1), if_neg e]
theorem g2 {n k : Nat} (h : k < n) (j : Nat) : (R2 n k).getD j 0 = if k = j then 1 else if n + k = j then 1 else 0 := by
  unfold R2
  rw [getD_set, g1 h, len1]
  by_cases e : k = j
  · rw [if_pos ⟨e, by omega⟩, if_pos e]
  · rw [if_neg (fun h => e h.1), if_neg e]
theorem g3 {n k : Nat} (h : k < n) (j : Nat) : (R3 n k).getD j 0 = if k = j then 2 else if n + k = j then 1 else 0 := by
  unfold R3
  rw [getD_set, g2 h, len2]
  by_cases e : k = j
  · rw [if_pos ⟨e, by omega⟩, if_pos e]
  · rw [if_neg (fun h => e h.1), if_neg e, if_neg e]
theorem m0 (n : Nat) : amB ((R0 n).take n) ((R0 n).drop n) = true := marks_yes (len0 n) (fun j _ => by rw [g0]; rfl) (fun j _ => by rw [g0, g0]; rfl)
theorem m1 {n k : Nat} (h : k < n) : amB ((R1 n k).take n) ((R1 n k).drop n) = false := marks_no2 (len1 n k) h (by rw [g1 h, g1 h, if_pos rfl, if_neg (by omega)]; rfl)
theorem m2 {n k : Nat} (h : k < n) : amB ((R2 n k).take n) ((R2 n k).drop n) = true := marks_yes (len2 n k) (fun j hj => by
    rw [g2 h]
    by_cases e : k = j
    · rw [if_pos e]; rfl
    · rw [if_neg e, if_neg (by omega)]; rfl) (fun j hj => by
    rw [g2 h, g2 h]
    by_cases e : k = j
    · subst e
      rw [if_neg (by omega), if_pos rfl, if_pos rfl]; rfl
    · rw [if_neg (by omega), if_neg (by omega), if_neg e, if_neg (by omega)]; rfl)
theorem m3 {n k : Nat} (h : k < n) : amB ((R3 n k).take n) ((R3 n k).drop n) = false := marks_no1 (len3 n k) h (by rw [g3 h, if_pos rfl]; rfl)
/-- the head with marks. -/
def mh (z : Zn) : hd.Hd := ⟨z.v, z.ty.length, z.ty.length, z.lp.length, z.tr.length, z.ty.length, (ab.pT (nmL z.ty)).length⟩
theorem marks_dv {z : Zn} {s : Int} (b : Bd z) (h : ev z s = true) (r : List Nat) (hr : r.length = 2 * z.ty.length) : dv (mh z) (enc z s ++ r) s = amB (r.take z.ty.length) (r.drop z.ty.length) ∧ gZ (mh z) (enc z s ++ r) s.toNat = noFt z := by
  obtain ⟨ho, hs, f⟩ := ev_iff h
  obtain ⟨n, rfl⟩ : ∃ n : Nat, s = n := ⟨s.toNat, by omega⟩
  rw [enc_yes h]
  rw [Int.toNat_natCast] at *
  have e : Same (mh z) z := ⟨rfl, rfl, rfl, rfl, (same_cnt ho).ch⟩
  have hok : hd.Ok (mh z) := by
    have := hd.ok_iff.1 ho
    obtain ⟨k1, _, _, k4, k5, k6, k7⟩ := this
    exact ⟨k1, Or.inr rfl, Or.inr rfl, k4, k5, k6, k7⟩
  have hn : n = 4 ∨ n = 8 := by omega
  exact ⟨dv_of e f b ho hok hn r (by show r.length = (z.ty.length : Int).toNat + (z.ty.length : Int).toNat; omega), r_zone e f b ho r⟩
end Go.Proofs.Ytkdmecpelfcbmaa.blk
