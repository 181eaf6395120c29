/-
  What the document's own answers of layer 15 are, but for Decode: is a head right, its bytes, how many bytes follow. Condition: none.
-/
import Derived.Test.YtkbpmopnphcfjaaHeadUse
import Derived.Test.YtkbpmopnphcfjaaRef13Num
namespace Go.Proofs.Ytkbpmopnphcfjaa.ref15
open Go.ChangeShapes Go.WideShapes Go.ChangeAt Go.RowKit
open om mem oct hd head
set_option linter.unusedVariables false
set_option maxRecDepth 100000

set_option maxHeartbeats 8000000 in
theorem right_at (h : Hd) (w : World) : Calls Try.prog 14 #[(.agg #[.int .i64 h.v, .int .i64 h.ut, .int .i64 h.sd, .int .i64 h.lp, .int .i64 h.tm, .int .i64 h.ty, .int .i64 h.ch])] w fun e w' => e = .returned (.bool (hd.okB h)) ∧ Below w.heap.size w w' := by
  by_cases g0 : h.v < 1
  · rw [show hd.okB h = false from hd.ok_no.2 (by unfold Ok; omega)]
    obtain ⟨v, ut, sd, lp, tm, ty, ch⟩ := h
    simp only at *
    go_enter Try.func14, Try.ntmps14
    go_wp2
    go_ret
    exact ⟨rfl, bal (Below.refl _ _) _⟩
  by_cases g1 : 4 < h.v
  · rw [show hd.okB h = false from hd.ok_no.2 (by unfold Ok; omega)]
    obtain ⟨v, ut, sd, lp, tm, ty, ch⟩ := h
    simp only at *
    go_enter Try.func14, Try.ntmps14
    go_wp2
    go_ret
    exact ⟨rfl, bal (Below.refl _ _) _⟩
  by_cases g2 : h.ty < 1
  · rw [show hd.okB h = false from hd.ok_no.2 (by unfold Ok; omega)]
    obtain ⟨v, ut, sd, lp, tm, ty, ch⟩ := h
    simp only at *
    go_enter Try.func14, Try.ntmps14
    go_wp2
    go_ret
    exact ⟨rfl, bal (Below.refl _ _) _⟩
  by_cases g3 : 64 < h.ty
  · rw [show hd.okB h = false from hd.ok_no.2 (by unfold Ok; omega)]
    obtain ⟨v, ut, sd, lp, tm, ty, ch⟩ := h
    simp only at *
    go_enter Try.func14, Try.ntmps14
    go_wp2
    go_ret
    exact ⟨rfl, bal (Below.refl _ _) _⟩
  by_cases g4 : h.ch < 1
  · rw [show hd.okB h = false from hd.ok_no.2 (by unfold Ok; omega)]
    obtain ⟨v, ut, sd, lp, tm, ty, ch⟩ := h
    simp only at *
    go_enter Try.func14, Try.ntmps14
    go_wp2
    go_ret
    exact ⟨rfl, bal (Below.refl _ _) _⟩
  by_cases g5 : 256 < h.ch
  · rw [show hd.okB h = false from hd.ok_no.2 (by unfold Ok; omega)]
    obtain ⟨v, ut, sd, lp, tm, ty, ch⟩ := h
    simp only at *
    go_enter Try.func14, Try.ntmps14
    go_wp2
    go_ret
    exact ⟨rfl, bal (Below.refl _ _) _⟩
  by_cases g6 : h.lp < 0
  · rw [show hd.okB h = false from hd.ok_no.2 (by unfold Ok; omega)]
    obtain ⟨v, ut, sd, lp, tm, ty, ch⟩ := h
    simp only at *
    go_enter Try.func14, Try.ntmps14
    go_wp2
    go_ret
    exact ⟨rfl, bal (Below.refl _ _) _⟩
  by_cases g7 : 201 < h.lp
  · rw [show hd.okB h = false from hd.ok_no.2 (by unfold Ok; omega)]
    obtain ⟨v, ut, sd, lp, tm, ty, ch⟩ := h
    simp only at *
    go_enter Try.func14, Try.ntmps14
    go_wp2
    go_ret
    exact ⟨rfl, bal (Below.refl _ _) _⟩
  by_cases g8 : h.tm < 0
  · rw [show hd.okB h = false from hd.ok_no.2 (by unfold Ok; omega)]
    obtain ⟨v, ut, sd, lp, tm, ty, ch⟩ := h
    simp only at *
    go_enter Try.func14, Try.ntmps14
    go_wp2
    go_ret
    exact ⟨rfl, bal (Below.refl _ _) _⟩
  by_cases g9 : 2000 < h.tm
  · rw [show hd.okB h = false from hd.ok_no.2 (by unfold Ok; omega)]
    obtain ⟨v, ut, sd, lp, tm, ty, ch⟩ := h
    simp only at *
    go_enter Try.func14, Try.ntmps14
    go_wp2
    go_ret
    exact ⟨rfl, bal (Below.refl _ _) _⟩
  have a : hd.okB h = (((h.ut == 0) || (h.ut == h.ty)) && ((h.sd == 0) || (h.sd == h.ty))) := by
    rw [Bool.eq_iff_iff, hd.ok_iff]
    unfold Ok
    simp only [Bool.and_eq_true, Bool.or_eq_true, beq_iff_eq]
    omega
  rw [a]
  clear a
  obtain ⟨v, ut, sd, lp, tm, ty, ch⟩ := h
  simp only at *
  by_cases u0 : ut = 0
  · subst u0
    by_cases s0 : sd = 0
    · subst s0
      go_enter Try.func14, Try.ntmps14
      go_wp2
      go_ret
      exact ⟨rfl, bal (Below.refl _ _) _⟩
    · have t0 : (sd == 0) = false := by simpa using s0
      rw [t0]
      clear s0
      go_enter Try.func14, Try.ntmps14
      go_wp2
      go_ret
      exact ⟨by first | rfl | simp, bal (Below.refl _ _) _⟩
  · have t1 : (ut == 0) = false := by simpa using u0
    rw [t1]
    clear u0
    by_cases u1 : ut = ty
    · subst u1
      by_cases s0 : sd = 0
      · subst s0
        go_enter Try.func14, Try.ntmps14
        go_wp2
        go_ret
        exact ⟨by first | rfl | simp, bal (Below.refl _ _) _⟩
      · have t0 : (sd == 0) = false := by simpa using s0
        rw [t0]
        clear s0
        go_enter Try.func14, Try.ntmps14
        go_wp2
        go_ret
        exact ⟨by first | rfl | simp, bal (Below.refl _ _) _⟩
    · have t2 : (ut == ty) = false := by simpa using u1
      rw [t2]
      clear u1
      go_enter Try.func14, Try.ntmps14
      go_wp2
      go_ret
      exact ⟨by first | rfl | simp, bal (Below.refl _ _) _⟩
set_option maxHeartbeats 4000000 in
theorem size_at (h : Hd) (s : Int) (w : World) : Calls Try.prog 16 #[(.agg #[.int .i64 h.v, .int .i64 h.ut, .int .i64 h.sd, .int .i64 h.lp, .int .i64 h.tm, .int .i64 h.ty, .int .i64 h.ch]), .int .i64 s] w fun e w' => e = .returned (.int .i64 (sz h s)) ∧ Below w.heap.size w w' := by
  have R := Lib.hid (fun w => right_at h w)
  have T := box_tells h w
  by_cases hok : hd.okB h = true
  · obtain ⟨⟨a1, b1⟩, k2, k3, ⟨a4, b4⟩, ⟨a5, b5⟩, ⟨a6, b6⟩, a7, b7⟩ := hd.ok_iff.1 hok
    have a2 : 0 ≤ h.ut ∧ h.ut ≤ 64 := by omega
    have a3 : 0 ≤ h.sd ∧ h.sd ≤ 64 := by omega
    rw [hok] at R
    obtain ⟨a2, b2⟩ := a2
    obtain ⟨a3, b3⟩ := a3
    clear k2 k3
    by_cases h4 : s = 4
    · subst h4
      rw [sz_yes (szb_iff.2 ⟨hd.ok_iff.1 hok, Or.inl rfl⟩)]
      clear hok
      unfold szv
      rw [show h.tm * (4 + 1) + h.ty * 6 + h.ch + h.lp * (4 + 4) + h.sd + h.ut = 5 * h.tm + 6 * h.ty + h.ch + 8 * h.lp + h.sd + h.ut by omega]
      obtain ⟨v, ut, sd, lp, tm, ty, ch⟩ := h
      simp only at *
      go_enter Try.func16, Try.ntmps16
      go_wp2_with (go_at_call 14; (with_reducible refine (R.out _).mono ?_); rintro e w1 ⟨rfl, hb1⟩; obtain ⟨c0, c1, c2, c3, c4, c5, c6, hb2, hs1⟩ := T.out _ hb1; have HB := Lib.hid hb2; clear hb1 hb2)
      go_ret
      exact ⟨rfl, HB.out⟩
    · by_cases h8 : s = 8
      · subst h8
        rw [sz_yes (szb_iff.2 ⟨hd.ok_iff.1 hok, Or.inr rfl⟩)]
        clear hok h4
        unfold szv
        rw [show h.tm * (8 + 1) + h.ty * 6 + h.ch + h.lp * (8 + 4) + h.sd + h.ut = 9 * h.tm + 6 * h.ty + h.ch + 12 * h.lp + h.sd + h.ut by omega]
        obtain ⟨v, ut, sd, lp, tm, ty, ch⟩ := h
        simp only at *
        go_enter Try.func16, Try.ntmps16
        go_wp2_with (go_at_call 14; (with_reducible refine (R.out _).mono ?_); rintro e w1 ⟨rfl, hb1⟩; obtain ⟨c0, c1, c2, c3, c4, c5, c6, hb2, hs1⟩ := T.out _ hb1; have HB := Lib.hid hb2; clear hb1 hb2)
        go_ret
        exact ⟨rfl, HB.out⟩
      · have hz : szOk h s = false := by rw [Bool.eq_false_iff]; intro e; rcases (szb_iff.1 e).2 with e | e <;> contradiction
        rw [sz_no hz]
        have t4 : (s != 4) = true := by simpa using h4
        have t8 : (s != 8) = true := by simpa using h8
        clear hok hz h4 h8
        obtain ⟨v, ut, sd, lp, tm, ty, ch⟩ := h
        simp only at *
        go_enter Try.func16, Try.ntmps16
        go_wp2_with (go_at_call 14; (with_reducible refine (R.out _).mono ?_); rintro e w1 ⟨rfl, hb1⟩; obtain ⟨c0, c1, c2, c3, c4, c5, c6, hb2, hs1⟩ := T.out _ hb1; have HB := Lib.hid hb2; clear hb1 hb2)
        go_ret
        exact ⟨rfl, HB.out⟩
  · have hok' : hd.okB h = false := by simpa using hok
    have hz : szOk h s = false := by unfold szOk; rw [hok']; rfl
    rw [sz_no hz]
    rw [hok'] at R
    clear hok hok' hz
    obtain ⟨v, ut, sd, lp, tm, ty, ch⟩ := h
    simp only at *
    go_enter Try.func16, Try.ntmps16
    go_wp2_with (go_at_call 14; (with_reducible refine (R.out _).mono ?_); rintro e w1 ⟨rfl, hb1⟩; obtain ⟨c0, c1, c2, c3, c4, c5, c6, hb2, hs1⟩ := T.out _ hb1; have HB := Lib.hid hb2; clear hb1 hb2)
    go_ret
    exact ⟨rfl, HB.out⟩
end Go.Proofs.Ytkbpmopnphcfjaa.ref15
