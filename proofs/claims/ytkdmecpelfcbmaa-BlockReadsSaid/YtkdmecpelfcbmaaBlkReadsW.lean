/-
  The walk of BlockReads, over the small case. No condition beside it.
-/
import Derived.Test.YtkdmecpelfcbmaaBlkUse
import Derived.Test.YtkdmecpelfcbmaaBlkReadsMath
namespace Go.Proofs.Ytkdmecpelfcbmaa.blockReads
open Go.ChangeShapes Go.WideShapes Go.ChangeAt Go.RowKit
open om mem oct bk blk
set_option linter.unusedVariables false
set_option maxRecDepth 100000

set_option maxHeartbeats 16000000 in
theorem walk0 (SM0 : ∀ W, lines.ML W → Calls Try.prog 8 #[] W fun e w' => e = .returned (.bool true) ∧ Below W.heap.size W w') (w : World) (h : hd.Hd) (hbd : head.Bd h) (l : List Nat) (bv : Value) (hl : RdW w bv l) (hby : Bys l) (hn : l.length ≤ 9223372036854775807) (s : Int) (hs : -9223372036854775808 ≤ s ∧ s ≤ 9223372036854775807) (TM : lines.ML w) : Calls Try.prog 6 #[(.agg #[.int .i64 h.v, .int .i64 h.ut, .int .i64 h.sd, .int .i64 h.lp, .int .i64 h.tm, .int .i64 h.ty, .int .i64 h.ch]), bv, .int .i64 s] w fun e w' => e = .returned (.bool true) ∧ Below w.heap.size w w' := by
  have hw0 := Lib.hid (bal (Below.refl w.heap.size w) (.cells #[.int .i64 h.v, .int .i64 h.ut, .int .i64 h.sd, .int .i64 h.lp, .int .i64 h.tm, .int .i64 h.ty, .int .i64 h.ch] 28))
  have SM := Lib.hid (fun W (hb : Below (w.alloc (.cells #[.int .i64 h.v, .int .i64 h.ut, .int .i64 h.sd, .int .i64 h.lp, .int .i64 h.tm, .int .i64 h.ty, .int .i64 h.ch] 28)).heap.size (w.alloc (.cells #[.int .i64 h.v, .int .i64 h.ut, .int .i64 h.sd, .int .i64 h.lp, .int .i64 h.tm, .int .i64 h.ty, .int .i64 h.ch] 28)) W) => SM0 W (TM.below (btr hw0.out hb)))
  have ML := Lib.hid (fun W (hb : Below (w.alloc (.cells #[.int .i64 h.v, .int .i64 h.ut, .int .i64 h.sd, .int .i64 h.lp, .int .i64 h.tm, .int .i64 h.ty, .int .i64 h.ch] 28)).heap.size (w.alloc (.cells #[.int .i64 h.v, .int .i64 h.ut, .int .i64 h.sd, .int .i64 h.lp, .int .i64 h.tm, .int .i64 h.ty, .int .i64 h.ch] 28)) W) => TM.below (btr hw0.out hb))
  have HX := Lib.hid (fun X w W hb => hbox X w W hb)
  have T := Lib.hid (fun W hb => HX.out h w W hb)
  have EX : Hid (∀ W, Below (w.alloc (.cells #[.int .i64 h.v, .int .i64 h.ut, .int .i64 h.sd, .int .i64 h.lp, .int .i64 h.tm, .int .i64 h.ty, .int .i64 h.ch] 28)).heap.size (w.alloc (.cells #[.int .i64 h.v, .int .i64 h.ut, .int .i64 h.sd, .int .i64 h.lp, .int .i64 h.tm, .int .i64 h.ty, .int .i64 h.ch] 28)) W → Below w.heap.size w W) := Lib.hid fun W hb => btr hw0.out hb
  have hr0 : Below (w.alloc (.cells #[.int .i64 h.v, .int .i64 h.ut, .int .i64 h.sd, .int .i64 h.lp, .int .i64 h.tm, .int .i64 h.ty, .int .i64 h.ch] 28)).heap.size (w.alloc (.cells #[.int .i64 h.v, .int .i64 h.ut, .int .i64 h.sd, .int .i64 h.lp, .int .i64 h.tm, .int .i64 h.ty, .int .i64 h.ch] 28)) (w.alloc (.cells #[.int .i64 h.v, .int .i64 h.ut, .int .i64 h.sd, .int .i64 h.lp, .int .i64 h.tm, .int .i64 h.ty, .int .i64 h.ch] 28)) := Below.refl _ _
  have HR0 := Lib.hid hr0
  obtain ⟨Ab, cb, rfl⟩ := rdw_form hl
  clear hr0 SM0
  by_cases hbig : 2000 < l.length
  · clear hl hby hbd hw0 TM
    obtain ⟨v, ut, sd, lp, tm, ty, ch⟩ := h
    simp only at *
    generalize l.length = L at *
    go_enter Try.func6, Try.ntmps6
    go_wp2_with (go_at_call 8; (with_reducible refine (SM.out _ HR0.out).mono ?_); rintro e w1 ⟨rfl, hb1⟩; have HA1 := Lib.hid hb1; clear hb1)
    go_ret
    exact ⟨rfl, EX.out _ HA1.out⟩
  have hsm : l.length ≤ 2000 := by omega
  clear hbig hn
  by_cases hd' : dv h l s = true
  · obtain ⟨n, hsn, hn48, ho, hlen, hsz⟩ := dvP hd'
    have hev := gZ_ev hby hd'
    have hzb := gZ_bd s.toNat hby (h := h) (l := l) hbd.1
    obtain ⟨g1, g2, g3⟩ := gZ_len h l s.toNat
    have hdz : dec h l s = gZ h l s.toNat := if_pos hd'
    have DE := Lib.hid (fun W (hb : Below (w.alloc (.cells #[.int .i64 h.v, .int .i64 h.ut, .int .i64 h.sd, .int .i64 h.lp, .int .i64 h.tm, .int .i64 h.ty, .int .i64 h.ch] 28)).heap.size (w.alloc (.cells #[.int .i64 h.v, .int .i64 h.ut, .int .i64 h.sd, .int .i64 h.lp, .int .i64 h.tm, .int .i64 h.ty, .int .i64 h.ch] 28)) W) => dec_use hd' hdz (.slice Ab l.length cb) W (hl.below (btr hw0.out hb)) hby (by omega) (TM.below (btr hw0.out hb)))
    have hgf : (gZ h l s.toNat).ft = ⟨#[]⟩ := rfl
    have hgv : (gZ h l s.toNat).v = h.v := rfl
    obtain ⟨_, _, _, b1, b2, b3, _⟩ := ho
    have n1 : (((gZ h l s.toNat).ty.length : Int) != h.ty) = false := by rw [g1, bne_eq_false_iff_eq]; omega
    have n2 : (((gZ h l s.toNat).tr.length : Int) != h.tm) = false := by rw [g2, bne_eq_false_iff_eq]; omega
    have n3 : (((gZ h l s.toNat).lp.length : Int) != h.lp) = false := by rw [g3, bne_eq_false_iff_eq]; omega
    have n4 : ((gZ h l s.toNat).v != h.v) = false := by rw [hgv, bne_eq_false_iff_eq]
    have n5 : ((l.length : Int) != (l.length : Int)) = false := by simp
    have SZ := Lib.hid (fun W => head.size_at h s W)
    rw [← hsz] at SZ
    have hl3 : (gZ h l s.toNat).ty.length ≤ 1000 ∧ (gZ h l s.toNat).tr.length ≤ 2000 ∧ (gZ h l s.toNat).lp.length ≤ 201 := by omega
    generalize gZ h l s.toNat = z at *
    have EN := Lib.hid (fun W A a B b C c (q : Zr W A B C z) => enc_use A a B b C c z s W q hl3.1 hzb)
    have CO := Lib.hid (fun W A a B b C c (q : Zr W A B C z) => count_use A a B b C c z W q.ty hl3.1 hzb)
    by_cases he : ev z s = true
    · obtain ⟨L1, L2⟩ := enc_len hzb he
      have hok := (ev_iff he).1
      rw [hok] at CO
      rw [he] at EN
      have hno : noFt z = z := by unfold noFt; rw [← hgf]
      have DE2 := Lib.hid (fun v W hr T => dec_use (enc_dv hzb he).1 ((enc_dv hzb he).2.trans hno) v W hr (enc_bys he) (by omega) T)
      have SA := Lib.hid (fun W A a B b C c A' a' B' b' C' c' (g : Zr W A B C z) (q : Zr W A' B' C' z) => same_at A a B b C c A' a' B' b' C' c' z W g q (by omega))
      have NX := Lib.hid (fun A a B b C c w W hb => zbx A a B b C c z w W hb)
      clear hev hzb g1 g2 g3 hdz hgv b1 b2 b3 hl3 L1 L2 hok hno he hd' hsz hlen hn48 hsn hbd hl hby hw0 TM
      generalize enc z s = D at *
      generalize cv z = X at *
      obtain ⟨ty, tr, lp, ft, v⟩ := z
      obtain ⟨hv, hut, hsd, hlp, htm, hty, hch⟩ := h
      simp only at *
      subst hgf
      go_enter Try.func6, Try.ntmps6
      go_wp2_with (first
        | (go_at_call 8; (with_reducible refine (SM.out _ HR0.out).mono ?_); rintro e w1 ⟨rfl, hb1⟩; have HA1 := Lib.hid hb1; obtain ⟨d0, d1, d2, d3, d4, d5, d6, ds⟩ := T.out _ HA1.out; clear hb1)
        | (go_at_call 14; first
          | ((with_reducible refine (DE.out _ HA1.out).mono ?_); rintro e w2 ⟨A, a, B, b, C, c, rfl, nw, hb2⟩; have HA2 := Lib.hid (btr HA1.out hb2); have NW := Lib.hid (nw.1.below (bal (Below.refl _ _) (.cells #[.slice A ty.length a, .slice B tr.length b, .slice C lp.length c, .string ⟨#[]⟩, .int .i64 v] 26))); have NB : Hid (Below (w2.alloc (.cells #[.slice A ty.length a, .slice B tr.length b, .slice C lp.length c, .string ⟨#[]⟩, .int .i64 v] 26)).heap.size (w2.alloc (.cells #[.slice A ty.length a, .slice B tr.length b, .slice C lp.length c, .string ⟨#[]⟩, .int .i64 v] 26)) (w2.alloc (.cells #[.slice A ty.length a, .slice B tr.length b, .slice C lp.length c, .string ⟨#[]⟩, .int .i64 v] 26))) := Lib.hid (Below.refl _ _); clear d0 d1 d2 d3 d4 d5 d6 ds; obtain ⟨d0, d1, d2, d3, d4, d5, d6, ds⟩ := T.out _ HA2.out; clear hb2 nw)
          | ((with_reducible refine (DE2.out _ _ ((own_by O5.out).rd.below (bal (Below.refl _ _) _)) (ML.out _ (bal HA5.out _))).mono ?_); rintro e w6 ⟨A', a', B', b', C', c', rfl, nw, hb6⟩; have NB6 := Lib.hid (btr (bal NB5.out _) hb6); have HA6 := Lib.hid (btr (bal HA5.out _) hb6); have NV := Lib.hid (nw.1.below (bal (Below.refl _ _) (.cells #[.slice A' ty.length a', .slice B' tr.length b', .slice C' lp.length c', .string ⟨#[]⟩, .int .i64 v] 26))); obtain ⟨x0, x1, x2, x3, x4, xs⟩ := NX.out A a B b C c w2 _ NB6.out; clear hb6 nw))
        | (go_at_call 17; (with_reducible refine (SZ.out _).mono ?_); rintro e w3 ⟨rfl, hb3⟩; have HA3 := Lib.hid (btr (bal HA2.out _) hb3); have NB3 := Lib.hid hb3; clear d0 d1 d2 d3 d4 d5 d6 ds; obtain ⟨x0, x1, x2, x3, x4, xs⟩ := NX.out A a B b C c w2 _ NB3.out; clear hb3)
        | (go_at_call 12; (with_reducible refine (EN.out _ A a B b C c (NW.out.below NB3.out)).mono ?_); rintro e w4 ⟨A1, c1, rfl, o4, hb4⟩; have HA4 := Lib.hid (btr HA3.out hb4); have NB4 := Lib.hid (btr NB3.out hb4); have O4 := Lib.hid o4; clear x0 x1 x2 x3 x4 xs; obtain ⟨x0, x1, x2, x3, x4, xs⟩ := NX.out A a B b C c w2 _ NB4.out; clear hb4 o4)
        | (go_at_call 10; (with_reducible refine (CO.out _ A a B b C c (NW.out.below NB4.out)).mono ?_); rintro e w5 ⟨rfl, hb5⟩; have HA5 := Lib.hid (btr HA4.out hb5); have NB5 := Lib.hid (btr NB4.out hb5); have O5 := Lib.hid (own_kept O4.out hb5); clear x0 x1 x2 x3 x4 xs hb5)
        | (go_at_call 16; (with_reducible refine (SA.out _ A' a' B' b' C' c' A a B b C c NV.out (NW.out.below (bal NB6.out _))).mono ?_); rintro e w7 ⟨rfl, hb7⟩; have HA7 := Lib.hid (btr (bal HA6.out _) hb7); clear hb7))
      go_ret
      exact ⟨rfl, EX.out _ HA7.out⟩
    · have he' : ev z s = false := by simpa using he
      rw [he', enc_no he'] at EN
      rw [← hev, he'] at CO
      have NX := Lib.hid (fun A a B b C c w W hb => zbx A a B b C c z w W hb)
      clear hev hzb g1 g2 g3 hdz hgv b1 b2 b3 hl3 he he' hd' hsz hlen hn48 hsn hbd hl hby hw0 TM
      generalize cv z = X at *
      obtain ⟨ty, tr, lp, ft, v⟩ := z
      obtain ⟨hv, hut, hsd, hlp, htm, hty, hch⟩ := h
      simp only at *
      subst hgf
      go_enter Try.func6, Try.ntmps6
      go_wp2_with (first
        | (go_at_call 8; (with_reducible refine (SM.out _ HR0.out).mono ?_); rintro e w1 ⟨rfl, hb1⟩; have HA1 := Lib.hid hb1; obtain ⟨d0, d1, d2, d3, d4, d5, d6, ds⟩ := T.out _ HA1.out; clear hb1)
        | (go_at_call 14; (with_reducible refine (DE.out _ HA1.out).mono ?_); rintro e w2 ⟨A, a, B, b, C, c, rfl, nw, hb2⟩; have HA2 := Lib.hid (btr HA1.out hb2); have NW := Lib.hid (nw.1.below (bal (Below.refl _ _) (.cells #[.slice A ty.length a, .slice B tr.length b, .slice C lp.length c, .string ⟨#[]⟩, .int .i64 v] 26))); clear d0 d1 d2 d3 d4 d5 d6 ds; obtain ⟨d0, d1, d2, d3, d4, d5, d6, ds⟩ := T.out _ HA2.out; clear hb2 nw)
        | (go_at_call 17; (with_reducible refine (SZ.out _).mono ?_); rintro e w3 ⟨rfl, hb3⟩; have HA3 := Lib.hid (btr (bal HA2.out _) hb3); have NB3 := Lib.hid hb3; clear d0 d1 d2 d3 d4 d5 d6 ds; obtain ⟨x0, x1, x2, x3, x4, xs⟩ := NX.out A a B b C c w2 _ NB3.out; clear hb3)
        | (go_at_call 12; (with_reducible refine (EN.out _ A a B b C c (NW.out.below NB3.out)).mono ?_); rintro e w4 ⟨A1, c1, rfl, o4, hb4⟩; have HA4 := Lib.hid (btr HA3.out hb4); have NB4 := Lib.hid (btr NB3.out hb4); clear x0 x1 x2 x3 x4 xs; obtain ⟨x0, x1, x2, x3, x4, xs⟩ := NX.out A a B b C c w2 _ NB4.out; clear hb4 o4)
        | (go_at_call 10; (with_reducible refine (CO.out _ A a B b C c (NW.out.below NB4.out)).mono ?_); rintro e w5 ⟨rfl, hb5⟩; have HA5 := Lib.hid (btr HA4.out hb5); clear x0 x1 x2 x3 x4 xs hb5))
      go_ret
      exact ⟨rfl, EX.out _ (bal HA5.out _)⟩
  · have hd2 : dv h l s = false := by simpa using hd'
    have hdz : dec h l s = zero := if_neg hd'
    have DE := Lib.hid (fun W (hb : Below (w.alloc (.cells #[.int .i64 h.v, .int .i64 h.ut, .int .i64 h.sd, .int .i64 h.lp, .int .i64 h.tm, .int .i64 h.ty, .int .i64 h.ch] 28)).heap.size (w.alloc (.cells #[.int .i64 h.v, .int .i64 h.ut, .int .i64 h.sd, .int .i64 h.lp, .int .i64 h.tm, .int .i64 h.ty, .int .i64 h.ch] 28)) W) => dec_use hd2 hdz (.slice Ab l.length cb) W (hl.below (btr hw0.out hb)) hby (by omega) (TM.below (btr hw0.out hb)))
    have SA : Hid (∀ W (A : Option Addr) (a : Nat) (B : Option Addr) (b : Nat) (C : Option Addr) (c : Nat), Calls Try.prog 16 #[.agg #[.slice A 0 a, .slice B 0 b, .slice C 0 c, .string ⟨#[]⟩, .int .i64 0], .agg #[.slice none 0 0, .slice none 0 0, .slice none 0 0, .string ⟨#[]⟩, .int .i64 0]] W fun e w' => e = .returned (.bool true) ∧ Below W.heap.size W w') := Lib.hid fun W A a B b C c => same_at A a B b C c none 0 none 0 none 0 zero W (zr_zero _ _ _ _) (zr_zero _ _ _ _) (by decide)
    have e1 : zero.ty.length = 0 := rfl
    have e2 : zero.tr.length = 0 := rfl
    have e3 : zero.lp.length = 0 := rfl
    have e4 : zero.ft = ⟨#[]⟩ := rfl
    have e5 : zero.v = 0 := rfl
    simp only [e1, e2, e3, e4, e5] at DE
    clear e1 e2 e3 e4 e5 hd' hd2 hdz hbd hl hby hw0 TM
    obtain ⟨v, ut, sd, lp, tm, ty, ch⟩ := h
    simp only at *
    go_enter Try.func6, Try.ntmps6
    go_wp2_with (first
      | (go_at_call 8; (with_reducible refine (SM.out _ HR0.out).mono ?_); rintro e w1 ⟨rfl, hb1⟩; have HA1 := Lib.hid hb1; obtain ⟨d0, d1, d2, d3, d4, d5, d6, ds⟩ := T.out _ HA1.out; clear hb1)
      | (go_at_call 14; (with_reducible refine (DE.out _ HA1.out).mono ?_); rintro e w2 ⟨A, a, B, b, C, c, rfl, nw, hb2⟩; have HA2 := Lib.hid (btr HA1.out hb2); clear hb2 nw)
      | (go_at_call 16; (with_reducible refine (SA.out _ A a B b C c).mono ?_); rintro e w3 ⟨rfl, hb3⟩; have HA3 := Lib.hid (btr (bal HA2.out _) hb3); clear hb3))
    go_ret
    exact ⟨rfl, EX.out _ HA3.out⟩
end Go.Proofs.Ytkdmecpelfcbmaa.blockReads
