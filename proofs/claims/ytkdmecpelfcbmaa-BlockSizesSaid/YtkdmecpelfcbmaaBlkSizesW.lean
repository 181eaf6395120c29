/-
  The walk of BlockSizes, over the small case. No condition beside it.
-/
import Derived.Test.YtkdmecpelfcbmaaBlkUse
namespace Go.Proofs.Ytkdmecpelfcbmaa.blockSizes
open Go.ChangeShapes Go.WideShapes Go.ChangeAt Go.RowKit
open om mem oct bk blk
set_option linter.unusedVariables false
set_option maxRecDepth 100000

set_option maxHeartbeats 16000000 in
theorem walk0 (SM0 : ∀ W, lines.ML W → Calls Try.prog 8 #[] W fun e w' => e = .returned (.bool true) ∧ Below W.heap.size W w') (w : World) (A : Option Addr) (a : Nat) (B : Option Addr) (b : Nat) (C : Option Addr) (c : Nat) (z : Zn) (hz : Zr w A B C z) (bd : Bd z) (TM : lines.ML w) : Calls Try.prog 5 #[(.agg #[.slice A z.ty.length a, .slice B z.tr.length b, .slice C z.lp.length c, .string z.ft, .int .i64 z.v])] w fun e w' => e = .returned (.bool true) ∧ Below w.heap.size w w' := by
  have hw0 := Lib.hid (bal (Below.refl w.heap.size w) (.cells #[.slice A z.ty.length a, .slice B z.tr.length b, .slice C z.lp.length c, .string z.ft, .int .i64 z.v] 26))
  have SM := Lib.hid (fun W (hb : Below (w.alloc (.cells #[.slice A z.ty.length a, .slice B z.tr.length b, .slice C z.lp.length c, .string z.ft, .int .i64 z.v] 26)).heap.size (w.alloc (.cells #[.slice A z.ty.length a, .slice B z.tr.length b, .slice C z.lp.length c, .string z.ft, .int .i64 z.v] 26)) W) => SM0 W (TM.below (btr hw0.out hb)))
  have ML := Lib.hid (fun W (hb : Below (w.alloc (.cells #[.slice A z.ty.length a, .slice B z.tr.length b, .slice C z.lp.length c, .string z.ft, .int .i64 z.v] 26)).heap.size (w.alloc (.cells #[.slice A z.ty.length a, .slice B z.tr.length b, .slice C z.lp.length c, .string z.ft, .int .i64 z.v] 26)) W) => TM.below (btr hw0.out hb))
  have FE := Lib.hid (fun W (hb : Below (w.alloc (.cells #[.slice A z.ty.length a, .slice B z.tr.length b, .slice C z.lp.length c, .string z.ft, .int .i64 z.v] 26)).heap.size (w.alloc (.cells #[.slice A z.ty.length a, .slice B z.tr.length b, .slice C z.lp.length c, .string z.ft, .int .i64 z.v] 26)) W) => few_at A a B b C c z W (hz.ty.below (btr hw0.out hb)))
  have T := Lib.hid (fun W hb => zbx A a B b C c z w W hb)
  have EX : Hid (∀ W, Below (w.alloc (.cells #[.slice A z.ty.length a, .slice B z.tr.length b, .slice C z.lp.length c, .string z.ft, .int .i64 z.v] 26)).heap.size (w.alloc (.cells #[.slice A z.ty.length a, .slice B z.tr.length b, .slice C z.lp.length c, .string z.ft, .int .i64 z.v] 26)) W → Below w.heap.size w W) := Lib.hid fun W hb => btr hw0.out hb
  have hr0 : Below (w.alloc (.cells #[.slice A z.ty.length a, .slice B z.tr.length b, .slice C z.lp.length c, .string z.ft, .int .i64 z.v] 26)).heap.size (w.alloc (.cells #[.slice A z.ty.length a, .slice B z.tr.length b, .slice C z.lp.length c, .string z.ft, .int .i64 z.v] 26)) (w.alloc (.cells #[.slice A z.ty.length a, .slice B z.tr.length b, .slice C z.lp.length c, .string z.ft, .int .i64 z.v] 26)) := Below.refl _ _
  have HR0 := Lib.hid hr0
  clear hr0 SM0
  by_cases hf : fewB z = true
  · obtain ⟨f1, f2, f3⟩ := few_len hf
    have EN := Lib.hid (fun s W (hb : Below (w.alloc (.cells #[.slice A z.ty.length a, .slice B z.tr.length b, .slice C z.lp.length c, .string z.ft, .int .i64 z.v] 26)).heap.size (w.alloc (.cells #[.slice A z.ty.length a, .slice B z.tr.length b, .slice C z.lp.length c, .string z.ft, .int .i64 z.v] 26)) W) => enc_use A a B b C c z s W (hz.below (btr hw0.out hb)) (by omega) bd)
    have E4 := Lib.hid (EN.out 4)
    have E8 := Lib.hid (EN.out 8)
    have E5 := Lib.hid (EN.out 5)
    have CO := Lib.hid (fun W (hb : Below (w.alloc (.cells #[.slice A z.ty.length a, .slice B z.tr.length b, .slice C z.lp.length c, .string z.ft, .int .i64 z.v] 26)).heap.size (w.alloc (.cells #[.slice A z.ty.length a, .slice B z.tr.length b, .slice C z.lp.length c, .string z.ft, .int .i64 z.v] 26)) W) => count_use A a B b C c z W (hz.ty.below (btr hw0.out hb)) (by omega) bd)
    rw [hf] at FE
    have n5 : ev z 5 = false := by unfold ev sz48; rw [show ((5 : Int) == 4) = false from rfl, show ((5 : Int) == 8) = false from rfl]; simp
    rw [n5, enc_no n5] at E5
    by_cases he : ev z 4 = true
    · have he8 := ev_48 he
      obtain ⟨L1, L2⟩ := enc_len bd he
      obtain ⟨M1, M2⟩ := enc_len bd he8
      have hok := (ev_iff he).1
      rw [hok] at CO
      rw [he] at E4
      rw [he8] at E8
      have DE := Lib.hid (fun v W hr T => dec_use (enc_dv bd he).1 (enc_dv bd he).2 v W hr (enc_bys he) (by omega) T)
      have DE8 := Lib.hid (fun v W hr T => dec_use (enc_dv bd he8).1 (enc_dv bd he8).2 v W hr (enc_bys he8) (by omega) T)
      have SA := Lib.hid (fun W A' a' B' b' C' c' A2 a2 B2 b2 C2 c2 (h : Zr W A' B' C' (noFt z)) (g : Zr W A2 B2 C2 (noFt z)) => same_at A' a' B' b' C' c' A2 a2 B2 b2 C2 c2 (noFt z) W h g (show z.ty.length ≤ 1000000 ∧ z.tr.length ≤ 1000000 ∧ z.lp.length ≤ 1000000 by omega))
      have hlen : ((enc z 8).length : Int) = (enc z 4).length + 4 * z.tr.length + 4 * z.lp.length := by
        rw [M2, L2, cv_yes hok, hd.sz_yes (hd.szb_iff.2 ⟨hd.ok_iff.1 hok, Or.inl rfl⟩), hd.sz_yes (hd.szb_iff.2 ⟨hd.ok_iff.1 hok, Or.inr rfl⟩)]
        unfold hd.szv cnt
        simp only
        omega
      have HX := Lib.hid (fun w W hb => hbox (cv z) w W hb)
      have e1 : (noFt z).ty = z.ty := rfl
      have e2 : (noFt z).tr = z.tr := rfl
      have e3 : (noFt z).lp = z.lp := rfl
      have e4 : (noFt z).ft = ⟨#[]⟩ := rfl
      have e5 : (noFt z).v = z.v := rfl
      simp only [e1, e2, e3, e4, e5] at DE DE8 SA
      have ML8 := L1
      have ML9 := M1
      clear e1 e2 e3 e4 e5 hf he he8 hok bd hz L2 M2 TM hw0 EN L1 M1
      generalize enc z 4 = D at *
      generalize enc z 8 = F at *
      generalize cv z = X at *
      generalize noFt z = Z0 at *
      obtain ⟨ty, tr, lp, ft, v⟩ := z
      simp only at *
      have hl2 : ((F.length : Int) == (D.length : Int) + 4 * (tr.length : Int) + 4 * (lp.length : Int)) = true := by rw [beq_iff_eq]; exact hlen
      clear hlen
      go_enter Try.func5, Try.ntmps5
      go_wp2_with (first
        | (go_at_call 8; (with_reducible refine (SM.out _ HR0.out).mono ?_); rintro e w1 ⟨rfl, hb1⟩; have HA1 := Lib.hid hb1; obtain ⟨x0, x1, x2, x3, x4, xs⟩ := T.out _ HA1.out; clear hb1)
        | (go_at_call 9; (with_reducible refine (FE.out _ HA1.out).mono ?_); rintro e w2 ⟨rfl, hb2⟩; have HA2 := Lib.hid (btr HA1.out hb2); clear x0 x1 x2 x3 x4 xs; obtain ⟨x0, x1, x2, x3, x4, xs⟩ := T.out _ HA2.out; clear hb2)
        | (go_at_call 12; (with_reducible refine (E4.out _ HA2.out).mono ?_); rintro e w3 ⟨A1, c1, rfl, o3, hb3⟩; have HA3 := Lib.hid (btr HA2.out hb3); have O3 := Lib.hid o3; clear x0 x1 x2 x3 x4 xs; obtain ⟨x0, x1, x2, x3, x4, xs⟩ := T.out _ HA3.out; clear hb3 o3)
        | (go_at_call 12; (with_reducible refine (E8.out _ HA3.out).mono ?_); rintro e w4 ⟨A2, c2, rfl, o4, hb4⟩; have HA4 := Lib.hid (btr HA3.out hb4); have O4 := Lib.hid (own_kept O3.out hb4); have P4 := Lib.hid o4; clear x0 x1 x2 x3 x4 xs; obtain ⟨x0, x1, x2, x3, x4, xs⟩ := T.out _ HA4.out; clear hb4 o4)
        | (go_at_call 10; (with_reducible refine (CO.out _ HA4.out).mono ?_); rintro e w5 ⟨rfl, hb5⟩; have HA5 := Lib.hid (btr HA4.out hb5); have O5 := Lib.hid (own_kept O4.out (bal hb5 (.cells #[.int .i64 X.v, .int .i64 X.ut, .int .i64 X.sd, .int .i64 X.lp, .int .i64 X.tm, .int .i64 X.ty, .int .i64 X.ch] 28))); have P5 := Lib.hid (own_kept P4.out (bal hb5 (.cells #[.int .i64 X.v, .int .i64 X.ut, .int .i64 X.sd, .int .i64 X.lp, .int .i64 X.tm, .int .i64 X.ty, .int .i64 X.ch] 28))); clear x0 x1 x2 x3 x4 xs hb5)
        | (go_at_call 14; (with_reducible refine (DE.out _ _ (own_by O5.out).rd (ML.out _ (bal HA5.out _))).mono ?_); rintro e w6 ⟨A', a', B', b', C', c', rfl, nw, hb6⟩; have HB6 := Lib.hid hb6; have HA6 := Lib.hid (btr (bal HA5.out _) hb6); have NW := Lib.hid nw.1; have P6 := Lib.hid (own_kept P5.out (bal hb6 (.cells #[.slice A' ty.length a', .slice B' tr.length b', .slice C' lp.length c', .string ⟨#[]⟩, .int .i64 v] 26))); have Y6 := Lib.hid (hp_new w6 (.cells #[.slice A' ty.length a', .slice B' tr.length b', .slice C' lp.length c', .string ⟨#[]⟩, .int .i64 v] 26)); obtain ⟨d0, d1, d2, d3, d4, d5, d6, ds⟩ := HX.out w5 _ HB6.out; clear hb6 nw)
        | (go_at_call 14; (with_reducible refine (DE8.out _ _ (own_by P6.out).rd (ML.out _ (bal HA6.out _))).mono ?_); rintro e w7 ⟨A3, a3, B3, b3, C3, c3, rfl, nw, hb7⟩; have HA7 := Lib.hid (btr (bal HA6.out _) hb7); have NV := Lib.hid nw.1; have NW7 := Lib.hid (NW.out.below (btr (bal (Below.refl _ _) _) hb7)); have Y7 := Lib.hid (kept Y6.out hb7); clear d0 d1 d2 d3 d4 d5 d6 ds; obtain ⟨x0, x1, x2, x3, x4, xs⟩ := T.out _ HA7.out; clear hb7 nw)
        | (go_at_call 12; (with_reducible refine (E5.out _ (bal HA7.out _)).mono ?_); rintro e w8 ⟨A4, c4, rfl, o8, hb8⟩; have HA8 := Lib.hid (btr (bal HA7.out _) hb8); have NW8 := Lib.hid (NW7.out.below (btr (bal (Below.refl _ _) _) hb8)); have NV8 := Lib.hid (NV.out.below (btr (bal (Below.refl _ _) _) hb8)); have Y8 := kept (hp_old Y7.out _) hb8; have V8 := kept (hp_new w7 _) hb8; clear x0 x1 x2 x3 x4 xs; have y0 := row_cell Y8 0; have y1 := row_cell Y8 1; have y2 := row_cell Y8 2; have y3 := row_cell Y8 3; have y4 := row_cell Y8 4; have v0 := row_cell V8 0; have v1 := row_cell V8 1; have v2 := row_cell V8 2; have v3 := row_cell V8 3; have v4 := row_cell V8 4; clear Y8 V8 hb8 o8)
        | (go_at_call 16; (with_reducible refine (SA.out _ _ _ _ _ _ _ _ _ _ _ _ _ NW8.out NV8.out).mono ?_); rintro e w9 ⟨rfl, hb9⟩; have HA9 := Lib.hid (btr HA8.out hb9); clear y0 y1 y2 y3 y4 v0 v1 v2 v3 v4; obtain ⟨x0, x1, x2, x3, x4, xs⟩ := T.out _ HA9.out; clear hb9))
      go_ret
      exact ⟨rfl, EX.out _ HA9.out⟩
    · have he' : ev z 4 = false := by simpa using he
      rw [he', enc_no he'] at E4
      clear hf he he' bd hz TM hw0 f1 f2 f3 n5 EN E5
      generalize ev z 8 = e8 at *
      generalize okC z = ok at *
      generalize cv z = X at *
      generalize enc z 8 = F at *
      obtain ⟨ty, tr, lp, ft, v⟩ := z
      simp only at *
      go_enter Try.func5, Try.ntmps5
      go_wp2_with (first
        | (go_at_call 8; (with_reducible refine (SM.out _ HR0.out).mono ?_); rintro e w1 ⟨rfl, hb1⟩; have HA1 := Lib.hid hb1; obtain ⟨x0, x1, x2, x3, x4, xs⟩ := T.out _ HA1.out; clear hb1)
        | (go_at_call 9; (with_reducible refine (FE.out _ HA1.out).mono ?_); rintro e w2 ⟨rfl, hb2⟩; have HA2 := Lib.hid (btr HA1.out hb2); clear x0 x1 x2 x3 x4 xs; obtain ⟨x0, x1, x2, x3, x4, xs⟩ := T.out _ HA2.out; clear hb2)
        | (go_at_call 12; (with_reducible refine (E4.out _ HA2.out).mono ?_); rintro e w3 ⟨A1, c1, rfl, o3, hb3⟩; have HA3 := Lib.hid (btr HA2.out hb3); clear x0 x1 x2 x3 x4 xs; obtain ⟨x0, x1, x2, x3, x4, xs⟩ := T.out _ HA3.out; clear hb3 o3)
        | (go_at_call 12; (with_reducible refine (E8.out _ HA3.out).mono ?_); rintro e w4 ⟨A2, c2, rfl, o4, hb4⟩; have HA4 := Lib.hid (btr HA3.out hb4); clear x0 x1 x2 x3 x4 xs; obtain ⟨x0, x1, x2, x3, x4, xs⟩ := T.out _ HA4.out; clear hb4 o4)
        | (go_at_call 10; (with_reducible refine (CO.out _ HA4.out).mono ?_); rintro e w5 ⟨rfl, hb5⟩; have HA5 := Lib.hid (btr HA4.out hb5); clear x0 x1 x2 x3 x4 xs hb5))
      go_ret
      exact ⟨rfl, EX.out _ (bal HA5.out _)⟩
  · have hf' : fewB z = false := by simpa using hf
    rw [hf'] at FE
    clear hf hf' bd hz TM hw0
    obtain ⟨ty, tr, lp, ft, v⟩ := z
    simp only at *
    go_enter Try.func5, Try.ntmps5
    go_wp2_with (first
      | (go_at_call 8; (with_reducible refine (SM.out _ HR0.out).mono ?_); rintro e w1 ⟨rfl, hb1⟩; have HA1 := Lib.hid hb1; obtain ⟨x0, x1, x2, x3, x4, xs⟩ := T.out _ HA1.out; clear hb1)
      | (go_at_call 9; (with_reducible refine (FE.out _ HA1.out).mono ?_); rintro e w2 ⟨rfl, hb2⟩; have HA2 := Lib.hid (btr HA1.out hb2); clear x0 x1 x2 x3 x4 xs hb2))
    go_ret
    exact ⟨rfl, EX.out _ HA2.out⟩
end Go.Proofs.Ytkdmecpelfcbmaa.blockSizes
