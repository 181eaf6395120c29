/-
  The walk of BlockBack, over the small case. No condition beside it.
-/
import Derived.Test.YtkdmecpelfcbmaaBlkUse
namespace Go.Proofs.Ytkdmecpelfcbmaa.blockBack
open Go.ChangeShapes Go.WideShapes Go.ChangeAt Go.RowKit
open om mem oct bk blk
set_option linter.unusedVariables false
set_option maxRecDepth 100000

set_option maxHeartbeats 16000000 in
theorem walk0 (SM0 : ∀ W, lines.ML W → Calls Try.prog 8 #[] W fun e w' => e = .returned (.bool true) ∧ Below W.heap.size W w') (w : World) (A : Option Addr) (a : Nat) (B : Option Addr) (b : Nat) (C : Option Addr) (c : Nat) (z : Zn) (hz : Zr w A B C z) (bd : Bd z) (s : Int) (hs : -9223372036854775808 ≤ s ∧ s ≤ 9223372036854775807) (TM : lines.ML w) : Calls Try.prog 4 #[(.agg #[.slice A z.ty.length a, .slice B z.tr.length b, .slice C z.lp.length c, .string z.ft, .int .i64 z.v]), .int .i64 s] w fun e w' => e = .returned (.bool true) ∧ Below w.heap.size w w' := by
  have hw0 := Lib.hid (bal (Below.refl w.heap.size w) (.cells #[.slice A z.ty.length a, .slice B z.tr.length b, .slice C z.lp.length c, .string z.ft, .int .i64 z.v] 26))
  have SM := Lib.hid (fun W (hb : Below (w.alloc (.cells #[.slice A z.ty.length a, .slice B z.tr.length b, .slice C z.lp.length c, .string z.ft, .int .i64 z.v] 26)).heap.size (w.alloc (.cells #[.slice A z.ty.length a, .slice B z.tr.length b, .slice C z.lp.length c, .string z.ft, .int .i64 z.v] 26)) W) => SM0 W (TM.below (btr hw0.out hb)))
  have ML := Lib.hid (fun W (hb : Below (w.alloc (.cells #[.slice A z.ty.length a, .slice B z.tr.length b, .slice C z.lp.length c, .string z.ft, .int .i64 z.v] 26)).heap.size (w.alloc (.cells #[.slice A z.ty.length a, .slice B z.tr.length b, .slice C z.lp.length c, .string z.ft, .int .i64 z.v] 26)) W) => TM.below (btr hw0.out hb))
  have FE := Lib.hid (fun W (hb : Below (w.alloc (.cells #[.slice A z.ty.length a, .slice B z.tr.length b, .slice C z.lp.length c, .string z.ft, .int .i64 z.v] 26)).heap.size (w.alloc (.cells #[.slice A z.ty.length a, .slice B z.tr.length b, .slice C z.lp.length c, .string z.ft, .int .i64 z.v] 26)) W) => few_at A a B b C c z W (hz.ty.below (btr hw0.out hb)))
  have T := Lib.hid (fun W hb => zbx A a B b C c z w W hb)
  have EX : Hid (∀ W, Below (w.alloc (.cells #[.slice A z.ty.length a, .slice B z.tr.length b, .slice C z.lp.length c, .string z.ft, .int .i64 z.v] 26)).heap.size (w.alloc (.cells #[.slice A z.ty.length a, .slice B z.tr.length b, .slice C z.lp.length c, .string z.ft, .int .i64 z.v] 26)) W → Below w.heap.size w W) := Lib.hid fun W hb => btr hw0.out hb
  have hr0 : Below (w.alloc (.cells #[.slice A z.ty.length a, .slice B z.tr.length b, .slice C z.lp.length c, .string z.ft, .int .i64 z.v] 26)).heap.size (w.alloc (.cells #[.slice A z.ty.length a, .slice B z.tr.length b, .slice C z.lp.length c, .string z.ft, .int .i64 z.v] 26)) (w.alloc (.cells #[.slice A z.ty.length a, .slice B z.tr.length b, .slice C z.lp.length c, .string z.ft, .int .i64 z.v] 26)) := Below.refl _ _
  have HR0 := Lib.hid hr0
  clear hr0 SM0
  by_cases hf : fewB z = true
  · obtain ⟨f1, f2, f3⟩ := few_len hf
    have EN := Lib.hid (fun W (hb : Below (w.alloc (.cells #[.slice A z.ty.length a, .slice B z.tr.length b, .slice C z.lp.length c, .string z.ft, .int .i64 z.v] 26)).heap.size (w.alloc (.cells #[.slice A z.ty.length a, .slice B z.tr.length b, .slice C z.lp.length c, .string z.ft, .int .i64 z.v] 26)) W) => enc_use A a B b C c z s W (hz.below (btr hw0.out hb)) (by omega) bd)
    rw [hf] at FE
    by_cases he : ev z s = true
    · obtain ⟨L1, L2⟩ := enc_len bd he
      have CO := Lib.hid (fun W (hb : Below (w.alloc (.cells #[.slice A z.ty.length a, .slice B z.tr.length b, .slice C z.lp.length c, .string z.ft, .int .i64 z.v] 26)).heap.size (w.alloc (.cells #[.slice A z.ty.length a, .slice B z.tr.length b, .slice C z.lp.length c, .string z.ft, .int .i64 z.v] 26)) W) => count_use A a B b C c z W (hz.ty.below (btr hw0.out hb)) (by omega) bd)
      have hok := (ev_iff he).1
      rw [hok] at CO
      rw [he] at EN
      have DE := Lib.hid (fun v W hr T => dec_use (enc_dv bd he).1 (enc_dv bd he).2 v W hr (enc_bys he) (by omega) T)
      have SA := Lib.hid (fun W A' a' B' b' C' c' (hb : Below (w.alloc (.cells #[.slice A z.ty.length a, .slice B z.tr.length b, .slice C z.lp.length c, .string z.ft, .int .i64 z.v] 26)).heap.size (w.alloc (.cells #[.slice A z.ty.length a, .slice B z.tr.length b, .slice C z.lp.length c, .string z.ft, .int .i64 z.v] 26)) W) (g : Zr W A' B' C' z) => same_at A' a' B' b' C' c' A a B b C c z W g (hz.below (btr hw0.out hb)) (by omega))
      have SZ := Lib.hid (fun W => head.size_at (cv z) s W)
      rw [← L2] at SZ
      have RI : Hid (∀ W, Calls Try.prog 18 #[(.agg #[.int .i64 (cv z).v, .int .i64 (cv z).ut, .int .i64 (cv z).sd, .int .i64 (cv z).lp, .int .i64 (cv z).tm, .int .i64 (cv z).ty, .int .i64 (cv z).ch])] W fun e w' => e = .returned (.bool true) ∧ Below W.heap.size W w') := Lib.hid fun W => by
        have := head.right_at (cv z) W
        rw [cv_yes hok] at this ⊢
        rw [show hd.okB (cnt z) = true from hok] at this
        exact this
      have HX := Lib.hid (fun w W hb => hbox (cv z) w W hb)
      have hll : (((enc z s).length : Int) == ((enc z s).length : Int)) = true := by simp
      have NZ : Hid (∀ W A' B' C', Zr W A' B' C' (noFt z) → Zr W A' B' C' z) := Lib.hid fun W A' B' C' h => ⟨h.ty, h.tr, h.lp⟩
      have e1 : (noFt z).ty = z.ty := rfl
      have e2 : (noFt z).tr = z.tr := rfl
      have e3 : (noFt z).lp = z.lp := rfl
      have e4 : (noFt z).ft = ⟨#[]⟩ := rfl
      have e5 : (noFt z).v = z.v := rfl
      simp only [e1, e2, e3, e4, e5] at DE
      clear e1 e2 e3 e4 e5 hf he hok bd hz L2 TM hw0 f1 f2 f3 L1
      generalize enc z s = D at *
      generalize cv z = X at *
      generalize noFt z = Z0 at *
      obtain ⟨ty, tr, lp, ft, v⟩ := z
      simp only at *
      go_enter Try.func4, Try.ntmps4
      go_wp2_with (first
        | (go_at_call 8; (with_reducible refine (SM.out _ HR0.out).mono ?_); rintro e w1 ⟨rfl, hb1⟩; have HA1 := Lib.hid hb1; obtain ⟨x0, x1, x2, x3, x4, xs⟩ := T.out _ HA1.out; clear hb1)
        | (go_at_call 9; (with_reducible refine (FE.out _ HA1.out).mono ?_); rintro e w2 ⟨rfl, hb2⟩; have HA2 := Lib.hid (btr HA1.out hb2); clear x0 x1 x2 x3 x4 xs; obtain ⟨x0, x1, x2, x3, x4, xs⟩ := T.out _ HA2.out; clear hb2)
        | (go_at_call 12; (with_reducible refine (EN.out _ HA2.out).mono ?_); rintro e w3 ⟨A1, c1, rfl, o3, hb3⟩; have HA3 := Lib.hid (btr HA2.out hb3); have O3 := Lib.hid o3; clear x0 x1 x2 x3 x4 xs; obtain ⟨x0, x1, x2, x3, x4, xs⟩ := T.out _ HA3.out; clear hb3 o3)
        | (go_at_call 10; (with_reducible refine (CO.out _ HA3.out).mono ?_); rintro e w4 ⟨rfl, hb4⟩; have HA4 := Lib.hid (btr HA3.out hb4); have O4 := Lib.hid (own_kept O3.out hb4); clear x0 x1 x2 x3 x4 xs hb4)
        | (go_at_call 14; (with_reducible refine (DE.out _ _ ((own_by O4.out).rd.below (bal (Below.refl _ _) _)) (ML.out _ (bal HA4.out _))).mono ?_); rintro e w5 ⟨A', a', B', b', C', c', rfl, nw, hb5⟩; have HB5 := Lib.hid hb5; have HA5 := Lib.hid (btr (bal HA4.out _) hb5); have NW := Lib.hid (NZ.out _ _ _ _ nw.1); obtain ⟨x0, x1, x2, x3, x4, xs⟩ := T.out _ HA5.out; clear hb5 nw)
        | (go_at_call 16; (with_reducible refine (SA.out _ A' a' B' b' C' c' (bal HA5.out _) (NW.out.below (bal (Below.refl _ _) _))).mono ?_); rintro e w6 ⟨rfl, hb6⟩; have HB6 := Lib.hid (btr (bal HB5.out _) hb6); have HA6 := Lib.hid (btr (bal HA5.out _) hb6); clear x0 x1 x2 x3 x4 xs; obtain ⟨d0, d1, d2, d3, d4, d5, d6, ds⟩ := HX.out w4 _ HB6.out; clear hb6)
        | (go_at_call 17; (with_reducible refine (SZ.out _).mono ?_); rintro e w7 ⟨rfl, hb7⟩; have HB7 := Lib.hid (btr HB6.out hb7); have HA7 := Lib.hid (btr HA6.out hb7); clear d0 d1 d2 d3 d4 d5 d6 ds; obtain ⟨d0, d1, d2, d3, d4, d5, d6, ds⟩ := HX.out w4 _ HB7.out; clear hb7)
        | (go_at_call 18; (with_reducible refine (RI.out _).mono ?_); rintro e w8 ⟨rfl, hb8⟩; have HA8 := Lib.hid (btr HA7.out hb8); clear hb8))
      go_ret
      exact ⟨rfl, EX.out _ HA8.out⟩
    · have he' : ev z s = false := by simpa using he
      rw [he', enc_no he'] at EN
      clear hf he he' bd hz TM hw0 f1 f2 f3
      obtain ⟨ty, tr, lp, ft, v⟩ := z
      simp only at *
      go_enter Try.func4, Try.ntmps4
      go_wp2_with (first
        | (go_at_call 8; (with_reducible refine (SM.out _ HR0.out).mono ?_); rintro e w1 ⟨rfl, hb1⟩; have HA1 := Lib.hid hb1; obtain ⟨x0, x1, x2, x3, x4, xs⟩ := T.out _ HA1.out; clear hb1)
        | (go_at_call 9; (with_reducible refine (FE.out _ HA1.out).mono ?_); rintro e w2 ⟨rfl, hb2⟩; have HA2 := Lib.hid (btr HA1.out hb2); clear x0 x1 x2 x3 x4 xs; obtain ⟨x0, x1, x2, x3, x4, xs⟩ := T.out _ HA2.out; clear hb2)
        | (go_at_call 12; (with_reducible refine (EN.out _ HA2.out).mono ?_); rintro e w3 ⟨A1, c1, rfl, o3, hb3⟩; have HA3 := Lib.hid (btr HA2.out hb3); clear x0 x1 x2 x3 x4 xs hb3 o3))
      go_ret
      exact ⟨rfl, EX.out _ HA3.out⟩
  · have hf' : fewB z = false := by simpa using hf
    rw [hf'] at FE
    clear hf hf' bd hz TM hw0
    obtain ⟨ty, tr, lp, ft, v⟩ := z
    simp only at *
    go_enter Try.func4, Try.ntmps4
    go_wp2_with (first
      | (go_at_call 8; (with_reducible refine (SM.out _ HR0.out).mono ?_); rintro e w1 ⟨rfl, hb1⟩; have HA1 := Lib.hid hb1; obtain ⟨x0, x1, x2, x3, x4, xs⟩ := T.out _ HA1.out; clear hb1)
      | (go_at_call 9; (with_reducible refine (FE.out _ HA1.out).mono ?_); rintro e w2 ⟨rfl, hb2⟩; have HA2 := Lib.hid (btr HA1.out hb2); clear x0 x1 x2 x3 x4 xs hb2))
    go_ret
    exact ⟨rfl, EX.out _ HA2.out⟩
end Go.Proofs.Ytkdmecpelfcbmaa.blockBack
