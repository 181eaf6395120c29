/-
  What the document's own Decode of layer 16 answers. Condition: the slice reads as bytes.
-/
import Derived.Test.YtllficloadncfaaG23
import Derived.Test.YtllficloadncfaaG18
import Derived.Test.YtllficloadncfaaG19
namespace Go.Proofs.Ytllficloadncfaa.ref16
open Go.ChangeShapes Go.WideShapes Go.ChangeAt Go.RowKit
open om mem oct bk blk
open head (end_pair)
set_option linter.unusedVariables false
set_option maxRecDepth 100000

set_option maxHeartbeats 16000000 in
theorem decode_at (h : hd.Hd) (l : List Nat) (bv : Value) (s : Int) (w : World) (hl : RdW w bv l) (hb : Bys l) (hn : l.length ≤ 2000) : Calls Try.prog 11 #[(.agg #[.int .i64 h.v, .int .i64 h.ut, .int .i64 h.sd, .int .i64 h.lp, .int .i64 h.tm, .int .i64 h.ty, .int .i64 h.ch]), bv, .int .i64 s] w (DTold h l s w) := by
  have T := head.box_tells h w
  have SZ := Lib.hid (fun W => ref15.size_at h s W)
  have RI := Lib.hid (fun W => ref15.right_at h W)
  obtain ⟨Ab, cb, rfl⟩ := rdw_form hl
  have ZB : Hid (((w.alloc (.cells #[.int .i64 h.v, .int .i64 h.ut, .int .i64 h.sd, .int .i64 h.lp, .int .i64 h.tm, .int .i64 h.ty, .int .i64 h.ch] 28)).alloc (.cells #[.slice none 0 0, .slice none 0 0, .slice none 0 0, .string ⟨#[]⟩, .int .i64 0] 26)).heap[w.heap.size + 1]? = some (.cells #[.slice none 0 0, .slice none 0 0, .slice none 0 0, .string ⟨#[]⟩, .int .i64 0] 26)) := Lib.hid (hp_new1 w _ _)
  have hw0 : Hid (Below w.heap.size w ((w.alloc (.cells #[.int .i64 h.v, .int .i64 h.ut, .int .i64 h.sd, .int .i64 h.lp, .int .i64 h.tm, .int .i64 h.ty, .int .i64 h.ch] 28)).alloc (.cells #[.slice none 0 0, .slice none 0 0, .slice none 0 0, .string ⟨#[]⟩, .int .i64 0] 26))) := Lib.hid (bal (bal (Below.refl _ _) _) _)
  have HZ : Hid (∀ W, Below ((w.alloc (.cells #[.int .i64 h.v, .int .i64 h.ut, .int .i64 h.sd, .int .i64 h.lp, .int .i64 h.tm, .int .i64 h.ty, .int .i64 h.ch] 28)).alloc (.cells #[.slice none 0 0, .slice none 0 0, .slice none 0 0, .string ⟨#[]⟩, .int .i64 0] 26)).heap.size ((w.alloc (.cells #[.int .i64 h.v, .int .i64 h.ut, .int .i64 h.sd, .int .i64 h.lp, .int .i64 h.tm, .int .i64 h.ty, .int .i64 h.ch] 28)).alloc (.cells #[.slice none 0 0, .slice none 0 0, .slice none 0 0, .string ⟨#[]⟩, .int .i64 0] 26)) W → Below (w.alloc (.cells #[.int .i64 h.v, .int .i64 h.ut, .int .i64 h.sd, .int .i64 h.lp, .int .i64 h.tm, .int .i64 h.ty, .int .i64 h.ch] 28)).heap.size (w.alloc (.cells #[.int .i64 h.v, .int .i64 h.ut, .int .i64 h.sd, .int .i64 h.lp, .int .i64 h.tm, .int .i64 h.ty, .int .i64 h.ch] 28)) W) := Lib.hid fun W hb => btr (bal (Below.refl _ _) _) hb
  have OP : Hid (∀ W, Below ((w.alloc (.cells #[.int .i64 h.v, .int .i64 h.ut, .int .i64 h.sd, .int .i64 h.lp, .int .i64 h.tm, .int .i64 h.ty, .int .i64 h.ch] 28)).alloc (.cells #[.slice none 0 0, .slice none 0 0, .slice none 0 0, .string ⟨#[]⟩, .int .i64 0] 26)).heap.size ((w.alloc (.cells #[.int .i64 h.v, .int .i64 h.ut, .int .i64 h.sd, .int .i64 h.lp, .int .i64 h.tm, .int .i64 h.ty, .int .i64 h.ch] 28)).alloc (.cells #[.slice none 0 0, .slice none 0 0, .slice none 0 0, .string ⟨#[]⟩, .int .i64 0] 26)) W → Calls Try.prog 32 #[.slice Ab l.length cb] W (OpenTold 98 W l)) := Lib.hid fun W hb => ref13.open_at l _ W (hl.below (btr hw0.out hb)) (by omega)
  by_cases hk : lenB h l s = true
  · have hs : s = 4 ∨ s = 8 := by
      unfold lenB at hk
      rw [Bool.and_eq_true] at hk
      exact (hd.szb_iff.1 hk.1).2
    obtain ⟨s, rfl⟩ : ∃ n : Nat, s = n := ⟨s.toNat, by omega⟩
    obtain ⟨hok, hs', hlen⟩ := len_nat hk
    have hsl : (l.length : Int) = hd.sz h s := by
      unfold lenB at hk
      rw [Bool.and_eq_true, beq_iff_eq] at hk
      exact hk.2
    rw [← hsl] at SZ
    rw [hd.ok_iff.2 hok] at RI
    have hdv : dv h l s = (mkdB h l s && nmdB h l s && amB (sl l (P4 h s) h.sd.toNat) (sl l (P5 h s) h.ut.toNat)) := by
      unfold dv
      rw [hk, Bool.true_and, Int.toNat_natCast]
    obtain ⟨q, t4, t8⟩ : ∃ q : Bool, (((s : Nat) : Int) != 4) = q ∧ (((s : Nat) : Int) != 8) = !q := by
      rcases hs' with rfl | rfl
      · exact ⟨false, rfl, rfl⟩
      · exact ⟨true, rfl, rfl⟩
    have tl : (((l.length : Nat) : Int) != ((l.length : Nat) : Int)) = false := by simp
    have hz : Sz (s : Int) := by unfold Sz; omega
    have hok2 := hok
    unfold hd.Ok at hok2
    obtain ⟨v, ut, sd, lp, tm, ty, ch⟩ := h
    simp only at *
    obtain ⟨ut, rfl⟩ : ∃ n : Nat, ut = n := ⟨ut.toNat, by omega⟩
    obtain ⟨sd, rfl⟩ : ∃ n : Nat, sd = n := ⟨sd.toNat, by omega⟩
    obtain ⟨lp, rfl⟩ : ∃ n : Nat, lp = n := ⟨lp.toNat, by omega⟩
    obtain ⟨tm, rfl⟩ : ∃ n : Nat, tm = n := ⟨tm.toNat, by omega⟩
    obtain ⟨ty, rfl⟩ : ∃ n : Nat, ty = n := ⟨ty.toNat, by omega⟩
    obtain ⟨ch, rfl⟩ : ∃ n : Nat, ch = n := ⟨ch.toNat, by omega⟩
    have hbd : ty ≤ 64 ∧ ch ≤ 256 ∧ lp ≤ 201 ∧ tm ≤ 2000 ∧ sd ≤ 64 ∧ ut ≤ 64 := by omega
    unfold P5 P4 P3 P2 P1 at hlen
    simp only [Int.toNat_natCast] at hlen
    have HLEN := Lib.hid hlen
    clear hlen
    have TX : Hid (∀ W, Below ((w.alloc (.cells #[.int .i64 v, .int .i64 (ut : Nat), .int .i64 (sd : Nat), .int .i64 (lp : Nat), .int .i64 (tm : Nat), .int .i64 (ty : Nat), .int .i64 (ch : Nat)] 28)).alloc (.cells #[.slice none 0 0, .slice none 0 0, .slice none 0 0, .string ⟨#[]⟩, .int .i64 0] 26)).heap.size ((w.alloc (.cells #[.int .i64 v, .int .i64 (ut : Nat), .int .i64 (sd : Nat), .int .i64 (lp : Nat), .int .i64 (tm : Nat), .int .i64 (ty : Nat), .int .i64 (ch : Nat)] 28)).alloc (.cells #[.slice none 0 0, .slice none 0 0, .slice none 0 0, .string ⟨#[]⟩, .int .i64 0] 26)) W → W.cell? ⟨w.heap.size, 0, none⟩ = some (.int .i64 v) ∧ W.cell? ⟨w.heap.size, 1, none⟩ = some (.int .i64 (ut : Nat)) ∧ W.cell? ⟨w.heap.size, 2, none⟩ = some (.int .i64 (sd : Nat)) ∧ W.cell? ⟨w.heap.size, 3, none⟩ = some (.int .i64 (lp : Nat)) ∧ W.cell? ⟨w.heap.size, 4, none⟩ = some (.int .i64 (tm : Nat)) ∧ W.cell? ⟨w.heap.size, 5, none⟩ = some (.int .i64 (ty : Nat)) ∧ W.cell? ⟨w.heap.size, 6, none⟩ = some (.int .i64 (ch : Nat)) ∧ Below w.heap.size w W ∧ W.heap[w.heap.size + 1]? = some (.cells #[.slice none 0 0, .slice none 0 0, .slice none 0 0, .string ⟨#[]⟩, .int .i64 0] 26)) := Lib.hid fun W hb => by
      obtain ⟨x0, x1, x2, x3, x4, x5, x6, _⟩ := T.out _ (HZ.out _ hb)
      exact ⟨x0, x1, x2, x3, x4, x5, x6, btr hw0.out hb, kept ZB.out hb⟩
    have DI : Hid (∀ w2 w3 g, Below ((w.alloc (.cells #[.int .i64 v, .int .i64 (ut : Nat), .int .i64 (sd : Nat), .int .i64 (lp : Nat), .int .i64 (tm : Nat), .int .i64 (ty : Nat), .int .i64 (ch : Nat)] 28)).alloc (.cells #[.slice none 0 0, .slice none 0 0, .slice none 0 0, .string ⟨#[]⟩, .int .i64 0] 26)).heap.size ((w.alloc (.cells #[.int .i64 v, .int .i64 (ut : Nat), .int .i64 (sd : Nat), .int .i64 (lp : Nat), .int .i64 (tm : Nat), .int .i64 (ty : Nat), .int .i64 (ch : Nat)] 28)).alloc (.cells #[.slice none 0 0, .slice none 0 0, .slice none 0 0, .string ⟨#[]⟩, .int .i64 0] 26)) w2 → Rdr 98 w2.heap.size w3.heap.size w3 g l false → Below w2.heap.size w2 w3 → DS ((w.alloc (.cells #[.int .i64 v, .int .i64 (ut : Nat), .int .i64 (sd : Nat), .int .i64 (lp : Nat), .int .i64 (tm : Nat), .int .i64 (ty : Nat), .int .i64 (ch : Nat)] 28)).alloc (.cells #[.slice none 0 0, .slice none 0 0, .slice none 0 0, .string ⟨#[]⟩, .int .i64 0] 26)) w2.heap.size w3.heap.size w3.heap.size (w3.heap.size + 1) g l v 0 [] [] [] [] nil0 nil0 nil0 nil0 (w3.alloc (.cells #[.slice none 0 0, .slice none 0 0, .slice none 0 0, .string ⟨#[]⟩, .int .i64 v] 26))) := Lib.hid fun w2 w3 g h2 r h3 => by
      have hb := bal (Below.refl w3.heap.size w3) (.cells #[.slice none 0 0, .slice none 0 0, .slice none 0 0, .string ⟨#[]⟩, .int .i64 v] 26)
      exact ⟨⟨h2.size, Nat.le_refl _, Nat.lt_succ_self _⟩, by simp, Rdr.below r hb, hp_new _ _, World.ownsRow_nil _ _ _ _, World.ownsRow_nil _ _ _ _, World.ownsRow_nil _ _ _ _, World.ownsRow_nil _ _ _ _, btr (btr h2 h3) hb⟩
    have hS : (sl l (s * tm + tm + 6 * ty + ch + (s + 4) * lp) sd).length = sd := sl_len (by have := HLEN.out; omega)
    have hU : (sl l (s * tm + tm + 6 * ty + ch + (s + 4) * lp + sd) ut).length = ut := sl_len (by have := HLEN.out; omega)
    have hSb := sl_bys hb (s * tm + tm + 6 * ty + ch + (s + 4) * lp) sd
    have hUb := sl_bys hb (s * tm + tm + 6 * ty + ch + (s + 4) * lp + sd) ut
    have hPz : (strN (sl l (s * tm + tm + 6 * ty) ch)).size < 4294967281 := by
      have e : (lx.L (strN (sl l (s * tm + tm + 6 * ty) ch))).length = ch := by rw [L_str, List.length_map]; exact sl_len (by have := HLEN.out; omega)
      have e2 : (lx.L (strN (sl l (s * tm + tm + 6 * ty) ch))).length = (strN (sl l (s * tm + tm + 6 * ty) ch)).size := lx.L_len _
      omega
    have hmk : ∀ k, k < ty → 0 ≤ gMk l (s * tm + tm) k := fun k hk => rd1_nat (sl_len (by have := HLEN.out; omega))
    have hpl : ∀ k, -9223372036854775808 ≤ gPl l (s * tm + tm) k ∧ gPl l (s * tm + tm) k ≤ 9223372036854775807 := fun k => rd1_bd l hb _ _
    have hdv2 := dv_is v ut sd lp tm ty ch s l hk hU
    have hgz := gz_is v ut sd lp tm ty ch s l
    have QN : Hid (∀ w', dv ⟨v, ut, sd, lp, tm, ty, ch⟩ l s = false → Below w.heap.size w w' → DTold ⟨v, ut, sd, lp, tm, ty, ch⟩ l s w (.returned (.tuple #[.agg (zc5 none 0 0 none 0 0 none 0 0 ⟨#[]⟩ 0), .bool false])) w') := Lib.hid fun w' hd hb => dtold_no hd hb
    have QY : Hid (∀ w' Ak ck At ct Al cl base, dv ⟨v, ut, sd, lp, tm, ty, ch⟩ l s = true → Below w.heap.size w w' → w.heap.size ≤ base → Tys w' Ak (kB (gOf l (s * tm + tm)) (dOf l (s * tm + tm)) (nmAt (strN (sl l (s * tm + tm + 6 * ty) ch)) (gPl l (s * tm + tm))) ty ty) → Prs w' At (tC (fun k => rd (sl l (s * k) s)) (fun k => rd (sl l (s * tm + k) 1)) tm) → Prs w' Al (tC (fun k => rd (sl l (s * tm + tm + 6 * ty + ch + (s + 4) * k) s)) (fun k => rd (sl l (s * tm + tm + 6 * ty + ch + (s + 4) * k + s) 4)) lp) → (∀ g o, Ak = some ⟨g, o, none⟩ → base ≤ g) → (∀ g o, At = some ⟨g, o, none⟩ → base ≤ g) → (∀ g o, Al = some ⟨g, o, none⟩ → base ≤ g) → DTold ⟨v, ut, sd, lp, tm, ty, ch⟩ l s w (.returned (.tuple #[.agg (zc5 Ak ty ck At tm ct Al lp cl ⟨#[]⟩ v), .bool true])) w') := Lib.hid fun w' Ak ck At ct Al cl base hd hbw hbs k1 k2 k3 b1 b2 b3 => by
      refine ⟨_, by rw [hd], ?_, hbw⟩
      unfold dec
      rw [if_pos hd, Int.toNat_natCast, hgz]
      exact ⟨Ak, ck, At, ct, Al, cl, by simp only [zc5, kB_len, tC_len], ⟨k1, k2, k3⟩, fun g o e => Nat.le_trans hbs (b1 g o e), fun g o e => Nat.le_trans hbs (b2 g o e), fun g o e => Nat.le_trans hbs (b3 g o e)⟩
    clear hdv hgz
    generalize dv ⟨v, ut, sd, lp, tm, ty, ch⟩ l s = DV at *
    generalize DTold ⟨v, ut, sd, lp, tm, ty, ch⟩ l s w = GOAL at *
    generalize hp1 : s * tm + tm = p1 at *
    generalize hp2 : p1 + 6 * ty = p2 at *
    generalize hp3 : p2 + ch = p3 at *
    generalize hp4 : p3 + (s + 4) * lp = p4 at *
    have HP1 := Lib.hid hp1
    have HP2 := Lib.hid hp2
    have HP3 := Lib.hid hp3
    have HP4 := Lib.hid hp4
    clear hp1 hp2 hp3 hp4
    generalize ha : (fun k => rd (sl l (s * k) s)) = a at *
    generalize hbq : (fun k => rd (sl l (s * tm + k) 1)) = b at *
    generalize ha2 : (fun k => rd (sl l (p3 + (s + 4) * k) s)) = a2 at *
    generalize hb2 : (fun k => rd (sl l (p3 + (s + 4) * k + s) 4)) = b2 at *
    have A1 := Lib.hid (show ∀ k, rd (sl l (s * k) s) = a k from fun k => by rw [← ha])
    have B1 := Lib.hid (show ∀ k, rd (sl l (s * tm + k) 1) = b k from fun k => by rw [← hbq])
    have A2 := Lib.hid (show ∀ k, rd (sl l (p3 + (s + 4) * k) s) = a2 k from fun k => by rw [← ha2])
    have B2 := Lib.hid (show ∀ k, rd (sl l (p3 + (s + 4) * k + s) 4) = b2 k from fun k => by rw [← hb2])
    have EV := Lib.hid hdv2
    have HMK := Lib.hid hmk
    have HPL := Lib.hid hpl
    have HS := Lib.hid (And.intro hS hSb)
    have HU := Lib.hid (And.intro hU hUb)
    have HPZ := Lib.hid hPz
    clear ha hbq ha2 hb2 hdv2 hmk hpl hS hSb hU hUb hPz hsl hk hok hok2 hs hs' T HZ ZB hl
    generalize hSS : sl l p4 sd = S at *
    generalize hUU : sl l (p4 + sd) ut = U at *
    have HSS := Lib.hid hSS
    have HUU := Lib.hid hUU
    clear hSS hUU
    generalize hPO : strN (sl l p2 ch) = PO at *
    have HPO := Lib.hid hPO
    clear hPO
    cases q
    all_goals
      simp only [Bool.not_false, Bool.not_true] at t8
      go_enter Try.func11, Try.ntmps11
      go_wp2_with (first
        | (go_at_call 18; (with_reducible refine (RI.out _).mono ?_); rintro e w1 ⟨rfl, hb1⟩; have HA1 := Lib.hid hb1; obtain ⟨x0, x1, x2, x3, x4, x5, x6, -, -⟩ := TX.out _ hb1; clear hb1)
        | (go_at_call 31; (with_reducible refine (SZ.out _).mono ?_); rintro e w2 ⟨rfl, hb2⟩; have HA2 := Lib.hid (btr HA1.out hb2); clear x0 x1 x2 x3 x4 x5 x6 hb2)
        | (go_at_call 32; (with_reducible refine (OP.out _ HA2.out).mono ?_); rintro e w3 ⟨g, rfl, r, hb3⟩; have D0 := Lib.hid (DI.out _ _ _ HA2.out r hb3); obtain ⟨x0, x1, x2, x3, x4, x5, x6, -, -⟩ := TX.out _ (btr HA2.out hb3); clear hb3 r))
      have HN : Hid (w.heap.size + 2 = ((w.alloc (.cells #[.int .i64 v, .int .i64 (ut : Nat), .int .i64 (sd : Nat), .int .i64 (lp : Nat), .int .i64 (tm : Nat), .int .i64 (ty : Nat), .int .i64 (ch : Nat)] 28)).alloc (.cells #[.slice none 0 0, .slice none 0 0, .slice none 0 0, .string ⟨#[]⟩, .int .i64 0] 26)).heap.size) := Lib.hid (by simp)
      clear x0 x1 x2 x3 x4 x5 x6 DI HA1 HA2 OP SZ RI
      generalize ((w.alloc (.cells #[.int .i64 v, .int .i64 (ut : Nat), .int .i64 (sd : Nat), .int .i64 (lp : Nat), .int .i64 (tm : Nat), .int .i64 (ty : Nat), .int .i64 (ch : Nat)] 28)).alloc (.cells #[.slice none 0 0, .slice none 0 0, .slice none 0 0, .string ⟨#[]⟩, .int .i64 0] 26)) = W0 at *
      generalize (w3.alloc (.cells #[.slice none 0 0, .slice none 0 0, .slice none 0 0, .string ⟨#[]⟩, .int .i64 v] 26)) = w4 at *
      generalize w3.heap.size + 1 = base at *
      generalize hzb : w3.heap.size = zb at *
      clear hzb
      generalize w2.heap.size = lo at *
      go_loopw [10] (fun i W => H1 W0 lo zb zb base g l v s tm a i W) (fun i _ => tm - (intOf i).toNat)
      case atStart => exact ⟨0, _, Nat.zero_le _, rfl, D0.out⟩
      case round =>
        obtain ⟨j, vt, hj, rfl, ds⟩ := hrel
        obtain ⟨x0, x1, x2, x3, x4, x5, x6, -, -⟩ := TX.out _ ds.bel
        by_cases hlt : j < tm
        · have hle : s * j + s ≤ s * tm := by have := Nat.mul_le_mul_left s (show j + 1 ≤ tm from hlt); rw [Nat.mul_succ] at this; exact this
          have N1 : Hid (∀ W, At3 lo zb W g l (s * j) → Calls Try.prog 33 #[.pointer (some ⟨g, 0, none⟩), .int .i64 (s : Nat)] W fun e w' => e = .returned (.int .i64 (a j)) ∧ At3 lo zb w' g l (s * j + s) ∧ Keep g W w') := Lib.hid fun W hW => by
            have hlen := HLEN.out; have q1 := HP1.out; have q2 := HP2.out; have q3 := HP3.out; have q4 := HP4.out
            have := at3_num hW s hz hb (by omega) (by omega)
            rw [A1.out] at this
            exact this
          have DD := Lib.hid (ds.below (W' := wr.drew) (bel_drewN (Below.refl _ _) 1))
          have z1 := row_cell ds.box 1
          have R := Lib.hid (fun w1 w' g' c' (D : DS W0 lo zb zb base g l v (s * j + s) (tA a j) [] [] [] vt nil0 nil0 nil0 w1) hr hg => h1_step (s := s) (n := tm) (g' := g') (c := c') (w1 := w1) (w' := w') hlt D hr hg)
          have RT := Lib.hid (fun w1 (D : DS W0 lo zb zb base g l v (s * j + s) (tA a j) [] [] [] vt nil0 nil0 nil0 w1) => (show w1.ownsRow base 43 2 vt j (pcs (tA a j)) by have := D.rt; rw [tA_len] at this; exact this))
          clear ds A1 D0 hle x0 x1 x2 x3 x5 x6 TX
          generalize hta : tA a j = ta at *
          generalize haj : a j = aj at *
          clear hta haj
          go_wp2
          go_region_law (first
            | (refine step_pr 23 43 Try.underlying23 infoT rfl _ _ rfl base w1 vt j ta aj 0 rfl rfl RT1.out (by omega) BS1.out ?_; intro g' c' w' ho hg; have Q := Lib.hid (R.out w1 w' g' c' D1.out ho hg); have bx := D1.out.box_grown D1.out.rt hg; have c1 := row_cell bx 1; have f1 := fz bx 1; clear ho hg bx)
            | (go_simp; go_at_call 33; (with_reducible refine (N1.out _ DD.out.at').mono ?_); rintro e w1 ⟨rfl, h1, h2⟩; have D1 := Lib.hid (DD.out.num h1 h2); have RT1 := Lib.hid (RT.out _ D1.out); have BS1 := Lib.hid D1.out.bs; have y1 := row_cell D1.out.box 1; have y2 := row_cell (hp_old D1.out.box (.cells #[.int .i64 aj, .int .i64 0] 43)) 1; clear h1 h2))
          all_goals
            go_wp2
            exact ⟨Q.out, by simp [intOf]; omega⟩
        · obtain rfl : j = tm := by omega
          have D1 : DS W0 lo zb zb base g l v (s * j + 0) (tB a b j 0) [] [] [] vt nil0 nil0 nil0 wr := by rw [← tB_zero]; exact ds
          have rt := D1.rt
          rw [tB_len] at rt
          obtain ⟨At, ct, rfl⟩ := rw_len rt
          have D1 := Lib.hid D1
          clear ds rt x0 x1 x2 x3 x5 x6
          go_wp2
          clear x4
          generalize wr = w5 at *
          go_loopw [11] (fun i W => H2 W0 lo zb zb base g l v (s * j) j a b (.slice At j ct) i W) (fun i _ => j - (intOf i).toNat)
          case atStart => exact ⟨0, Nat.zero_le _, rfl, D1.out⟩
          case round =>
            obtain ⟨k, hk, rfl, ds⟩ := hrel
            obtain ⟨x0, x1, x2, x3, x4, x5, x6, -, -⟩ := TX.out _ ds.bel
            by_cases hlt : k < j
            · have N1 : Hid (∀ W, At3 lo zb W g l (s * j + k) → Calls Try.prog 33 #[.pointer (some ⟨g, 0, none⟩), .int .i64 1] W fun e w' => e = .returned (.int .i64 (b k)) ∧ At3 lo zb w' g l (s * j + k + 1) ∧ Keep g W w') := Lib.hid fun W hW => by
                have hlen := HLEN.out; have q1 := HP1.out; have q2 := HP2.out; have q3 := HP3.out; have q4 := HP4.out
                have := at3_num hW 1 (Or.inl rfl) hb (by omega) (by omega)
                rw [B1.out] at this
                exact this
              have rt := ds.rt
              rw [tB_len] at rt
              obtain ⟨gt, rfl, -, -⟩ := rw_where rt (by omega)
              have DD := Lib.hid (ds.below (W' := wr.drew) (bel_drewN (Below.refl _ _) 1))
              have z1 := row_cell ds.box 1
              have R := Lib.hid (fun w1 (D : DS W0 lo zb zb base g l v (s * j + k + 1) (tB a b j k) [] [] [] (.slice (some ⟨gt, 0, none⟩) j ct) nil0 nil0 nil0 w1) => h2_step hlt D)
              have RC := Lib.hid (fun w1 (D : DS W0 lo zb zb base g l v (s * j + k + 1) (tB a b j k) [] [] [] (.slice (some ⟨gt, 0, none⟩) j ct) nil0 nil0 nil0 w1) => (show (∃ u, w1.cell? ⟨gt, k * 2 + 1, none⟩ = some u) ∧ w1.frozen? ⟨gt, k * 2 + 1, none⟩ = false by
                have rt := D.rt
                rw [tB_len] at rt
                refine ⟨⟨_, (rt.cellAt (k * 2 + 1) (by omega)).trans (pcs_at _ k (by rw [tB_len]; exact hlt)).2⟩, rw_fz rt _⟩))
              clear ds rt A1 B1 D0 D1 x0 x1 x2 x3 x5 x6 TX
              generalize tB a b j k = tb at *
              generalize hbk : b k = bk at *
              clear hbk
              go_wp2
              go_region_law (go_simp; go_at_call 33; (with_reducible refine (N1.out _ DD.out.at').mono ?_); rintro e w1 ⟨rfl, h1, h2⟩; have D2 := Lib.hid (DD.out.num h1 h2); have Q := Lib.hid (R.out _ D2.out); have y1 := row_cell D2.out.box 1; obtain ⟨⟨u1, y2⟩, y3⟩ := RC.out _ D2.out; clear h1 h2)
              all_goals
                go_wp2
                exact ⟨Q.out, by simp [intOf]; omega⟩
            · obtain rfl : k = j := by omega
              have D2 : DS W0 lo zb zb base g l v p1 (tC a b k) [] [] [] (.slice At k ct) nil0 nil0 nil0 wr := by rw [← tB_all, ← HP1.out]; exact ds
              have D2 := Lib.hid D2
              clear ds x0 x1 x2 x3 x5 x6 D1 D0
              have HTL : Hid ((tC a b k).length = k) := Lib.hid (tC_len ..)
              generalize tC a b k = TT at *
              go_wp2
              clear x4
              generalize hvt : Value.slice At k ct = vt at *
              have HVT := Lib.hid hvt
              clear hvt
              generalize wr = w6 at *
              go_loopw [12, 13, 14] (fun u o i W => H3 W0 lo zb zb base g l v p1 ty TT vt u o i W) (fun _ _ i _ => ty - (intOf i).toNat)
              case atStart => exact ⟨0, _, nil0, true, Nat.zero_le _, rfl, rfl, rfl, rfl, D2.out⟩
              case round =>
                obtain ⟨j, va, vk, qb, hj, rfl, rfl, rfl, hq, ds⟩ := hrel
                obtain ⟨x0, x1, x2, x3, x4, x5, x6, -, -⟩ := TX.out _ ds.bel
                by_cases hlt : j < ty
                · have N1 : Hid (Calls Try.prog 33 #[.pointer (some ⟨g, 0, none⟩), .int .i64 4] wr fun e w' => e = .returned (.int .i64 (gOf l p1 j)) ∧ At3 lo zb w' g l (p1 + 6 * j + 4) ∧ Keep g wr w') := Lib.hid (by
                    have hlen := HLEN.out; have q1 := HP1.out; have q2 := HP2.out; have q3 := HP3.out; have q4 := HP4.out
                    exact at3_num ds.at' 4 (Or.inr (Or.inl rfl)) hb (by omega) (by omega))
                  have N2 : Hid (∀ W, At3 lo zb W g l (p1 + 6 * j + 4) → Calls Try.prog 33 #[.pointer (some ⟨g, 0, none⟩), .int .i64 1] W fun e w' => e = .returned (.int .i64 (gMk l p1 j)) ∧ At3 lo zb w' g l (p1 + 6 * j + 5) ∧ Keep g W w') := Lib.hid fun W hW => by
                    have hlen := HLEN.out; have q1 := HP1.out; have q2 := HP2.out; have q3 := HP3.out; have q4 := HP4.out
                    exact at3_num hW 1 (Or.inl rfl) hb (by omega) (by omega)
                  have N3 : Hid (∀ W, At3 lo zb W g l (p1 + 6 * j + 5) → Calls Try.prog 33 #[.pointer (some ⟨g, 0, none⟩), .int .i64 1] W fun e w' => e = .returned (.int .i64 (gPl l p1 j)) ∧ At3 lo zb w' g l (p1 + 6 * (j + 1)) ∧ Keep g W w') := Lib.hid fun W hW => by
                    have hlen := HLEN.out; have q1 := HP1.out; have q2 := HP2.out; have q3 := HP3.out; have q4 := HP4.out
                    exact at3_num hW 1 (Or.inl rfl) hb (by omega) (by omega)
                  have RK := Lib.hid (fun w2 (D : DS W0 lo zb zb base g l v (p1 + 6 * j + 5) TT (kA (gOf l p1) (dOf l p1) j) (iA (gPl l p1) j) [] vt vk va nil0 w2) => (show w2.ownsRow base 41 3 vk j (tcs (kA (gOf l p1) (dOf l p1) j)) from by have := D.rk; rw [kA_len] at this; exact this))
                  have K3 := Lib.hid (fun w2 w' g' c' (D : DS W0 lo zb zb base g l v (p1 + 6 * j + 5) TT (kA (gOf l p1) (dOf l p1) j) (iA (gPl l p1) j) [] vt vk va nil0 w2) (hr : w'.ownsRow base 41 3 (.slice (some ⟨g', 0, none⟩) (j + 1) c') (j + 1) (tcs ((kA (gOf l p1) (dOf l p1) j) ++ [⟨gOf l p1 j, dOf l p1 j, ⟨#[]⟩⟩]))) (hg : w2.grownBy w' vk.ownBlock) => (show DS W0 lo zb zb base g l v (p1 + 6 * j + 5) TT (kA (gOf l p1) (dOf l p1) (j + 1)) (iA (gPl l p1) j) [] vt (.slice (some ⟨g', 0, none⟩) (j + 1) c') va nil0 (w'.setCell ⟨zb, 0, none⟩ (.slice (some ⟨g', 0, none⟩) (j + 1) c')) from by
                    rw [← kA_succ] at hr
                    exact D.growK hg (by rw [kA_len]; exact hr)))
                  have A5 := Lib.hid (fun w4 w5 v' vk' (D : DS W0 lo zb zb base g l v (p1 + 6 * (j + 1)) TT (kA (gOf l p1) (dOf l p1) (j + 1)) (iA (gPl l p1) j) [] vt vk' va nil0 w4) (hr : abr.IOwn base w5 v' ((iA (gPl l p1) j) ++ [gPl l p1 j])) (hg : w4.grownBy w5 va.ownBlock) => (show DS W0 lo zb zb base g l v (p1 + 6 * (j + 1)) TT (kA (gOf l p1) (dOf l p1) (j + 1)) (iA (gPl l p1) (j + 1)) [] vt vk' v' nil0 w5 from by
                    rw [← iA_succ] at hr
                    exact D.growA hg hr))
                  have E := Lib.hid (fun v' vk' q' W' (hq' : q' = (qb && mkB (gMk l p1 j))) (D : DS W0 lo zb zb base g l v (p1 + 6 * (j + 1)) TT (kA (gOf l p1) (dOf l p1) (j + 1)) (iA (gPl l p1) (j + 1)) [] vt vk' v' nil0 W') => (⟨j + 1, v', vk', q', hlt, rfl, rfl, rfl, by rw [mkAll_succ, ← hq]; exact hq', D⟩ : H3 W0 lo zb zb base g l v p1 ty TT vt v' (.bool q') (.int .i64 ((j : Int) + 1)) W'))
                  have m1 : (gMk l p1 j == 1) = dOf l p1 j := rfl
                  have m2 := mk_mark (HMK.out j hlt)
                  have LI : Hid ((iA (gPl l p1) j).length < 8000000000) := Lib.hid (by rw [iA_len]; omega)
                  have S0 := Lib.hid ds
                  clear ds hq D2 x0 x1 x2 x3 x4 x6 A2 B2 EV HMK HPL TX QY QN
                  generalize (kA (gOf l p1) (dOf l p1) (j + 1)) = K1 at *
                  generalize (kA (gOf l p1) (dOf l p1) j) = K0 at *
                  generalize (iA (gPl l p1) (j + 1)) = I1 at *
                  generalize (iA (gPl l p1) j) = I0 at *
                  generalize gOf l p1 j = y1 at *
                  generalize dOf l p1 j = y2 at *
                  generalize gPl l p1 j = y3 at *
                  generalize mkB (gMk l p1 j) = m at *
                  generalize gMk l p1 j = y4 at *
                  cases qb <;> cases m
                  all_goals
                    go_wp2_with (first
                      | (go_at_call 33; (with_reducible refine N1.out.mono ?_); rintro e w1 ⟨rfl, h1, h2⟩; have S1 := Lib.hid (S0.out.num h1 h2); clear h1 h2 N1)
                      | (go_at_call 33; (with_reducible refine (N2.out _ S1.out.at').mono ?_); rintro e w2 ⟨rfl, h1, h2⟩; have S2 := Lib.hid (S1.out.num h1 h2); have z0 := row_cell S2.out.box 0; clear h1 h2 N2)
                      | (at_builtin; refine app_ty rfl _ _ rfl base w2 vk j K0 ⟨y1, y2, ⟨#[]⟩⟩ rfl rfl (RK.out _ S2.out) (by omega) S2.out.bs ?_; intro g' c' w3 ho hg; have S3 := Lib.hid (K3.out _ _ _ _ S2.out ho hg); have bx := S2.out.box_grown S2.out.rk hg; have c0 := row_cell bx 0; have f0 := fz bx 0; clear ho hg bx z0)
                      | (go_at_call 33; (with_reducible refine (N3.out _ S3.out.at').mono ?_); rintro e w4 ⟨rfl, h1, h2⟩; have S4 := Lib.hid (S3.out.num h1 h2); clear h1 h2 N3 c0 f0)
                      | (at_builtin; refine abr.app_int rfl _ _ rfl base w4 va I0 y3 rfl rfl S4.out.ra LI.out S4.out.bs ?_; intro v' w7 ho hg; have S5 := Lib.hid (A5.out _ _ _ _ S4.out ho hg); clear ho hg))
                    first
                      | exact ⟨E.out _ _ true _ rfl S5.out, by simp [intOf]; omega⟩
                      | exact ⟨E.out _ _ false _ rfl S5.out, by simp [intOf]; omega⟩
                      | (go_roundw; (case rel => first | exact E.out _ _ true _ rfl S5.out | exact E.out _ _ false _ rfl S5.out); (case measure => simp [intOf]; omega))
                · obtain rfl : ty = j := by omega
                  have rk := ds.rk
                  rw [kA_len] at rk
                  obtain ⟨Ak, ck, rfl⟩ := rw_len rk
                  obtain ⟨Aa, ca, hva⟩ := rw_len ds.ra
                  rw [iA_len] at hva
                  subst hva
                  have D3 : DS W0 lo zb zb base g l v p2 TT (kB (gOf l p1) (dOf l p1) (nmAt PO (gPl l p1)) ty 0) (iA (gPl l p1) ty) [] vt (.slice Ak ty ck) (.slice Aa ty ca) nil0 wr := by rw [← kB_zero, ← HP2.out]; exact ds
                  have TK : Hid (Calls Try.prog 34 #[.pointer (some ⟨g, 0, none⟩), .int .i64 (ch : Nat)] wr fun e w' => ∃ A c, e = .returned (.slice A ch c) ∧ Own wr.heap.size w' (.slice A ch c) (sl l p2 ch) ∧ At3 lo zb w' g l (p3) ∧ Keep g wr w') := Lib.hid (by
                    have hlen := HLEN.out; have q1 := HP1.out; have q2 := HP2.out; have q3 := HP3.out; have q4 := HP4.out
                    have := at3_take D3.at' ch (by omega) (by omega)
                    rw [sl_len (by omega), q3] at this
                    exact this)
                  have D3 := Lib.hid D3
                  have HQ := Lib.hid hq
                  clear ds rk x0 x1 x2 x3 D2 hq
                  go_wp2_with (go_at_call 34; (with_reducible refine TK.out.mono ?_); rintro e w7 ⟨A7, c7, rfl, o7, h1, h2⟩; have D4 := Lib.hid (D3.out.num h1 h2); have cv := str_of (own_by o7).rd; rw [HPO.out] at cv; clear h1 h2 o7)
                  clear x4 x5 x6 TK D3 cv
                  generalize hvk : Value.slice Ak ty ck = vk at *
                  have HVK := Lib.hid hvk
                  clear hvk
                  go_loopw [13, 18] (fun o i W => H4 W0 lo zb zb base g l v p1 p3 ty PO qb TT vt vk (.slice Aa ty ca) o i W) (fun _ i _ => ty - (intOf i).toNat)
                  case atStart => exact ⟨0, qb, Nat.zero_le _, rfl, rfl, by simp [isAll], D4.out⟩
                  case round =>
                    obtain ⟨k4, q4b, hk4, rfl, rfl, hq4, ds⟩ := hrel
                    obtain ⟨x0, x1, x2, x3, x4, x5, x6, -, -⟩ := TX.out _ ds.bel
                    by_cases hlt : k4 < ty
                    · obtain rfl := HVK.out
                      have AT : Hid (∀ W, Calls Try.prog 35 #[.string PO, .int .i64 (gPl l p1 k4)] W fun e w' => e = .returned (.tuple #[.string (nmAt PO (gPl l p1) k4), .bool (isAt PO (gPl l p1) k4)]) ∧ Below W.heap.size W w') := Lib.hid fun W => ref14.at_at PO _ (HPL.out k4) W HPZ.out
                      obtain ⟨ga, rfl, -, -⟩ := rw_where (A := Aa) (n := ty) (c := ca) (by have := ds.ra; unfold abr.IOwn at this; rw [iA_len] at this; exact this) (by omega)
                      obtain ⟨gk, rfl, -, -⟩ := rw_where (A := Ak) (n := ty) (c := ck) (by have := ds.rk; rw [kB_len] at this; exact this) (by omega)
                      have ya : wr.cell? ⟨ga, k4, none⟩ = some (.int .i64 (gPl l p1 k4)) := by
                        have ra := ds.ra
                        unfold abr.IOwn at ra
                        rw [iA_len] at ra
                        rw [ra.cellAt k4 (by omega)]
                        simp [iA, hlt]
                      have RC := Lib.hid (fun w1 (D : DS W0 lo zb zb base g l v p3 TT (kB (gOf l p1) (dOf l p1) (nmAt PO (gPl l p1)) ty k4) (iA (gPl l p1) ty) [] vt (.slice (some ⟨gk, 0, none⟩) ty ck) (.slice (some ⟨ga, 0, none⟩) ty ca) nil0 w1) => (show (∃ u, w1.cell? ⟨gk, k4 * 3 + 2, none⟩ = some u) ∧ w1.frozen? ⟨gk, k4 * 3 + 2, none⟩ = false by
                        have rk := D.rk
                        rw [kB_len] at rk
                        refine ⟨⟨_, (rk.cellAt (k4 * 3 + 2) (by omega)).trans (tcs_at _ k4 (by rw [kB_len]; exact hlt)).2.2⟩, rw_fz rk _⟩))
                      have R := Lib.hid (fun w1 q' (hq' : q' = (q4b && isAt PO (gPl l p1) k4)) (D : DS W0 lo zb zb base g l v p3 TT (kB (gOf l p1) (dOf l p1) (nmAt PO (gPl l p1)) ty k4) (iA (gPl l p1) ty) [] vt (.slice (some ⟨gk, 0, none⟩) ty ck) (.slice (some ⟨ga, 0, none⟩) ty ca) nil0 w1) => h4_step hlt hq4 hq' D)
                      have DB := Lib.hid (fun w1 (hb' : Below wr.heap.size wr w1) => ds.below hb')
                      clear ds hq4 D4 x0 x1 x2 x3 x4 x6 A2 B2 EV HMK HPL TX QY QN HVK HQ HPO HPZ
                      generalize (kB (gOf l p1) (dOf l p1) (nmAt PO (gPl l p1)) ty k4) = K0 at *
                      generalize (iA (gPl l p1) ty) = I0 at *
                      generalize nmAt PO (gPl l p1) k4 = y1 at *
                      generalize isAt PO (gPl l p1) k4 = m at *
                      generalize gPl l p1 k4 = y2 at *
                      cases q4b <;> cases m
                      all_goals
                        go_wp2_with (go_at_call 35; (with_reducible refine (AT.out _).mono ?_); rintro e w8 ⟨rfl, hb8⟩; have S8 := Lib.hid (DB.out _ hb8); have z0 := row_cell S8.out.box 0; obtain ⟨⟨u8, y3⟩, y4⟩ := RC.out _ S8.out; clear hb8)
                        first
                          | exact ⟨R.out _ true rfl S8.out, by simp [intOf]; omega⟩
                          | exact ⟨R.out _ false rfl S8.out, by simp [intOf]; omega⟩
                          | (go_roundw; (case rel => first | exact R.out _ true rfl S8.out | exact R.out _ false rfl S8.out); (case measure => simp [intOf]; omega))
                    · obtain rfl : ty = k4 := by omega
                      have D5 : DS W0 lo zb zb base g l v (p3 + (s + 4) * 0) TT (kB (gOf l p1) (dOf l p1) (nmAt PO (gPl l p1)) ty ty) (iA (gPl l p1) ty) (tC a2 b2 0) vt vk (.slice Aa ty ca) nil0 wr := ds
                      have D5 := Lib.hid D5
                      have HQ4 := Lib.hid hq4
                      clear ds hq4 x0 x1 x2 x3 x4 x6 D4
                      have HKL : Hid ((kB (gOf l p1) (dOf l p1) (nmAt PO (gPl l p1)) ty ty).length = ty) := Lib.hid (kB_len ..)
                      generalize kB (gOf l p1) (dOf l p1) (nmAt PO (gPl l p1)) ty ty = KK at *
                      generalize iA (gPl l p1) ty = II at *
                      go_wp2
                      clear x5
                      generalize wr = w8 at *
                      go_loopw [21] (fun i W => H5 W0 lo zb zb base g l v s p3 lp a2 b2 TT KK II vt vk (.slice Aa ty ca) i W) (fun i _ => lp - (intOf i).toNat)
                      case atStart => exact ⟨0, _, Nat.zero_le _, rfl, D5.out⟩
                      case round =>
                        obtain ⟨j5, vl, hj5, rfl, ds⟩ := hrel
                        obtain ⟨x0, x1, x2, x3, x4, x5, x6, -, -⟩ := TX.out _ ds.bel
                        by_cases hlt : j5 < lp
                        · have hle : (s + 4) * j5 + (s + 4) ≤ (s + 4) * lp := by have := Nat.mul_le_mul_left (s + 4) (show j5 + 1 ≤ lp from hlt); rw [Nat.mul_succ] at this; exact this
                          have N1 : Hid (Calls Try.prog 33 #[.pointer (some ⟨g, 0, none⟩), .int .i64 (s : Nat)] wr fun e w' => e = .returned (.int .i64 (a2 j5)) ∧ At3 lo zb w' g l (p3 + (s + 4) * j5 + s) ∧ Keep g wr w') := Lib.hid (by
                            have hlen := HLEN.out; have q1 := HP1.out; have q2 := HP2.out; have q3 := HP3.out; have q4 := HP4.out
                            have := at3_num ds.at' s hz hb (by omega) (by omega)
                            rw [A2.out] at this
                            exact this)
                          have N2 : Hid (∀ W, At3 lo zb W g l (p3 + (s + 4) * j5 + s) → Calls Try.prog 33 #[.pointer (some ⟨g, 0, none⟩), .int .i64 4] W fun e w' => e = .returned (.int .i64 (b2 j5)) ∧ At3 lo zb w' g l (p3 + (s + 4) * j5 + s + 4) ∧ Keep g W w') := Lib.hid fun W hW => by
                            have hlen := HLEN.out; have q1 := HP1.out; have q2 := HP2.out; have q3 := HP3.out; have q4 := HP4.out
                            have := at3_num hW 4 (Or.inr (Or.inl rfl)) hb (by omega) (by omega)
                            rw [B2.out] at this
                            exact this
                          have S0 := Lib.hid ds
                          have R := Lib.hid (fun w1 w' g' c' (D : DS W0 lo zb zb base g l v (p3 + (s + 4) * j5 + s + 4) TT KK II (tC a2 b2 j5) vt vk (.slice Aa ty ca) vl w1) hr hg => h5_step (n := lp) (g' := g') (c := c') (w' := w') hlt D hr hg)
                          have RT := Lib.hid (fun w1 (D : DS W0 lo zb zb base g l v (p3 + (s + 4) * j5 + s + 4) TT KK II (tC a2 b2 j5) vt vk (.slice Aa ty ca) vl w1) => (show w1.ownsRow base 45 2 vl j5 (pcs (tC a2 b2 j5)) by have := D.rl; rw [tC_len] at this; exact this))
                          clear ds A2 B2 D5 hle x0 x1 x2 x4 x5 x6 TX EV HMK HPL QY QN HVK HQ HPO HPZ HQ4
                          generalize tC a2 b2 j5 = tc at *
                          generalize ha2 : a2 j5 = y1 at *
                          generalize hb2 : b2 j5 = y2 at *
                          clear ha2 hb2
                          go_wp2_with (go_at_call 33; (with_reducible refine N1.out.mono ?_); rintro e w1 ⟨rfl, h1, h2⟩; have S1 := Lib.hid ((S0.out.num h1 h2).below (W' := w1.drew) (bel_drewN (Below.refl _ _) 1)); have z2 := row_cell (S0.out.num h1 h2).box 2; clear h1 h2 N1)
                          go_region_law (first
                            | (refine step_pr 24 45 Try.underlying24 infoC rfl _ _ rfl base w2 vl j5 tc y1 y2 rfl rfl RT1.out (by omega) BS1.out ?_; intro g' c' w' ho hg; have Q := Lib.hid (R.out w2 w' g' c' S2.out ho hg); have bx := S2.out.box_grown S2.out.rl hg; have c1 := row_cell bx 2; have f1 := fz bx 2; clear ho hg bx)
                            | (go_simp; go_at_call 33; (with_reducible refine (N2.out _ S1.out.at').mono ?_); rintro e w2 ⟨rfl, h1, h2⟩; have S2 := Lib.hid (S1.out.num h1 h2); have RT1 := Lib.hid (RT.out _ S2.out); have BS1 := Lib.hid S2.out.bs; have y3 := row_cell S2.out.box 2; have y4 := row_cell (hp_old S2.out.box (.cells #[.int .i64 y1, .int .i64 y2] 45)) 2; clear h1 h2))
                          all_goals
                            go_wp2
                            exact ⟨Q.out, by simp [intOf]; omega⟩
                        · obtain rfl : lp = j5 := by omega
                          have rl := ds.rl
                          rw [tC_len] at rl
                          obtain ⟨Al, cl, rfl⟩ := rw_len rl
                          have D6 : DS W0 lo zb zb base g l v p4 TT KK II (tC a2 b2 lp) vt vk (.slice Aa ty ca) (.slice Al lp cl) wr := by rw [← HP4.out]; exact ds
                          have TS : Hid (Calls Try.prog 34 #[.pointer (some ⟨g, 0, none⟩), .int .i64 (sd : Nat)] wr fun e w' => ∃ A c, e = .returned (.slice A sd c) ∧ Own wr.heap.size w' (.slice A sd c) S ∧ At3 lo zb w' g l (p4 + sd) ∧ Keep g wr w') := Lib.hid (by
                            have hlen := HLEN.out
                            have := at3_take D6.at' sd (by omega) (by omega)
                            rw [HSS.out, HS.out.1] at this
                            exact this)
                          have TU : Hid (∀ W, At3 lo zb W g l (p4 + sd) → Calls Try.prog 34 #[.pointer (some ⟨g, 0, none⟩), .int .i64 (ut : Nat)] W fun e w' => ∃ A c, e = .returned (.slice A ut c) ∧ Own W.heap.size w' (.slice A ut c) U ∧ At3 lo zb w' g l (p4 + sd + ut) ∧ Keep g W w') := Lib.hid fun W hW => by
                            have hlen := HLEN.out
                            have := at3_take hW ut (by omega) (by omega)
                            rw [HUU.out, HU.out.1] at this
                            exact this
                          have MS : Hid (∀ W A c, RdW W (.slice A sd c) S → Calls Try.prog 36 #[.slice A sd c] W fun e w' => e = .returned (.bool (le1 S)) ∧ W = w') := Lib.hid fun W A c h => by
                            have := marks_at S A c W (by rw [HS.out.1]; exact h) HS.out.2 (by rw [HS.out.1]; omega)
                            rw [HS.out.1] at this
                            exact this
                          have MU : Hid (∀ W A c, RdW W (.slice A ut c) U → Calls Try.prog 36 #[.slice A ut c] W fun e w' => e = .returned (.bool (le1 U)) ∧ W = w') := Lib.hid fun W A c h => by
                            have := marks_at U A c W (by rw [HU.out.1]; exact h) HU.out.2 (by rw [HU.out.1]; omega)
                            rw [HU.out.1] at this
                            exact this
                          have GW : Hid (g < wr.heap.size) := Lib.hid (by have h1 := D6.gz; have h2 := D6.bs; omega)
                          have KO := Lib.hid (fun w8 w9 v8 (o : Own wr.heap.size w8 v8 S) (k : Keep g w8 w9) => ((own_by o).keep k (fun b hb => by have := GW.out; omega)).rd)
                          have D6 := Lib.hid D6
                          clear ds rl D5 x0 x1 x4 x5 x6
                          go_wp2_with (first
                            | (go_at_call 34; (with_reducible refine TS.out.mono ?_); rintro e w9 ⟨A9, c9, rfl, o9, h1, h2⟩; have D7 := Lib.hid (D6.out.num h1 h2); have O9 := Lib.hid o9; clear x2 x3; obtain ⟨-, x1, -, -, -, -, -, -, -⟩ := TX.out _ D7.out.bel; clear o9 h1 h2)
                            | (go_at_call 34; (with_reducible refine (TU.out _ D7.out.at').mono ?_); rintro e w10 ⟨A10, c10, rfl, o10, h1, h2⟩; have D8 := Lib.hid (D7.out.num h1 h2); have RS := Lib.hid (KO.out _ _ _ O9.out h2); have RU := Lib.hid (own_by o10).rd; clear x1 o10 h1 h2)
                            | (go_at_call 36; first
                              | ((with_reducible refine (MS.out _ A9 c9 RS.out).mono ?_); rintro e w' ⟨rfl, rfl⟩; clear MS)
                              | ((with_reducible refine (MU.out _ A10 c10 RU.out).mono ?_); rintro e w' ⟨rfl, rfl⟩; clear MU)))
                          clear TS TU KO GW O9 D6 D7
                          have HLS := Lib.hid HS.out.1
                          have HLU := Lib.hid HU.out.1
                          have H10 := Lib.hid (TX.out _ D8.out.bel)
                          clear TX HS HU A2 B2
                          go_loop [13, 27] (fun o i => H6 S U ut q4b o i) (fun _ i => ut - (intOf i).toNat)
                          case atStart => exact ⟨0, q4b, Nat.zero_le _, rfl, rfl, by simp [thAll]⟩
                          case round =>
                            obtain ⟨k6, q6, hk6, rfl, rfl, hq6⟩ := hrel
                            by_cases hlt : k6 < ut
                            · obtain ⟨bu, ou, rfl, yu0⟩ := rd_cells RU.out k6 (by rw [HLU.out]; exact hlt)
                              have R := Lib.hid (fun q' (hq' : q' = (q6 && thB S U k6)) => h6_step (n := ut) hlt hq6 hq')
                              by_cases hu : U.getD k6 0 = 1
                              · have yu : w10.cell? ⟨bu, ou + k6, none⟩ = some (.int .u8 1) := by rw [hu] at yu0; exact yu0
                                clear yu0
                                by_cases hs6 : k6 < sd
                                · obtain ⟨bs, os, rfl, ys0⟩ := rd_cells RS.out k6 (by rw [HLS.out]; exact hs6)
                                  by_cases h0 : S.getD k6 0 = 0
                                  · have ys : w10.cell? ⟨bs, os + k6, none⟩ = some (.int .u8 0) := by rw [h0] at ys0; exact ys0
                                    clear ys0
                                    have R2 := Lib.hid (R.out false (by rw [thB_zero hu h0, Bool.and_false]))
                                    clear R hu h0 hq6 EV QY QN
                                    go_wp2
                                    first
                                      | exact ⟨R2.out, by simp [intOf]; omega⟩
                                      | (go_round; (case rel => exact R2.out); (case measure => simp [intOf]; omega))
                                  · have R2 := Lib.hid (R.out q6 (by rw [thB_one (by rw [HLS.out]; exact hs6) h0, Bool.and_true]))
                                    have n0 : (((S.getD k6 0 : Nat) : Int) == 0) = false := beq_eq_false_iff_ne.2 (by omega)
                                    clear R hu h0 hq6 EV QY QN
                                    generalize S.getD k6 0 = x at *
                                    go_wp2
                                    first
                                      | exact ⟨R2.out, by simp [intOf]; omega⟩
                                      | (go_round; (case rel => exact R2.out); (case measure => simp [intOf]; omega))
                                · have R2 := Lib.hid (R.out false (by rw [thB_far hu (by rw [HLS.out]; omega), Bool.and_false]))
                                  have d1 : decide ((sd : Int) ≤ (k6 : Int)) = true := by simp; omega
                                  have d2 : decide (sd ≤ k6) = true := by simp; omega
                                  clear R hu hq6 EV QY QN
                                  go_wp2
                                  first
                                    | exact ⟨R2.out, by simp [intOf]; omega⟩
                                    | (go_round; (case rel => exact R2.out); (case measure => simp [intOf]; omega))
                              · have R2 := Lib.hid (R.out q6 (by rw [thB_no hu, Bool.and_true]))
                                have nu : (((U.getD k6 0 : Nat) : Int) == 1) = false := beq_eq_false_iff_ne.2 (by omega)
                                clear R hu hq6 EV QY QN
                                generalize U.getD k6 0 = x at *
                                go_wp2
                                first
                                  | exact ⟨R2.out, by simp [intOf]; omega⟩
                                  | (go_round; (case rel => exact R2.out); (case measure => simp [intOf]; omega))
                            · obtain rfl : ut = k6 := by omega
                              have hDV : DV = (q6 && le1 S && le1 U) := by rw [EV.out, hq6, HQ4.out, HQ.out]
                              obtain rfl := HVT.out
                              obtain rfl := HVK.out
                              have c0 := row_cell D8.out.box 0
                              have c1 := row_cell D8.out.box 1
                              have c2 := row_cell D8.out.box 2
                              have c3 := row_cell D8.out.box 3
                              have c4 := row_cell D8.out.box 4
                              have BX := Lib.hid H10.out.2.2.2.2.2.2.2.2
                              have BW := Lib.hid H10.out.2.2.2.2.2.2.2.1
                              have hzb : w.heap.size + 1 < base := by have := D8.out.gz; have := HN.out; omega
                              have FN := Lib.hid (fun (e : DV = false) c => QN.out _ e (bel_setRow BW.out (Nat.le_succ _) c))
                              have FY : Hid (DV = true → ∀ c, GOAL (.returned (.tuple #[.agg (zc5 Ak ty ck At k ct Al lp cl ⟨#[]⟩ v), .bool true])) (w10.setRow (w.heap.size + 1) c)) := Lib.hid fun e c => by
                                have hn1 : w.heap.size ≤ base := by omega
                                have rt := D8.out.rt
                                have rk := D8.out.rk
                                have rl := D8.out.rl
                                rw [HTL.out] at rt
                                rw [HKL.out] at rk
                                rw [tC_len] at rl
                                exact QY.out _ Ak ck At ct Al cl base e (bel_setRow BW.out (Nat.le_succ _) c) hn1 (tys_setRow (tys_own rk HKL.out.symm) (rw_base rk) hzb c) (prs_setRow (prs_own rt HTL.out.symm) (rw_base rt) hzb c) (prs_setRow (prs_own rl (tC_len ..).symm) (rw_base rl) hzb c) (rw_base rk) (rw_base rt) (rw_base rl)
                              have HDV := Lib.hid hDV
                              clear hDV hq6 EV QY QN D8 hzb H10 HTL HKL RS RU HVT HVK HQ HQ4 HLS HLU HSS HUU
                              generalize le1 S = e1 at *
                              generalize le1 U = e2 at *
                              cases q6 <;> cases e1 <;> cases e2
                              case true.true.true =>
                                go_wp2_with (refine wpList_store_row rfl 26 (.tmp 6) (.tmp 205) rfl (w.heap.size + 1) (zc5 Ak ty ck At k ct Al lp cl ⟨#[]⟩ v) rfl rfl 26 _ BX.out szZ rfl (zc5_one _ _ _ _ _ _ _ _ _ _ _) ?_)
                                refine end_pair Try.results11 _ _ (w.heap.size + 1) _ (zc5 Ak ty ck At k ct Al lp cl ⟨#[]⟩ v) _ _ rfl rfl (setRow_heap _ _ _ _ _ _ BX.out) Try.underlying26 szZ rfl ?_
                                exact FY.out HDV.out _
                              all_goals
                                go_wp2_with (refine wpList_store_row rfl 26 (.tmp 6) (.tmp 204) rfl (w.heap.size + 1) (zc5 none 0 0 none 0 0 none 0 0 ⟨#[]⟩ 0) rfl rfl 26 _ BX.out szZ rfl (zc5_one _ _ _ _ _ _ _ _ _ _ _) ?_)
                                refine end_pair Try.results11 _ _ (w.heap.size + 1) _ (zc5 none 0 0 none 0 0 none 0 0 ⟨#[]⟩ 0) _ _ rfl rfl (setRow_heap _ _ _ _ _ _ BX.out) Try.underlying26 szZ rfl ?_
                                exact FN.out HDV.out _
  · have hk' : lenB h l s = false := by simpa using hk
    have hdv : dv h l s = false := by unfold dv; rw [hk']; rfl
    have Q := Lib.hid (fun w' hb => dtold_no (h := h) (l := l) (s := s) (w := w) (w' := w') hdv hb)
    have HW : Hid (∀ W, Below ((w.alloc (.cells #[.int .i64 h.v, .int .i64 h.ut, .int .i64 h.sd, .int .i64 h.lp, .int .i64 h.tm, .int .i64 h.ty, .int .i64 h.ch] 28)).alloc (.cells #[.slice none 0 0, .slice none 0 0, .slice none 0 0, .string ⟨#[]⟩, .int .i64 0] 26)).heap.size ((w.alloc (.cells #[.int .i64 h.v, .int .i64 h.ut, .int .i64 h.sd, .int .i64 h.lp, .int .i64 h.tm, .int .i64 h.ty, .int .i64 h.ch] 28)).alloc (.cells #[.slice none 0 0, .slice none 0 0, .slice none 0 0, .string ⟨#[]⟩, .int .i64 0] 26)) W → W.heap[w.heap.size + 1]? = some (.cells #[.slice none 0 0, .slice none 0 0, .slice none 0 0, .string ⟨#[]⟩, .int .i64 0] 26) ∧ Below w.heap.size w W) := Lib.hid fun W hb => ⟨kept ZB.out hb, btr hw0.out hb⟩
    rcases e0 : hd.okB h with _ | _
    · rw [e0] at RI
      clear hk hk' hdv e0 hb hn T HZ OP SZ hl ZB hw0
      obtain ⟨v, ut, sd, lp, tm, ty, ch⟩ := h
      simp only at *
      go_enter Try.func11, Try.ntmps11
      go_wp2_with (first
        | (go_at_call 18; (with_reducible refine (RI.out _).mono ?_); rintro e w1 ⟨rfl, hb1⟩; have BX := Lib.hid (HW.out _ hb1).1; have HB1 := Lib.hid (HW.out _ hb1).2; clear hb1)
        | (refine wpList_store_row rfl 26 (.tmp 6) (.tmp 47) rfl (w.heap.size + 1) (zc5 none 0 0 none 0 0 none 0 0 ⟨#[]⟩ 0) rfl rfl 26 _ BX.out szZ rfl (zc5_one _ _ _ _ _ _ _ _ _ _ _) ?_))
      refine end_pair Try.results11 _ _ (w.heap.size + 1) _ (zc5 none 0 0 none 0 0 none 0 0 ⟨#[]⟩ 0) _ _ rfl rfl (setRow_heap _ _ _ _ _ _ BX.out) Try.underlying26 szZ rfl ?_
      exact Q.out _ (bel_setRow HB1.out (Nat.le_succ _) _)
    · rw [e0] at RI
      by_cases hs : s = 4 ∨ s = 8
      · have hne : (((l.length : Nat) : Int) != hd.sz h s) = true := by
          rw [bne_iff_ne]
          intro e
          have k1 : hd.szOk h s = true := hd.szb_iff.2 ⟨hd.ok_iff.1 e0, hs⟩
          unfold lenB at hk'
          rw [k1, Bool.true_and, beq_eq_false_iff_ne] at hk'
          exact hk' e
        have TX : Hid (∀ W, Below ((w.alloc (.cells #[.int .i64 h.v, .int .i64 h.ut, .int .i64 h.sd, .int .i64 h.lp, .int .i64 h.tm, .int .i64 h.ty, .int .i64 h.ch] 28)).alloc (.cells #[.slice none 0 0, .slice none 0 0, .slice none 0 0, .string ⟨#[]⟩, .int .i64 0] 26)).heap.size ((w.alloc (.cells #[.int .i64 h.v, .int .i64 h.ut, .int .i64 h.sd, .int .i64 h.lp, .int .i64 h.tm, .int .i64 h.ty, .int .i64 h.ch] 28)).alloc (.cells #[.slice none 0 0, .slice none 0 0, .slice none 0 0, .string ⟨#[]⟩, .int .i64 0] 26)) W → W.cell? ⟨w.heap.size, 0, none⟩ = some (.int .i64 h.v) ∧ W.cell? ⟨w.heap.size, 1, none⟩ = some (.int .i64 h.ut) ∧ W.cell? ⟨w.heap.size, 2, none⟩ = some (.int .i64 h.sd) ∧ W.cell? ⟨w.heap.size, 3, none⟩ = some (.int .i64 h.lp) ∧ W.cell? ⟨w.heap.size, 4, none⟩ = some (.int .i64 h.tm) ∧ W.cell? ⟨w.heap.size, 5, none⟩ = some (.int .i64 h.ty) ∧ W.cell? ⟨w.heap.size, 6, none⟩ = some (.int .i64 h.ch)) := Lib.hid fun W hb => by
          obtain ⟨x0, x1, x2, x3, x4, x5, x6, _⟩ := T.out _ (HZ.out _ hb)
          exact ⟨x0, x1, x2, x3, x4, x5, x6⟩
        clear hk hk' hdv e0 hb hn T HZ OP hl ZB hw0
        generalize hd.sz h s = z at *
        obtain ⟨v, ut, sd, lp, tm, ty, ch⟩ := h
        simp only at *
        rcases hs with rfl | rfl
        all_goals
          go_enter Try.func11, Try.ntmps11
          go_wp2_with (first
            | (go_at_call 18; (with_reducible refine (RI.out _).mono ?_); rintro e w1 ⟨rfl, hb1⟩; obtain ⟨x0, x1, x2, x3, x4, x5, x6⟩ := TX.out _ hb1; have HA1 := Lib.hid hb1; clear hb1)
            | (go_at_call 31; (with_reducible refine (SZ.out _).mono ?_); rintro e w2 ⟨rfl, hb2⟩; have BX := Lib.hid (HW.out _ (btr HA1.out hb2)).1; have HB1 := Lib.hid (HW.out _ (btr HA1.out hb2)).2; clear hb2 x0 x1 x2 x3 x4 x5 x6)
            | (refine wpList_store_row rfl 26 (.tmp 6) (.tmp 47) rfl (w.heap.size + 1) (zc5 none 0 0 none 0 0 none 0 0 ⟨#[]⟩ 0) rfl rfl 26 _ BX.out szZ rfl (zc5_one _ _ _ _ _ _ _ _ _ _ _) ?_))
          refine end_pair Try.results11 _ _ (w.heap.size + 1) _ (zc5 none 0 0 none 0 0 none 0 0 ⟨#[]⟩ 0) _ _ rfl rfl (setRow_heap _ _ _ _ _ _ BX.out) Try.underlying26 szZ rfl ?_
          exact Q.out _ (bel_setRow HB1.out (Nat.le_succ _) _)
      · have t4 : (s != 4) = true := by simp; omega
        have t8 : (s != 8) = true := by simp; omega
        clear hk hk' hdv e0 hb hn T HZ OP SZ hl ZB hw0 hs
        obtain ⟨v, ut, sd, lp, tm, ty, ch⟩ := h
        simp only at *
        go_enter Try.func11, Try.ntmps11
        go_wp2_with (first
          | (go_at_call 18; (with_reducible refine (RI.out _).mono ?_); rintro e w1 ⟨rfl, hb1⟩; have BX := Lib.hid (HW.out _ hb1).1; have HB1 := Lib.hid (HW.out _ hb1).2; clear hb1)
          | (refine wpList_store_row rfl 26 (.tmp 6) (.tmp 47) rfl (w.heap.size + 1) (zc5 none 0 0 none 0 0 none 0 0 ⟨#[]⟩ 0) rfl rfl 26 _ BX.out szZ rfl (zc5_one _ _ _ _ _ _ _ _ _ _ _) ?_))
        refine end_pair Try.results11 _ _ (w.heap.size + 1) _ (zc5 none 0 0 none 0 0 none 0 0 ⟨#[]⟩ 0) _ _ rfl rfl (setRow_heap _ _ _ _ _ _ BX.out) Try.underlying26 szZ rfl ?_
        exact Q.out _ (bel_setRow HB1.out (Nat.le_succ _) _)
end Go.Proofs.Ytllficloadncfaa.ref16
