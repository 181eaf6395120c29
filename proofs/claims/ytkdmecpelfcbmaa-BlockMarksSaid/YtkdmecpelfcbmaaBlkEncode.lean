/-
  What block.Encode answers. Conditions: the zone is read; its rows are not too long.
-/
import Derived.Test.YtkdmecpelfcbmaaBlkKinds
namespace Go.Proofs.Ytkdmecpelfcbmaa.blk
open Go.ChangeShapes Go.WideShapes Go.ChangeAt Go.RowKit
open om mem oct bk
open abr (Fr IOwn)
open head (hcs hcs_one szH end_pair)
set_option linter.unusedVariables false
set_option maxRecDepth 100000

def ETold (z : Zn) (s : Int) (w : World) (e : Ending) (w' : World) : Prop := ∃ v', e = .returned (.tuple #[v', .bool (ev z s)]) ∧ Own w.heap.size w' v' (enc z s) ∧ Below w.heap.size w w'
theorem prsL {w W : World} {A : Option Addr} {l : List Pr} {base : Nat} (h : Prs w A l) (hb : Below w.heap.size w W) (hs : w.heap.size ≤ base) : PrsL base W A l :=
  ⟨h.below hb, fun hne b o e => by obtain ⟨b', o', e', hlt, _⟩ := h hne; rw [e] at e'; cases e'; omega⟩
theorem tysL {w W : World} {A : Option Addr} {l : List Ty} {base : Nat} (h : Tys w A l) (hb : Below w.heap.size w W) (hs : w.heap.size ≤ base) : TysL base W A l :=
  ⟨h.below hb, fun hne b o e => by obtain ⟨b', o', e', hlt, _⟩ := h hne; rw [e] at e'; cases e'; omega⟩
theorem sz_bd {X : hd.Hd} {s : Int} (h : hd.okB X = true) (hs : s = 4 ∨ s = 8) : ∃ n : Nat, hd.sz X s = n ∧ 0 < n ∧ n < 100000 := by
  obtain ⟨_, h2, h3, h4, h5, h6, h7⟩ := hd.ok_iff.1 h
  rw [hd.sz_yes (hd.szb_iff.2 ⟨hd.ok_iff.1 h, hs⟩)]
  unfold hd.szv
  refine ⟨(X.tm * (s + 1) + X.ty * 6 + X.ch + X.lp * (s + 4) + X.sd + X.ut).toNat, ?_, ?_, ?_⟩ <;> rcases hs with rfl | rfl <;> omega
theorem few_lp {z : Zn} (h : okC z = true) : z.lp.length ≤ 201 ∧ z.tr.length ≤ 2000 ∧ z.ty.length ≤ 64 := by
  obtain ⟨_, h2, h3, h4, h5, h6, h7⟩ := hd.ok_iff.1 h
  unfold cnt at h4 h5 h6
  simp only at h4 h5 h6
  omega
theorem sh_new (w : World) (n : Nat) (hn : n < 8000000000000) : Sh w.heap.size ((w.alloc (.cells (madeCells #[.int .u8 0] n) 5)).alloc (.cells #[.slice (some ⟨w.heap.size, 0, none⟩) 0 n, .bool false] 58)) (w.heap.size + 1) [] false :=
  ⟨Nat.le_succ _, _, hp_new1 w _ _, own_kept (make_own w n hn) (bal (Below.refl _ _) _)⟩
theorem fits_flags (z : Zn) (s : Nat) : ((((false || !z.tr.all (fA s)) || !z.tr.all fB) || !z.ty.all (fT (nmL z.ty))) || !z.lp.all (fL s)) = !fits z s := by
  unfold fits
  cases z.tr.all (fA s) <;> cases z.tr.all fB <;> cases z.ty.all (fT (nmL z.ty)) <;> cases z.lp.all (fL s) <;> rfl
theorem dat_assoc (z : Zn) (s : Nat) : [] ++ z.tr.flatMap (trA s) ++ z.tr.flatMap trB ++ z.ty.flatMap (tyD (nmL z.ty)) ++ poolN z.ty ++ z.lp.flatMap (lpD s) = dat z s := by
  unfold dat
  simp only [List.nil_append, List.append_assoc]
theorem chain_le (z : Zn) (s : Nat) (h : okC z = true) : ([] ++ z.tr.flatMap (trA s) ++ z.tr.flatMap trB).length ≤ 200000 ∧ ([] ++ z.tr.flatMap (trA s) ++ z.tr.flatMap trB ++ z.ty.flatMap (tyD (nmL z.ty)) ++ poolN z.ty).length ≤ 500000 := by
  have h1 := flat_le (trA s) 8 (fun _ => nb_len _ _) z.tr
  have h2 := flat_le trB 8 (fun _ => nb_len _ _) z.tr
  have h3 := flat_le (tyD (nmL z.ty)) 24 (tyD_len _) z.ty
  have h4 := pool_len z.ty
  have h5 := ((ab.ok_iff _).1 (okC_names h)).2
  obtain ⟨_, h6, h7⟩ := few_lp h
  simp only [List.length_append, List.length_nil]
  omega
set_option maxHeartbeats 4000000 in
theorem encode_at (A : Option Addr) (a : Nat) (B : Option Addr) (b : Nat) (C : Option Addr) (c : Nat) (z : Zn) (s : Int) (w : World) (h : Zr w A B C z) (hn : z.ty.length ≤ 1000) (bd : Bd z) : Calls Try.prog 12 #[(.agg #[.slice A z.ty.length a, .slice B z.tr.length b, .slice C z.lp.length c, .string z.ft, .int .i64 z.v]), .int .i64 s] w (ETold z s w) := by
  have T := zbox A a B b C c z w
  have CO : Hid (∀ W, Below w.heap.size w W → Calls Try.prog 10 #[(.agg #[.slice A z.ty.length a, .slice B z.tr.length b, .slice C z.lp.length c, .string z.ft, .int .i64 z.v])] W fun e w' => e = .returned (.tuple #[(.agg #[.int .i64 (cv z).v, .int .i64 (cv z).ut, .int .i64 (cv z).sd, .int .i64 (cv z).lp, .int .i64 (cv z).tm, .int .i64 (cv z).ty, .int .i64 (cv z).ch]), .bool (okC z)]) ∧ Below W.heap.size W w') := Lib.hid fun W hb => count_at A a B b C c z W (h.ty.below hb) hn bd
  have SZ := Lib.hid (fun W => head.size_at (cv z) s W)
  have hw0 : Hid (Below w.heap.size w (w.alloc (.cells #[.slice A z.ty.length a, .slice B z.tr.length b, .slice C z.lp.length c, .string z.ft, .int .i64 z.v] 26))) := Lib.hid (bal (Below.refl _ _) _)
  by_cases hk : okC z = true ∧ (s = 4 ∨ s = 8)
  · obtain ⟨hk, hs⟩ := hk
    obtain ⟨n, rfl⟩ : ∃ n : Nat, s = n := ⟨s.toNat, by omega⟩
    have hs' : n = 4 ∨ n = 8 := by omega
    obtain ⟨N, hN, hN0, hN1⟩ := sz_bd (X := cv z) (by rw [cv_yes hk]; exact hk) hs
    rw [hN] at SZ
    have hev : ev z n = fits z n := by
      unfold ev sz48
      rw [hk, Int.toNat_natCast]
      rcases hs with e | e <;> rw [e] <;> rfl
    obtain ⟨hl1, hl2, hl3⟩ := few_lp hk
    obtain ⟨hc1, hc2⟩ := chain_le z n hk
    have CH := Lib.hid (fun W (hb : Below w.heap.size w W) base (hb2 : w.heap.size ≤ base) (hb3 : base ≤ W.heap.size) g (hsh : Sh base W g [] false) => changes_at base W g [] false B b z.tr n hs' hsh (prsL h.tr hb hb2) bd.tr hb3 (by omega) (by simp))
    have KI := Lib.hid (fun W (hb : Below w.heap.size w W) base (hb2 : w.heap.size ≤ base) (hb3 : base ≤ W.heap.size) g (hsh : Sh base W g ([] ++ z.tr.flatMap (trA n) ++ z.tr.flatMap trB) (false || !z.tr.all (fA n) || !z.tr.all fB)) => kinds_at base W g _ (false || !z.tr.all (fA n) || !z.tr.all fB) A a B b C c z hk hsh (tysL h.ty hb hb2) bd hb3 (by omega) hc1)
    have LE := Lib.hid (fun W (hb : Below w.heap.size w W) base (hb2 : w.heap.size ≤ base) (hb3 : base ≤ W.heap.size) g (hsh : Sh base W g ([] ++ z.tr.flatMap (trA n) ++ z.tr.flatMap trB ++ z.ty.flatMap (tyD (nmL z.ty)) ++ poolN z.ty) ((false || !z.tr.all (fA n) || !z.tr.all fB) || !z.ty.all (fT (nmL z.ty)))) => leaps_at base W g _ ((false || !z.tr.all (fA n) || !z.tr.all fB) || !z.ty.all (fT (nmL z.ty))) C c z.lp n hs' hsh (prsL h.lp hb hb2) bd.lp hb3 (by omega) hc2)
    have EM := Lib.hid (dat_assoc z n)
    have EF := Lib.hid (fits_flags z n)
    have Q : Hid (∀ w' base g, w.heap.size ≤ base → Sh base w' g (dat z n) (!fits z n) → Below w.heap.size w w' → ∃ A c, w'.heap[g]? = some (.cells #[.slice A (dat z n).length c, .bool (!fits z n)] 58) ∧ (fits z n = true → ETold z n w (.returned (.tuple #[.slice A (dat z n).length c, .bool true])) w') ∧ (fits z n = false → ETold z n w (.returned (.tuple #[.slice none 0 0, .bool false])) w')) := Lib.hid fun w' base g hb hsh hbel => by
      obtain ⟨_, v, hh, ho⟩ := hsh
      obtain ⟨A, c, rfl⟩ := own_len ho
      refine ⟨A, c, hh, fun hf => ⟨_, by rw [hev, hf], ?_, hbel⟩, fun hf => ⟨_, by rw [hev, hf], ?_, hbel⟩⟩
      · unfold enc
        rw [hev, if_pos hf, Int.toNat_natCast]
        exact own_mono ho hb
      · unfold enc
        rw [hev, if_neg (by rw [hf]; decide)]
        exact own_none _ _
    have hN2 : ((N : Int) == 0) = false := by simp; omega
    have hmk := fun W => make_run W N (N : Int) rfl (by omega)
    clear h bd hk hs hs' hN hl1 hl2 hl3 hc1 hc2 hev
    generalize dat z n = D at *
    generalize fits z n = F at *
    generalize okC z = ok at *
    generalize [] ++ z.tr.flatMap (trA n) ++ z.tr.flatMap trB = m1 at *
    generalize m1 ++ z.ty.flatMap (tyD (nmL z.ty)) ++ poolN z.ty = m2 at *
    generalize m2 ++ z.lp.flatMap (lpD n) = m3 at *
    generalize cv z = X at *
    generalize hf1 : (false || !z.tr.all (fA n) || !z.tr.all fB) = f1 at *
    generalize hf2 : (f1 || !z.ty.all (fT (nmL z.ty))) = f2 at *
    generalize hf3 : (f2 || !z.lp.all (fL n)) = f3 at *
    have EM := EM.out
    have EF := EF.out
    subst EM
    subst EF
    obtain ⟨l, tr, lp, ft, v⟩ := z
    simp only at *
    clear hf1 hf2 hf3
    cases F with
    | true =>
      go_enter Try.func12, Try.ntmps12
      go_wp2_with (first
        | (go_at_call 10; (with_reducible refine (CO.out _ hw0.out).mono ?_); rintro e w1 ⟨rfl, hb1⟩; have HA1 := Lib.hid hb1; clear hb1)
        | (go_at_call 17; (with_reducible refine (SZ.out _).mono ?_); rintro e w2 ⟨rfl, hb2⟩; have HA2 := Lib.hid (btr (bal HA1.out _) hb2); obtain ⟨x0, x1, x2, x3, x4, hbz, hsz⟩ := T.out _ HA2.out; have SH3 := Lib.hid (sh_new w2 N (by omega)); have HB3 : Hid (Below w.heap.size w ((w2.alloc (.cells (madeCells #[.int .u8 0] N) 5)).alloc (.cells #[.slice (some ⟨w2.heap.size, 0, none⟩) 0 N, .bool false] 58))) := Lib.hid (bal (bal hbz _) _); have HT3 : Hid (Below w2.heap.size w2 ((w2.alloc (.cells (madeCells #[.int .u8 0] N) 5)).alloc (.cells #[.slice (some ⟨w2.heap.size, 0, none⟩) 0 N, .bool false] 58))) := Lib.hid (bal (bal (Below.refl _ _) _) _); have HL3 : Hid (w.heap.size ≤ w2.heap.size) := Lib.hid hbz.size; clear hb2 hbz)
        | (go_at_call 24; (with_reducible refine (CH.out _ HB3.out _ HL3.out HT3.out.size _ SH3.out).mono ?_); rintro e w4 ⟨rfl, h1, h2, h3⟩; have H1 := Lib.hid h1; have H2 := Lib.hid h2; have HB4 := Lib.hid (HB3.out.trans (h2.mono HL3.out)); clear x0 x1 x2 x3 x4 hsz; obtain ⟨x0, x1, x2, x3, x4, hbz, hsz⟩ := T.out _ (btr HA2.out (HT3.out.trans h2)); clear h1 h2 h3 hbz)
        | (go_at_call 25; (with_reducible refine (KI.out _ HB4.out _ HL3.out (Nat.le_trans HT3.out.size H2.out.size) _ H1.out).mono ?_); rintro e w5 ⟨rfl, h1, h2, h3⟩; have K1 := Lib.hid h1; have K2 := Lib.hid (H2.out.trans h2); have HB5 := Lib.hid (HB4.out.trans (h2.mono HL3.out)); clear x0 x1 x2 x3 x4 hsz; obtain ⟨x0, x1, x2, x3, x4, hbz, hsz⟩ := T.out _ (btr HA2.out (HT3.out.trans K2.out)); clear h1 h2 h3 hbz)
        | (go_at_call 26; (with_reducible refine (LE.out _ HB5.out _ HL3.out (Nat.le_trans HT3.out.size K2.out.size) _ K1.out).mono ?_); rintro e w6 ⟨rfl, h1, h2, h3⟩; obtain ⟨Ar, cr, hh, qy, qn⟩ := Q.out _ _ _ HL3.out h1 (HB5.out.trans (h2.mono HL3.out)); have QY := Lib.hid qy; have QN := Lib.hid qn; have g0 := row_cell hh 0; have g1 := row_cell hh 1; clear x0 x1 x2 x3 x4 hsz h1 h2 h3 qy qn hh))
      go_ret2
      exact QY.out trivial
    | false =>
      go_enter Try.func12, Try.ntmps12
      go_wp2_with (first
        | (go_at_call 10; (with_reducible refine (CO.out _ hw0.out).mono ?_); rintro e w1 ⟨rfl, hb1⟩; have HA1 := Lib.hid hb1; clear hb1)
        | (go_at_call 17; (with_reducible refine (SZ.out _).mono ?_); rintro e w2 ⟨rfl, hb2⟩; have HA2 := Lib.hid (btr (bal HA1.out _) hb2); obtain ⟨x0, x1, x2, x3, x4, hbz, hsz⟩ := T.out _ HA2.out; have SH3 := Lib.hid (sh_new w2 N (by omega)); have HB3 : Hid (Below w.heap.size w ((w2.alloc (.cells (madeCells #[.int .u8 0] N) 5)).alloc (.cells #[.slice (some ⟨w2.heap.size, 0, none⟩) 0 N, .bool false] 58))) := Lib.hid (bal (bal hbz _) _); have HT3 : Hid (Below w2.heap.size w2 ((w2.alloc (.cells (madeCells #[.int .u8 0] N) 5)).alloc (.cells #[.slice (some ⟨w2.heap.size, 0, none⟩) 0 N, .bool false] 58))) := Lib.hid (bal (bal (Below.refl _ _) _) _); have HL3 : Hid (w.heap.size ≤ w2.heap.size) := Lib.hid hbz.size; clear hb2 hbz)
        | (go_at_call 24; (with_reducible refine (CH.out _ HB3.out _ HL3.out HT3.out.size _ SH3.out).mono ?_); rintro e w4 ⟨rfl, h1, h2, h3⟩; have H1 := Lib.hid h1; have H2 := Lib.hid h2; have HB4 := Lib.hid (HB3.out.trans (h2.mono HL3.out)); clear x0 x1 x2 x3 x4 hsz; obtain ⟨x0, x1, x2, x3, x4, hbz, hsz⟩ := T.out _ (btr HA2.out (HT3.out.trans h2)); clear h1 h2 h3 hbz)
        | (go_at_call 25; (with_reducible refine (KI.out _ HB4.out _ HL3.out (Nat.le_trans HT3.out.size H2.out.size) _ H1.out).mono ?_); rintro e w5 ⟨rfl, h1, h2, h3⟩; have K1 := Lib.hid h1; have K2 := Lib.hid (H2.out.trans h2); have HB5 := Lib.hid (HB4.out.trans (h2.mono HL3.out)); clear x0 x1 x2 x3 x4 hsz; obtain ⟨x0, x1, x2, x3, x4, hbz, hsz⟩ := T.out _ (btr HA2.out (HT3.out.trans K2.out)); clear h1 h2 h3 hbz)
        | (go_at_call 26; (with_reducible refine (LE.out _ HB5.out _ HL3.out (Nat.le_trans HT3.out.size K2.out.size) _ K1.out).mono ?_); rintro e w6 ⟨rfl, h1, h2, h3⟩; obtain ⟨Ar, cr, hh, qy, qn⟩ := Q.out _ _ _ HL3.out h1 (HB5.out.trans (h2.mono HL3.out)); have QY := Lib.hid qy; have QN := Lib.hid qn; have g0 := row_cell hh 0; have g1 := row_cell hh 1; clear x0 x1 x2 x3 x4 hsz h1 h2 h3 qy qn hh))
      go_ret2
      exact QN.out trivial
  · have h0 : hd.sz (cv z) s = 0 := by
      apply hd.sz_no
      rw [Bool.eq_false_iff]
      intro e
      obtain ⟨e1, e2⟩ := hd.szb_iff.1 e
      refine hk ⟨?_, e2⟩
      rcases hq : okC z with _ | _
      · rw [cv_no hq] at e1
        exact absurd e1 (by unfold hd.Ok hd.zero; simp)
      · rfl
    have hev : ev z s = false := by
      rw [Bool.eq_false_iff]
      intro e
      exact hk ⟨(ev_iff e).1, (ev_iff e).2.1⟩
    rw [h0] at SZ
    have Q : Hid (∀ w', Below w.heap.size w w' → ETold z s w (.returned (.tuple #[.slice none 0 0, .bool false])) w') := Lib.hid fun w' hb => ⟨_, by rw [hev], by unfold enc; rw [if_neg (by rw [hev]; decide)]; exact own_none _ _, hb⟩
    clear h bd hk h0 hev
    generalize okC z = ok at *
    generalize cv z = X at *
    obtain ⟨l, tr, lp, ft, v⟩ := z
    simp only at *
    go_enter Try.func12, Try.ntmps12
    go_wp2_with (first
      | (go_at_call 10; (with_reducible refine (CO.out _ hw0.out).mono ?_); rintro e w1 ⟨rfl, hb1⟩; have HA1 := Lib.hid hb1; clear hb1)
      | (go_at_call 17; (with_reducible refine (SZ.out _).mono ?_); rintro e w2 ⟨rfl, hb2⟩; have HA2 := Lib.hid (btr hw0.out (btr (bal HA1.out _) hb2)); clear hb2))
    go_ret2
    exact Q.out _ HA2.out
end Go.Proofs.Ytkdmecpelfcbmaa.blk
