/-
  What block.Encode answers. Conditions: the zone is read; its rows are not too long.
-/
import Derived.Test.YtllficloadncfaaG12
import Derived.Test.YtllficloadncfaaG09
namespace Go.Proofs.Ytllficloadncfaa.blk
open Go.ChangeShapes Go.WideShapes Go.ChangeAt Go.RowKit
open om mem oct bk
open abr (Fr IOwn)
open head (hcs hcs_one szH end_pair)
set_option linter.unusedVariables false
set_option maxRecDepth 100000

def ETold (z : Zn) (s : Int) (w : World) (e : Ending) (w' : World) : Prop := ∃ v', e = .returned (.tuple #[v', .bool (ev z s)]) ∧ Own w.heap.size w' v' (enc z s) ∧ Below w.heap.size w w'
theorem prsL {w W : World} {A : Option Addr} {l : List Pr} {base : Nat} (h : Prs w A l) (hb : Below w.heap.size w W) (hs : w.heap.size ≤ base) : PrsL base W A l :=
  ⟨h.below hb, fun hne b o e => by obtain ⟨b', o', e', hlt, _⟩ := h hne; rw [e] at e'; cases e'; omega⟩
theorem tysL {w W : World} {A : Option Addr} {l : List Ty} {base : Nat} (h : Tys w A l) (hb : Below w.heap.size w W) (hs : w.heap.size ≤ base) : TysL base W A l :=
  ⟨h.below hb, fun hne b o e => by obtain ⟨b', o', e', hlt, _⟩ := h hne; rw [e] at e'; cases e'; omega⟩
theorem sz_bd {X : hd.Hd} {s : Int} (h : hd.okB X = true) (hs : s = 4 ∨ s = 8) : ∃ n : Nat, hd.sz X s = n ∧ 0 < n ∧ n < 100000 := by
  obtain ⟨_, h2, h3, h4, h5, h6, h7⟩ := hd.ok_iff.1 h
  rw [hd.sz_yes (hd.szb_iff.2 ⟨hd.ok_iff.1 h, hs⟩)]
  unfold hd.szv
  refine ⟨(X.tm * (s + 1) + X.ty * 6 + X.ch + X.lp * (s + 4) + X.sd + X.ut).toNat, ?_, ?_, ?_⟩ <;> rcases hs with rfl | rfl <;> omega
theorem few_lp {z : Zn} (h : okC z = true) : z.lp.length ≤ 201 ∧ z.tr.length ≤ 2000 ∧ z.ty.length ≤ 64 := by
  obtain ⟨_, h2, h3, h4, h5, h6, h7⟩ := hd.ok_iff.1 h
  unfold cnt at h4 h5 h6
  simp only at h4 h5 h6
  omega
theorem sh_new (w : World) (n : Nat) (hn : n < 8000000000000) : Sh w.heap.size ((w.alloc (.cells (madeCells #[.int .u8 0] n) 5)).alloc (.cells #[.slice (some ⟨w.heap.size, 0, none⟩) 0 n, .bool false] 55)) (w.heap.size + 1) [] false :=
  ⟨Nat.le_succ _, _, hp_new1 w _ _, own_kept (make_own w n hn) (bal (Below.refl _ _) _)⟩
theorem fits_flags (z : Zn) (s : Nat) : ((((false || !z.tr.all (fA s)) || !z.tr.all fB) || !z.ty.all (fT (nmL z.ty))) || !z.lp.all (fL s)) = !fits z s := by
  unfold fits
  cases z.tr.all (fA s) <;> cases z.tr.all fB <;> cases z.ty.all (fT (nmL z.ty)) <;> cases z.lp.all (fL s) <;> rfl
theorem dat_assoc (z : Zn) (s : Nat) : [] ++ z.tr.flatMap (trA s) ++ z.tr.flatMap trB ++ z.ty.flatMap (tyD (nmL z.ty)) ++ poolN z.ty ++ z.lp.flatMap (lpD s) = dat z s := by
  unfold dat
  simp only [List.nil_append, List.append_assoc]
theorem chain_le (z : Zn) (s : Nat) (h : okC z = true) : ([] ++ z.tr.flatMap (trA s) ++ z.tr.flatMap trB).length ≤ 200000 ∧ ([] ++ z.tr.flatMap (trA s) ++ z.tr.flatMap trB ++ z.ty.flatMap (tyD (nmL z.ty)) ++ poolN z.ty).length ≤ 500000 := by
  have h1 := flat_le (trA s) 8 (fun _ => nb_len _ _) z.tr
  have h2 := flat_le trB 8 (fun _ => nb_len _ _) z.tr
  have h3 := flat_le (tyD (nmL z.ty)) 24 (tyD_len _) z.ty
  have h4 := pool_len z.ty
  have h5 := ((ab.ok_iff _).1 (okC_names h)).2
  obtain ⟨_, h6, h7⟩ := few_lp h
  simp only [List.length_append, List.length_nil]
  omega
set_option maxHeartbeats 4000000 in
theorem encode_at (A : Option Addr) (a : Nat) (B : Option Addr) (b : Nat) (C : Option Addr) (c : Nat) (z : Zn) (s : Int) (w : World) (h : Zr w A B C z) (hn : z.ty.length ≤ 1000) (bd : Bd z) : Calls Try.prog 8 #[(.agg #[.slice A z.ty.length a, .slice B z.tr.length b, .slice C z.lp.length c, .string z.ft, .int .i64 z.v]), .int .i64 s] w (ETold z s w) := by
  have T := zbox A a B b C c z w
  have CO : Hid (∀ W, Below w.heap.size w W → Calls Try.prog 6 #[(.agg #[.slice A z.ty.length a, .slice B z.tr.length b, .slice C z.lp.length c, .string z.ft, .int .i64 z.v])] W fun e w' => e = .returned (.tuple #[(.agg #[.int .i64 (cv z).v, .int .i64 (cv z).ut, .int .i64 (cv z).sd, .int .i64 (cv z).lp, .int .i64 (cv z).tm, .int .i64 (cv z).ty, .int .i64 (cv z).ch]), .bool (okC z)]) ∧ Below W.heap.size W w') := Lib.hid fun W hb => count_at A a B b C c z W (h.ty.below hb) hn bd
  have SZ := Lib.hid (fun W => head.size_at (cv z) s W)
  have hw0 : Hid (Below w.heap.size w (w.alloc (.cells #[.slice A z.ty.length a, .slice B z.tr.length b, .slice C z.lp.length c, .string z.ft, .int .i64 z.v] 26))) := Lib.hid (bal (Below.refl _ _) _)
  by_cases hk : okC z = true ∧ (s = 4 ∨ s = 8)
  · obtain ⟨hk, hs⟩ := hk
    obtain ⟨n, rfl⟩ : ∃ n : Nat, s = n := ⟨s.toNat, by omega⟩
    have hs' : n = 4 ∨ n = 8 := by omega
    obtain ⟨N, hN, hN0, hN1⟩ := sz_bd (X := cv z) (by rw [cv_yes hk]; exact hk) hs
    rw [hN] at SZ
    have hev : ev z n = fits z n := by
      unfold ev sz48
      rw [hk, Int.toNat_natCast]
      rcases hs with e | e <;> rw [e] <;> rfl
    obtain ⟨hl1, hl2, hl3⟩ := few_lp hk
    obtain ⟨hc1, hc2⟩ := chain_le z n hk
    have CH := Lib.hid (fun W (hb : Below w.heap.size w W) base (hb2 : w.heap.size ≤ base) (hb3 : base ≤ W.heap.size) g (hsh : Sh base W g [] false) => changes_at base W g [] false B b z.tr n hs' hsh (prsL h.tr hb hb2) bd.tr hb3 (by omega) (by simp))
    have KI := Lib.hid (fun W (hb : Below w.heap.size w W) base (hb2 : w.heap.size ≤ base) (hb3 : base ≤ W.heap.size) g (hsh : Sh base W g ([] ++ z.tr.flatMap (trA n) ++ z.tr.flatMap trB) (false || !z.tr.all (fA n) || !z.tr.all fB)) => kinds_at base W g _ (false || !z.tr.all (fA n) || !z.tr.all fB) A a B b C c z hk hsh (tysL h.ty hb hb2) bd hb3 (by omega) hc1)
    have LE := Lib.hid (fun W (hb : Below w.heap.size w W) base (hb2 : w.heap.size ≤ base) (hb3 : base ≤ W.heap.size) g (hsh : Sh base W g ([] ++ z.tr.flatMap (trA n) ++ z.tr.flatMap trB ++ z.ty.flatMap (tyD (nmL z.ty)) ++ poolN z.ty) ((false || !z.tr.all (fA n) || !z.tr.all fB) || !z.ty.all (fT (nmL z.ty)))) => leaps_at base W g _ ((false || !z.tr.all (fA n) || !z.tr.all fB) || !z.ty.all (fT (nmL z.ty))) C c z.lp n hs' hsh (prsL h.lp hb hb2) bd.lp hb3 (by omega) hc2)
    have EM := Lib.hid (dat_assoc z n)
    have EF := Lib.hid (fits_flags z n)
    have Q : Hid (∀ w' base g, w.heap.size ≤ base → Sh base w' g (dat z n) (!fits z n) → Below w.heap.size w w' → ∃ A c, w'.heap[g]? = some (.cells #[.slice A (dat z n).length c, .bool (!fits z n)] 55) ∧ (fits z n = true → ETold z n w (.returned (.tuple #[.slice A (dat z n).length c, .bool true])) w') ∧ (fits z n = false → ETold z n w (.returned (.tuple #[.slice none 0 0, .bool false])) w')) := Lib.hid fun w' base g hb hsh hbel => by
      obtain ⟨_, v, hh, ho⟩ := hsh
      obtain ⟨A, c, rfl⟩ := own_len ho
      refine ⟨A, c, hh, fun hf => ⟨_, by rw [hev, hf], ?_, hbel⟩, fun hf => ⟨_, by rw [hev, hf], ?_, hbel⟩⟩
      · unfold enc
        rw [hev, if_pos hf, Int.toNat_natCast]
        exact own_mono ho hb
      · unfold enc
        rw [hev, if_neg (by rw [hf]; decide)]
        exact own_none _ _
    have hN2 : ((N : Int) == 0) = false := by simp; omega
    have hmk := fun W => make_run W N (N : Int) rfl (by omega)
    clear h bd hk hs hs' hN hl1 hl2 hl3 hc1 hc2 hev
    generalize dat z n = D at *
    generalize fits z n = F at *
    generalize okC z = ok at *
    generalize [] ++ z.tr.flatMap (trA n) ++ z.tr.flatMap trB = m1 at *
    generalize m1 ++ z.ty.flatMap (tyD (nmL z.ty)) ++ poolN z.ty = m2 at *
    generalize m2 ++ z.lp.flatMap (lpD n) = m3 at *
    generalize cv z = X at *
    generalize hf1 : (false || !z.tr.all (fA n) || !z.tr.all fB) = f1 at *
    generalize hf2 : (f1 || !z.ty.all (fT (nmL z.ty))) = f2 at *
    generalize hf3 : (f2 || !z.lp.all (fL n)) = f3 at *
    have EM := EM.out
    have EF := EF.out
    subst EM
    subst EF
    obtain ⟨l, tr, lp, ft, v⟩ := z
    simp only at *
    clear hf1 hf2 hf3
    cases F with
    | true =>
      go_enter Try.func8, Try.ntmps8
      go_wp2_with (first
        | (go_at_call 6; (with_reducible refine (CO.out _ hw0.out).mono ?_); rintro e w1 ⟨rfl, hb1⟩; have HA1 := Lib.hid hb1; clear hb1)
        | (go_at_call 19; (with_reducible refine (SZ.out _).mono ?_); rintro e w2 ⟨rfl, hb2⟩; have HA2 := Lib.hid (btr (bal HA1.out _) hb2); obtain ⟨x0, x1, x2, x3, x4, hbz, hsz⟩ := T.out _ HA2.out; have SH3 := Lib.hid (sh_new w2 N (by omega)); have HB3 : Hid (Below w.heap.size w ((w2.alloc (.cells (madeCells #[.int .u8 0] N) 5)).alloc (.cells #[.slice (some ⟨w2.heap.size, 0, none⟩) 0 N, .bool false] 55))) := Lib.hid (bal (bal hbz _) _); have HT3 : Hid (Below w2.heap.size w2 ((w2.alloc (.cells (madeCells #[.int .u8 0] N) 5)).alloc (.cells #[.slice (some ⟨w2.heap.size, 0, none⟩) 0 N, .bool false] 55))) := Lib.hid (bal (bal (Below.refl _ _) _) _); have HL3 : Hid (w.heap.size ≤ w2.heap.size) := Lib.hid hbz.size; clear hb2 hbz)
        | (go_at_call 20; (with_reducible refine (CH.out _ HB3.out _ HL3.out HT3.out.size _ SH3.out).mono ?_); rintro e w4 ⟨rfl, h1, h2, h3⟩; have H1 := Lib.hid h1; have H2 := Lib.hid h2; have HB4 := Lib.hid (HB3.out.trans (h2.mono HL3.out)); clear x0 x1 x2 x3 x4 hsz; obtain ⟨x0, x1, x2, x3, x4, hbz, hsz⟩ := T.out _ (btr HA2.out (HT3.out.trans h2)); clear h1 h2 h3 hbz)
        | (go_at_call 21; (with_reducible refine (KI.out _ HB4.out _ HL3.out (Nat.le_trans HT3.out.size H2.out.size) _ H1.out).mono ?_); rintro e w5 ⟨rfl, h1, h2, h3⟩; have K1 := Lib.hid h1; have K2 := Lib.hid (H2.out.trans h2); have HB5 := Lib.hid (HB4.out.trans (h2.mono HL3.out)); clear x0 x1 x2 x3 x4 hsz; obtain ⟨x0, x1, x2, x3, x4, hbz, hsz⟩ := T.out _ (btr HA2.out (HT3.out.trans K2.out)); clear h1 h2 h3 hbz)
        | (go_at_call 22; (with_reducible refine (LE.out _ HB5.out _ HL3.out (Nat.le_trans HT3.out.size K2.out.size) _ K1.out).mono ?_); rintro e w6 ⟨rfl, h1, h2, h3⟩; obtain ⟨Ar, cr, hh, qy, qn⟩ := Q.out _ _ _ HL3.out h1 (HB5.out.trans (h2.mono HL3.out)); have QY := Lib.hid qy; have QN := Lib.hid qn; have g0 := row_cell hh 0; have g1 := row_cell hh 1; clear x0 x1 x2 x3 x4 hsz h1 h2 h3 qy qn hh))
      go_ret2
      exact QY.out trivial
    | false =>
      go_enter Try.func8, Try.ntmps8
      go_wp2_with (first
        | (go_at_call 6; (with_reducible refine (CO.out _ hw0.out).mono ?_); rintro e w1 ⟨rfl, hb1⟩; have HA1 := Lib.hid hb1; clear hb1)
        | (go_at_call 19; (with_reducible refine (SZ.out _).mono ?_); rintro e w2 ⟨rfl, hb2⟩; have HA2 := Lib.hid (btr (bal HA1.out _) hb2); obtain ⟨x0, x1, x2, x3, x4, hbz, hsz⟩ := T.out _ HA2.out; have SH3 := Lib.hid (sh_new w2 N (by omega)); have HB3 : Hid (Below w.heap.size w ((w2.alloc (.cells (madeCells #[.int .u8 0] N) 5)).alloc (.cells #[.slice (some ⟨w2.heap.size, 0, none⟩) 0 N, .bool false] 55))) := Lib.hid (bal (bal hbz _) _); have HT3 : Hid (Below w2.heap.size w2 ((w2.alloc (.cells (madeCells #[.int .u8 0] N) 5)).alloc (.cells #[.slice (some ⟨w2.heap.size, 0, none⟩) 0 N, .bool false] 55))) := Lib.hid (bal (bal (Below.refl _ _) _) _); have HL3 : Hid (w.heap.size ≤ w2.heap.size) := Lib.hid hbz.size; clear hb2 hbz)
        | (go_at_call 20; (with_reducible refine (CH.out _ HB3.out _ HL3.out HT3.out.size _ SH3.out).mono ?_); rintro e w4 ⟨rfl, h1, h2, h3⟩; have H1 := Lib.hid h1; have H2 := Lib.hid h2; have HB4 := Lib.hid (HB3.out.trans (h2.mono HL3.out)); clear x0 x1 x2 x3 x4 hsz; obtain ⟨x0, x1, x2, x3, x4, hbz, hsz⟩ := T.out _ (btr HA2.out (HT3.out.trans h2)); clear h1 h2 h3 hbz)
        | (go_at_call 21; (with_reducible refine (KI.out _ HB4.out _ HL3.out (Nat.le_trans HT3.out.size H2.out.size) _ H1.out).mono ?_); rintro e w5 ⟨rfl, h1, h2, h3⟩; have K1 := Lib.hid h1; have K2 := Lib.hid (H2.out.trans h2); have HB5 := Lib.hid (HB4.out.trans (h2.mono HL3.out)); clear x0 x1 x2 x3 x4 hsz; obtain ⟨x0, x1, x2, x3, x4, hbz, hsz⟩ := T.out _ (btr HA2.out (HT3.out.trans K2.out)); clear h1 h2 h3 hbz)
        | (go_at_call 22; (with_reducible refine (LE.out _ HB5.out _ HL3.out (Nat.le_trans HT3.out.size K2.out.size) _ K1.out).mono ?_); rintro e w6 ⟨rfl, h1, h2, h3⟩; obtain ⟨Ar, cr, hh, qy, qn⟩ := Q.out _ _ _ HL3.out h1 (HB5.out.trans (h2.mono HL3.out)); have QY := Lib.hid qy; have QN := Lib.hid qn; have g0 := row_cell hh 0; have g1 := row_cell hh 1; clear x0 x1 x2 x3 x4 hsz h1 h2 h3 qy qn hh))
      go_ret2
      exact QN.out trivial
  · have h0 : hd.sz (cv z) s = 0 := by
      apply hd.sz_no
      rw [Bool.eq_false_iff]
      intro e
      obtain ⟨e1, e2⟩ := hd.szb_iff.1 e
      refine hk ⟨?_, e2⟩
      rcases hq : okC z with _ | _
      · rw [cv_no hq] at e1
        exact absurd e1 (by unfold hd.Ok hd.zero; simp)
      · rfl
    have hev : ev z s = false := by
      rw [Bool.eq_false_iff]
      intro e
      exact hk ⟨(ev_iff e).1, (ev_iff e).2.1⟩
    rw [h0] at SZ
    have Q : Hid (∀ w', Below w.heap.size w w' → ETold z s w (.returned (.tuple #[.slice none 0 0, .bool false])) w') := Lib.hid fun w' hb => ⟨_, by rw [hev], by unfold enc; rw [if_neg (by rw [hev]; decide)]; exact own_none _ _, hb⟩
    clear h bd hk h0 hev
    generalize okC z = ok at *
    generalize cv z = X at *
    obtain ⟨l, tr, lp, ft, v⟩ := z
    simp only at *
    go_enter Try.func8, Try.ntmps8
    go_wp2_with (first
      | (go_at_call 6; (with_reducible refine (CO.out _ hw0.out).mono ?_); rintro e w1 ⟨rfl, hb1⟩; have HA1 := Lib.hid hb1; clear hb1)
      | (go_at_call 19; (with_reducible refine (SZ.out _).mono ?_); rintro e w2 ⟨rfl, hb2⟩; have HA2 := Lib.hid (btr hw0.out (btr (bal HA1.out _) hb2)); clear hb2))
    go_ret2
    exact Q.out _ HA2.out
end Go.Proofs.Ytllficloadncfaa.blk

/-
  Readers at a place of a row; and what readChanges and readLeaps answer. Conditions: the bytes that are asked for are there.
-/
namespace Go.Proofs.Ytllficloadncfaa.blk
open Go.ChangeShapes Go.WideShapes Go.ChangeAt Go.RowKit
open om mem oct bk
set_option linter.unusedVariables false
set_option maxRecDepth 100000

/-- a reader that stands at a place of a row. -/
def At (lo hi : Nat) (W : World) (g : Nat) (l : List Nat) (p : Nat) : Prop := Rdr 95 lo hi W g (l.drop p) false
theorem at_num {lo hi : Nat} {W : World} {g : Nat} {l : List Nat} {p : Nat} (h : At lo hi W g l p) (z : Nat) (hz : Sz z) (hb : Bys l) (hl : l.length < 1000000000) (hp : p + z ≤ l.length) : Calls Try.prog 49 #[.pointer (some ⟨g, 0, none⟩), .int .i64 (z : Nat)] W fun e w' => e = .returned (.int .i64 (rd (sl l p z))) ∧ At lo hi w' g l (p + z) ∧ Keep g W w' := by
  have hok : okB (z : Int) (l.drop p) = true := oct.ok_iff.2 ⟨by omega, by rw [List.length_drop]; omega⟩
  refine (num_at lo hi W g (l.drop p) false z h (by unfold Sz at hz; unfold oct.I64; omega) (by rw [List.length_drop]; omega) (hb.drop p)).mono fun e w' ⟨h1, h2, h3⟩ => ?_
  rw [nz_yes hz, pre_yes hok, Int.toNat_natCast] at h1
  rw [nz_yes hz, rst_yes hok, fl_yes hok, Int.toNat_natCast, List.drop_drop] at h2
  exact ⟨h1, h2, h3⟩
theorem at_take {lo hi : Nat} {W : World} {g : Nat} {l : List Nat} {p : Nat} (h : At lo hi W g l p) (n : Nat) (hl : l.length < 1000000000) (hp : p + n ≤ l.length) : Calls Try.prog 28 #[.pointer (some ⟨g, 0, none⟩), .int .i64 (n : Nat)] W fun e w' => ∃ v', e = .returned v' ∧ Own W.heap.size w' v' (sl l p n) ∧ At lo hi w' g l (p + n) ∧ Keep g W w' := by
  have hok : okB (n : Int) (l.drop p) = true := oct.ok_iff.2 ⟨by omega, by rw [List.length_drop]; omega⟩
  refine (take_at lo hi W g (l.drop p) false n h (by unfold oct.I64; omega) (by rw [List.length_drop]; omega)).mono fun e w' ⟨v', h1, h2, h3, h4⟩ => ?_
  rw [pre_yes hok, Int.toNat_natCast] at h2
  rw [rst_yes hok, fl_yes hok, Int.toNat_natCast, List.drop_drop] at h3
  exact ⟨v', h1, h2, h3, h4⟩
/-- a row that the call made, and filled. -/
abbrev Row (W : World) (m : Nat) (t : TypeId) (n : Nat) (f : Nat → Value) : Prop := W.rowIs m t n f
theorem row_keep {W W' : World} {m : Nat} {t : TypeId} {n : Nat} {f : Nat → Value} {g : Nat} (h : Row W m t n f) (hk : Keep g W W') (hne : m ≠ g) : Row W' m t n f := h.of_block (hk.block m h.lt hne)
theorem row_below {W W' : World} {m : Nat} {t : TypeId} {n : Nat} {f : Nat → Value} (h : Row W m t n f) (hb : Below W.heap.size W W') : Row W' m t n f := h.of_block (hb.block m h.lt)
theorem keep_new {g : Nat} {a b : World} (h : Keep g a b) {m : Nat} (hm : a.heap.size ≤ m) (o : Nat) (v : Value) : Keep g a (b.setCell ⟨m, o, none⟩ v) :=
  ⟨h.os, h.tape, h.output, by simpa [World.setCell] using h.size, fun k hk hn => (Below.heap_setCell _ _ _ _ (by show k ≠ m; omega)).trans (h.block k hk hn)⟩
theorem at_new {lo hi : Nat} {W : World} {g : Nat} {l : List Nat} {p : Nat} (h : At lo hi W g l p) {m : Nat} (hm : hi ≤ m) (o : Nat) (v : Value) : At lo hi (W.setCell ⟨m, o, none⟩ v) g l p :=
  Rdr.keep h ((Keep.refl m W).setCell o v) (Or.inr hm)
/-! rows of pairs, and of numbers -/
def up (a : Nat → Int) (k : Nat) : Nat → Int := fun j => if j < k then a j else 0
def prF (x y : Nat → Int) : Nat → Value := fun i => if i % 2 = 0 then .int .i64 (x (i / 2)) else .int .i64 (y (i / 2))
theorem prF0 (x y : Nat → Int) (k : Nat) : prF x y (k * 2) = .int .i64 (x k) := by
  unfold prF
  rw [if_pos (by omega), show k * 2 / 2 = k by omega]
theorem prF1 (x y : Nat → Int) (k : Nat) : prF x y (k * 2 + 1) = .int .i64 (y k) := by
  unfold prF
  rw [if_neg (by omega), show (k * 2 + 1) / 2 = k by omega]
theorem up_at (a : Nat → Int) (k : Nat) : up a (k + 1) k = a k := if_pos (by omega)
theorem up_ne (a : Nat → Int) {k j : Nat} (h : j ≠ k) : up a (k + 1) j = up a k j := by
  unfold up
  by_cases e : j < k
  · rw [if_pos e, if_pos (by omega)]
  · rw [if_neg e, if_neg (by omega)]
theorem set0 (a y : Nat → Int) (k i : Nat) : (if i = k * 2 then Value.int .i64 (a k) else prF (up a k) y i) = prF (up a (k + 1)) y i := by
  by_cases e : i = k * 2
  · rw [if_pos e, e, prF0, up_at]
  · rw [if_neg e]
    unfold prF
    by_cases h : i % 2 = 0
    · rw [if_pos h, if_pos h, up_ne a (by omega)]
    · rw [if_neg h, if_neg h]
theorem set1 (x b : Nat → Int) (k i : Nat) : (if i = k * 2 + 1 then Value.int .i64 (b k) else prF x (up b k) i) = prF x (up b (k + 1)) i := by
  by_cases e : i = k * 2 + 1
  · rw [if_pos e, e, prF1, up_at]
  · rw [if_neg e]
    unfold prF
    by_cases h : i % 2 = 0
    · rw [if_pos h, if_pos h]
    · rw [if_neg h, if_neg h, up_ne b (by omega)]
theorem up_all (a : Nat → Int) (n : Nat) : ∀ j, j < n → up a n j = a j := fun j h => if_pos h
theorem prF_all (a b : Nat → Int) (n i : Nat) (h : i < n * 2) : prF (up a n) (up b n) i = prF a b i := by
  unfold prF
  rw [up_all a n (i / 2) (by omega), up_all b n (i / 2) (by omega)]
theorem infoT : (Try.prog.info? 43).map (fun i => (i.zero, i.size, i.bytes)) = some (some (.agg #[.int .i64 0, .int .i64 0]), 2, 16) := by kernel_rfl
theorem infoC : (Try.prog.info? 45).map (fun i => (i.zero, i.size, i.bytes)) = some (some (.agg #[.int .i64 0, .int .i64 0]), 2, 16) := by kernel_rfl
theorem makeT (W : World) (n : Nat) (hn : n < 1000000000) : (Instr.makeSlice 23 (.int .i64 (n : Nat)) (.int .i64 (n : Nat))).run Try.prog W = .ok (.slice (some ⟨W.heap.size, 0, none⟩) n n) (W.alloc (.cells (madeCells #[.int .i64 0, .int .i64 0] (n * 2)) 43)) := by
  obtain ⟨i0, hi, hz0, hz1, hz2⟩ := info_parts infoT
  have := run_make (P := Try.prog) W 23 43 i0 _ Try.underlying23 hi hz0 .i64 .i64 (n : Int) (n : Int) (by omega) (by omega) (by rw [hz2]; omega) (by omega)
  rw [hz1] at this
  exact this
theorem makeC (W : World) (n : Nat) (hn : n < 1000000000) : (Instr.makeSlice 24 (.int .i64 (n : Nat)) (.int .i64 (n : Nat))).run Try.prog W = .ok (.slice (some ⟨W.heap.size, 0, none⟩) n n) (W.alloc (.cells (madeCells #[.int .i64 0, .int .i64 0] (n * 2)) 45)) := by
  obtain ⟨i0, hi, hz0, hz1, hz2⟩ := info_parts infoC
  have := run_make (P := Try.prog) W 24 45 i0 _ Try.underlying24 hi hz0 .i64 .i64 (n : Int) (n : Int) (by omega) (by omega) (by rw [hz2]; omega) (by omega)
  rw [hz1] at this
  exact this
theorem made2 (W : World) (n : Nat) (t : TypeId) (a b : Nat → Int) : Row (W.alloc (.cells (madeCells #[.int .i64 0, .int .i64 0] (n * 2)) t)) W.heap.size t (n * 2) (prF (up a 0) (up b 0)) := by
  refine ⟨_, hp_new _ _, size_madeCells _ _, fun i hi => ?_⟩
  have e : prF (up a 0) (up b 0) i = .int .i64 0 := by unfold prF up; simp
  rw [e]
  have : i % 2 = 0 ∨ i % 2 = 1 := by omega
  rcases this with h | h <;> simp [madeCells, hi, h]
theorem prs_row {W : World} {m : Nat} {t : TypeId} {n : Nat} {x y : Nat → Int} (h : Row W m t (n * 2) (prF x y)) : Prs W (some ⟨m, 0, none⟩) ((List.range n).map fun k => (x k, y k)) := by
  intro _
  refine ⟨m, 0, rfl, h.lt, fun k hk => ?_⟩
  have hk' : k < n := by simpa using hk
  rw [Nat.zero_add, h.cell (by omega), h.cell (by omega), prF0, prF1, List.getElem_map, List.getElem_range]
  exact ⟨rfl, rfl⟩
/-- at the head of a round: how far the rows are read. -/
def CHead (t : TypeId) (a b : Nat → Int) (lo hi : Nat) (g : Nat) (l : List Nat) (n : Nat) (pos ka kb : Nat → Nat) (W0 : World) (i : Value) (W : World) : Prop :=
  ∃ j : Nat, j ≤ n ∧ i = .int .i64 (j : Nat) ∧ At lo hi W g l (pos j) ∧ Row W W0.heap.size t (n * 2) (prF (up a (ka j)) (up b (kb j))) ∧ Keep g W0 W
def PTold (t : TypeId) (a b : Nat → Int) (lo hi : Nat) (g : Nat) (l : List Nat) (n p : Nat) (W0 : World) (e : Ending) (w' : World) : Prop :=
  ∃ m, e = .returned (.slice (some ⟨m, 0, none⟩) n n) ∧ W0.heap.size ≤ m ∧ Row w' m t (n * 2) (prF a b) ∧ At lo hi w' g l p ∧ Keep g W0 w'
set_option maxHeartbeats 2000000 in
theorem rchanges_at (lo hi : Nat) (W0 : World) (g : Nat) (l : List Nat) (n s : Nat) (hs : s = 4 ∨ s = 8) (hb : Bys l) (hl : l.length < 1000000000) (h : At lo hi W0 g l 0) (hhi : hi ≤ W0.heap.size) (hg : g < W0.heap.size) (hp : s * n + n ≤ l.length) :
    Calls Try.prog 25 #[.pointer (some ⟨g, 0, none⟩), .int .i64 (n : Nat), .int .i64 (s : Nat)] W0 (PTold 43 (fun k => rd (sl l (s * k) s)) (fun k => rd (sl l (s * n + k) 1)) lo hi g l n (s * n + n) W0) := by
  have hn : n < 1000000000 := by omega
  have hmk := fun W => makeT W n hn
  generalize ha : (fun k => rd (sl l (s * k) s)) = a at *
  generalize hbb : (fun k => rd (sl l (s * n + k) 1)) = b at *
  have A1 := Lib.hid (show ∀ k, rd (sl l (s * k) s) = a k from fun k => by rw [← ha])
  have B1 := Lib.hid (show ∀ k, rd (sl l (s * n + k) 1) = b k from fun k => by rw [← hbb])
  have hz : Sz (s : Int) := by unfold Sz; omega
  have M0 := Lib.hid (made2 W0 n 43 a b)
  have K0 := Lib.hid (show Keep g W0 (W0.alloc (.cells (madeCells #[.int .i64 0, .int .i64 0] (n * 2)) 43)) from Below.keep (bal (Below.refl _ _) _))
  have H0 := Lib.hid (show At lo hi (W0.alloc (.cells (madeCells #[.int .i64 0, .int .i64 0] (n * 2)) 43)) g l 0 from Rdr.below h (bal (Below.refl _ _) _))
  clear h ha hbb
  go_enter Try.func25, Try.ntmps25
  go_wp2
  clear hmk
  go_loopw [13] (fun i W => CHead 43 a b lo hi g l n (fun j => s * j) (fun j => j) (fun _ => 0) W0 i W) (fun i _ => n - (intOf i).toNat)
  case atStart => exact ⟨0, Nat.zero_le _, rfl, H0.out, M0.out, K0.out⟩
  case round =>
    obtain ⟨j, hj, rfl, hat, hrow, hk⟩ := hrel
    have hat : At lo hi wr g l (s * j) := hat
    by_cases hlt : j < n
    · have hle : s * j + s ≤ s * n := by have := Nat.mul_le_mul_left s (show j + 1 ≤ n from hlt); rw [Nat.mul_succ] at this; exact this
      have C : Hid (Calls Try.prog 49 #[.pointer (some ⟨g, 0, none⟩), .int .i64 (s : Nat)] wr fun e w' => e = .returned (.int .i64 (a j)) ∧ At lo hi w' g l (s * j + s) ∧ Keep g wr w') := Lib.hid (by
        have := at_num hat s hz hb hl (by omega)
        rw [A1.out] at this
        exact this)
      have R := Lib.hid (fun w1 (h1 : At lo hi w1 g l (s * j + s)) (h2 : Keep g wr w1) => (⟨row_keep hrow h2 (by omega), ⟨j + 1, hlt, rfl, by rw [Nat.mul_succ]; exact at_new h1 hhi _ _, ((row_keep hrow h2 (by omega)).set (j * 2) (.int .i64 (a j))).congr (fun i _ => set0 a _ j i), keep_new (hk.trans h2) (Nat.le_refl _) _ _⟩⟩ : Row w1 W0.heap.size 43 (n * 2) (prF (up a j) (up b 0)) ∧ CHead 43 a b lo hi g l n (fun j => s * j) (fun j => j) (fun _ => 0) W0 (.int .i64 ((j : Int) + 1)) (w1.setCell ⟨W0.heap.size, j * 2, none⟩ (.int .i64 (a j)))))
      clear hat hrow hk A1 B1 M0 K0 H0 hle hz hb
      go_wp2_with (go_at_call 49; (with_reducible refine C.out.mono ?_); rintro e w1 ⟨rfl, h1, h2⟩; obtain ⟨r1, q⟩ := R.out _ h1 h2; have Q := Lib.hid q; have c0 := r1.cell (i := j * 2) (by omega); have f0 := r1.frozen (j * 2); clear h1 h2 q r1)
      go_roundw
      case rel => exact Q.out
      case measure => simp [intOf]; omega
    · obtain rfl : j = n := by omega
      have S1 : Hid (CHead 43 a b lo hi g l j (fun k => s * j + k) (fun _ => j) (fun k => k) W0 (.int .i64 0) wr) := Lib.hid ⟨0, Nat.zero_le _, rfl, hat, hrow, hk⟩
      clear hat hrow hk M0 K0 H0 A1
      go_wp2
      go_loopw [25] (fun i W => CHead 43 a b lo hi g l j (fun k => s * j + k) (fun _ => j) (fun k => k) W0 i W) (fun i _ => j - (intOf i).toNat)
      case atStart => exact S1.out
      case round =>
        obtain ⟨k, hkn, rfl, hat, hrow, hk⟩ := hrel
        have hat : At lo hi wr g l (s * j + k) := hat
        by_cases hlt : k < j
        · have C : Hid (Calls Try.prog 49 #[.pointer (some ⟨g, 0, none⟩), .int .i64 1] wr fun e w' => e = .returned (.int .i64 (b k)) ∧ At lo hi w' g l (s * j + (k + 1)) ∧ Keep g wr w') := Lib.hid (by
            have := at_num hat 1 (Or.inl rfl) hb hl (by omega)
            rw [B1.out] at this
            exact this)
          have R := Lib.hid (fun w1 (h1 : At lo hi w1 g l (s * j + (k + 1))) (h2 : Keep g wr w1) => (⟨row_keep hrow h2 (by omega), ⟨k + 1, hlt, rfl, at_new h1 hhi _ _, ((row_keep hrow h2 (by omega)).set (k * 2 + 1) (.int .i64 (b k))).congr (fun i _ => set1 _ b k i), keep_new (hk.trans h2) (Nat.le_refl _) _ _⟩⟩ : Row w1 W0.heap.size 43 (j * 2) (prF (up a j) (up b k)) ∧ CHead 43 a b lo hi g l j (fun k => s * j + k) (fun _ => j) (fun k => k) W0 (.int .i64 ((k : Int) + 1)) (w1.setCell ⟨W0.heap.size, k * 2 + 1, none⟩ (.int .i64 (b k)))))
          clear hat hrow hk B1 hz hb S1
          go_wp2_with (go_at_call 49; (with_reducible refine C.out.mono ?_); rintro e w1 ⟨rfl, h1, h2⟩; obtain ⟨r1, q⟩ := R.out _ h1 h2; have Q := Lib.hid q; have c0 := r1.cell (i := k * 2 + 1) (by omega); have f0 := r1.frozen (k * 2 + 1); clear h1 h2 q r1)
          go_roundw
          case rel => exact Q.out
          case measure => simp [intOf]; omega
        · obtain rfl : k = j := by omega
          have E : Hid (PTold 43 a b lo hi g l k (s * k + k) W0 (.returned (.slice (some ⟨W0.heap.size, 0, none⟩) k k)) wr) := Lib.hid ⟨_, rfl, Nat.le_refl _, hrow.congr (prF_all a b _), hat, hk⟩
          clear hat hrow hk B1 hz hb S1
          go_wp2
          go_ret
          exact E.out
set_option maxHeartbeats 2000000 in
theorem rleaps_at (lo hi : Nat) (W0 : World) (g : Nat) (l : List Nat) (p n s : Nat) (hs : s = 4 ∨ s = 8) (hb : Bys l) (hl : l.length < 1000000000) (h : At lo hi W0 g l p) (hhi : hi ≤ W0.heap.size) (hg : g < W0.heap.size) (hp : p + (s + 4) * n ≤ l.length) :
    Calls Try.prog 29 #[.pointer (some ⟨g, 0, none⟩), .int .i64 (n : Nat), .int .i64 (s : Nat)] W0 (PTold 45 (fun k => rd (sl l (p + (s + 4) * k) s)) (fun k => rd (sl l (p + (s + 4) * k + s) 4)) lo hi g l n (p + (s + 4) * n) W0) := by
  have hn : n < 1000000000 := by
    have := Nat.le_mul_of_pos_left n (show 0 < s + 4 by omega)
    omega
  have hmk := fun W => makeC W n hn
  generalize ha : (fun k => rd (sl l (p + (s + 4) * k) s)) = a at *
  generalize hbb : (fun k => rd (sl l (p + (s + 4) * k + s) 4)) = b at *
  have A1 := Lib.hid (show ∀ k, rd (sl l (p + (s + 4) * k) s) = a k from fun k => by rw [← ha])
  have B1 := Lib.hid (show ∀ k, rd (sl l (p + (s + 4) * k + s) 4) = b k from fun k => by rw [← hbb])
  have hz : Sz (s : Int) := by unfold Sz; omega
  have M0 := Lib.hid (made2 W0 n 45 a b)
  have K0 := Lib.hid (show Keep g W0 (W0.alloc (.cells (madeCells #[.int .i64 0, .int .i64 0] (n * 2)) 45)) from Below.keep (bal (Below.refl _ _) _))
  have H0 := Lib.hid (show At lo hi (W0.alloc (.cells (madeCells #[.int .i64 0, .int .i64 0] (n * 2)) 45)) g l p from Rdr.below h (bal (Below.refl _ _) _))
  clear h ha hbb
  go_enter Try.func29, Try.ntmps29
  go_wp2
  clear hmk
  go_loopw [12] (fun i W => CHead 45 a b lo hi g l n (fun j => p + (s + 4) * j) (fun j => j) (fun j => j) W0 i W) (fun i _ => n - (intOf i).toNat)
  case atStart => exact ⟨0, Nat.zero_le _, rfl, H0.out, M0.out, K0.out⟩
  case round =>
    obtain ⟨j, hj, rfl, hat, hrow, hk⟩ := hrel
    have hat : At lo hi wr g l (p + (s + 4) * j) := hat
    by_cases hlt : j < n
    · have hle : (s + 4) * j + (s + 4) ≤ (s + 4) * n := by have := Nat.mul_le_mul_left (s + 4) (show j + 1 ≤ n from hlt); rw [Nat.mul_succ] at this; exact this
      have C : Hid (Calls Try.prog 49 #[.pointer (some ⟨g, 0, none⟩), .int .i64 (s : Nat)] wr fun e w' => e = .returned (.int .i64 (a j)) ∧ At lo hi w' g l (p + (s + 4) * j + s) ∧ Keep g wr w') := Lib.hid (by
        have := at_num hat s hz hb hl (by omega)
        rw [A1.out] at this
        exact this)
      have C2 : Hid (∀ W, At lo hi W g l (p + (s + 4) * j + s) → Calls Try.prog 49 #[.pointer (some ⟨g, 0, none⟩), .int .i64 4] W fun e w' => e = .returned (.int .i64 (b j)) ∧ At lo hi w' g l (p + (s + 4) * (j + 1)) ∧ Keep g W w') := Lib.hid fun W hW => by
        have := at_num hW 4 (Or.inr (Or.inl rfl)) hb hl (by omega)
        rw [B1.out, show p + (s + 4) * j + s + 4 = p + (s + 4) * (j + 1) by rw [Nat.mul_succ]; omega] at this
        exact this
      have R1 := Lib.hid (fun w1 (h1 : At lo hi w1 g l (p + (s + 4) * j + s)) (h2 : Keep g wr w1) => (⟨row_keep hrow h2 (by omega), at_new h1 hhi _ _, ((row_keep hrow h2 (by omega)).set (j * 2) (.int .i64 (a j))).congr (fun i _ => set0 a _ j i), keep_new (hk.trans h2) (Nat.le_refl _) _ _⟩ : Row w1 W0.heap.size 45 (n * 2) (prF (up a j) (up b j)) ∧ At lo hi (w1.setCell ⟨W0.heap.size, j * 2, none⟩ (.int .i64 (a j))) g l (p + (s + 4) * j + s) ∧ Row (w1.setCell ⟨W0.heap.size, j * 2, none⟩ (.int .i64 (a j))) W0.heap.size 45 (n * 2) (prF (up a (j + 1)) (up b j)) ∧ Keep g W0 (w1.setCell ⟨W0.heap.size, j * 2, none⟩ (.int .i64 (a j)))))
      have R2 := Lib.hid (fun wa w1 (h0 : Row wa W0.heap.size 45 (n * 2) (prF (up a (j + 1)) (up b j))) (h3 : Keep g W0 wa) (h1 : At lo hi w1 g l (p + (s + 4) * (j + 1))) (h2 : Keep g wa w1) => (⟨row_keep h0 h2 (by omega), ⟨j + 1, hlt, rfl, at_new h1 hhi _ _, ((row_keep h0 h2 (by omega)).set (j * 2 + 1) (.int .i64 (b j))).congr (fun i _ => set1 _ b j i), keep_new (h3.trans h2) (Nat.le_refl _) _ _⟩⟩ : Row w1 W0.heap.size 45 (n * 2) (prF (up a (j + 1)) (up b j)) ∧ CHead 45 a b lo hi g l n (fun j => p + (s + 4) * j) (fun j => j) (fun j => j) W0 (.int .i64 ((j : Int) + 1)) (w1.setCell ⟨W0.heap.size, j * 2 + 1, none⟩ (.int .i64 (b j)))))
      clear hat hrow hk A1 B1 M0 K0 H0 hle hz hb
      go_wp2_with (first
        | (go_at_call 49; (with_reducible refine C.out.mono ?_); rintro e w1 ⟨rfl, h1, h2⟩; obtain ⟨r1, a1, q1, k1⟩ := R1.out _ h1 h2; have AA := Lib.hid a1; have QQ := Lib.hid q1; have KK := Lib.hid k1; have c0 := r1.cell (i := j * 2) (by omega); have f0 := r1.frozen (j * 2); clear h1 h2 a1 q1 k1 r1)
        | (go_at_call 49; (with_reducible refine (C2.out _ AA.out).mono ?_); rintro e w2 ⟨rfl, h1, h2⟩; obtain ⟨r1, q⟩ := R2.out _ _ QQ.out KK.out h1 h2; have Q := Lib.hid q; clear c0 f0; have c0 := r1.cell (i := j * 2 + 1) (by omega); have f0 := r1.frozen (j * 2 + 1); clear h1 h2 q r1))
      go_roundw
      case rel => exact Q.out
      case measure => simp [intOf]; omega
    · obtain rfl : j = n := by omega
      have E : Hid (PTold 45 a b lo hi g l j (p + (s + 4) * j) W0 (.returned (.slice (some ⟨W0.heap.size, 0, none⟩) j j)) wr) := Lib.hid ⟨_, rfl, Nat.le_refl _, hrow.congr (prF_all a b _), hat, hk⟩
      clear hat hrow hk A1 B1 M0 K0 H0 hz hb
      go_wp2
      go_ret
      exact E.out
end Go.Proofs.Ytllficloadncfaa.blk
