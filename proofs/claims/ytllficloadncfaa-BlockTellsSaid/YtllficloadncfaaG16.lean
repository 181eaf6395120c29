/-
  What block.Decode answers. Conditions: the slice reads as bytes; MaxLen holds a number.
-/
import Derived.Test.YtllficloadncfaaG15
import Derived.Test.YtllficloadncfaaG07
import Derived.Deep.RegionHeld3
namespace Go.Proofs.Ytllficloadncfaa.blk
open Go.ChangeShapes Go.WideShapes Go.ChangeAt Go.RowKit
open om mem oct bk
open head (end_pair)
set_option linter.unusedVariables false
set_option maxRecDepth 100000

/-- a value that is a zone, all of whose rows lie behind a place. -/
def IsN (base : Nat) (W : World) (v : Value) (z : Zn) : Prop := ∃ A a B b C c, v = (.agg #[.slice A z.ty.length a, .slice B z.tr.length b, .slice C z.lp.length c, .string z.ft, .int .i64 z.v]) ∧ Zr W A B C z ∧ (∀ g o, A = some ⟨g, o, none⟩ → base ≤ g) ∧ (∀ g o, B = some ⟨g, o, none⟩ → base ≤ g) ∧ (∀ g o, C = some ⟨g, o, none⟩ → base ≤ g)
def DTold (h : hd.Hd) (l : List Nat) (s : Int) (w : World) (e : Ending) (w' : World) : Prop := ∃ v, e = .returned (.tuple #[v, .bool (dv h l s)]) ∧ IsN w.heap.size w' v (dec h l s) ∧ Below w.heap.size w w'
/-- the cells of a zone. -/
def zc5 (A : Option Addr) (n a : Nat) (B : Option Addr) (m b : Nat) (C : Option Addr) (q c : Nat) (ft : ByteArray) (v : Int) : Array Value := #[.slice A n a, .slice B m b, .slice C q c, .string ft, .int .i64 v]
theorem zc5_one (A : Option Addr) (n a : Nat) (B : Option Addr) (m b : Nat) (C : Option Addr) (q c : Nat) (ft : ByteArray) (v : Int) : (zc5 A n a B m b C q c ft v).all (·.oneCell') = true := by simp [zc5, Value.oneCell']
theorem szZ : (Try.prog.info? 26).map (·.size) = some 5 := by kernel_rfl
theorem zr_zero (W : World) (A B C : Option Addr) : Zr W A B C zero := ⟨fun h => absurd rfl h, fun h => absurd rfl h, fun h => absurd rfl h⟩
theorem dtold_no {h : hd.Hd} {l : List Nat} {s : Int} {w w' : World} (e : dv h l s = false) (hb : Below w.heap.size w w') : DTold h l s w (.returned (.tuple #[.agg (zc5 none 0 0 none 0 0 none 0 0 ⟨#[]⟩ 0), .bool false])) w' := by
  refine ⟨_, by rw [e], ?_, hb⟩
  unfold dec
  rw [if_neg (by rw [e]; decide)]
  exact ⟨none, 0, none, 0, none, 0, rfl, zr_zero _ _ _ _, (fun g o h => by cases h), (fun g o h => by cases h), (fun g o h => by cases h)⟩
/-- how far the reading is. -/
structure Dc (W0 : World) (lo hi g : Nat) (l : List Nat) (pos : Nat) (W : World) : Prop where
  at' : At lo hi W g l pos
  bel : Below W0.heap.size W0 W
  lo_ : W0.heap.size ≤ lo
  hhi : hi ≤ W.heap.size
theorem Dc.gl {W0 : World} {lo hi g : Nat} {l : List Nat} {pos : Nat} {W : World} (h : Dc W0 lo hi g l pos W) : W0.heap.size ≤ g := Nat.le_trans h.lo_ h.at'.1
theorem Dc.gh {W0 : World} {lo hi g : Nat} {l : List Nat} {pos : Nat} {W : World} (h : Dc W0 lo hi g l pos W) : g < W.heap.size := Nat.lt_of_lt_of_le h.at'.2.1 h.hhi
theorem Dc.step {W0 : World} {lo hi g : Nat} {l : List Nat} {pos pos' : Nat} {W W' : World} (h : Dc W0 lo hi g l pos W) (a : At lo hi W' g l pos') (k : Keep g W W') : Dc W0 lo hi g l pos' W' :=
  ⟨a, k.to_below h.bel h.gl h.bel.size, h.lo_, Nat.le_trans h.hhi k.size⟩
theorem Dc.other {W0 : World} {lo hi g : Nat} {l : List Nat} {pos : Nat} {W W' : World} (h : Dc W0 lo hi g l pos W) {m : Nat} (hm : hi ≤ m) (k : Keep m W W') : Dc W0 lo hi g l pos W' :=
  ⟨Rdr.keep h.at' k (Or.inr hm), k.to_below h.bel (Nat.le_trans (Nat.le_trans h.lo_ (Nat.le_trans h.at'.1 (Nat.le_of_lt h.at'.2.1))) hm) h.bel.size, h.lo_, Nat.le_trans h.hhi k.size⟩
theorem Dc.drew {W0 : World} {lo hi g : Nat} {l : List Nat} {pos : Nat} {W : World} (h : Dc W0 lo hi g l pos W) (n : Nat) : Dc W0 lo hi g l pos (W.drewN n) :=
  ⟨Rdr.drew h.at' n, bel_drewN h.bel n, h.lo_, h.hhi⟩
def KTb (b : Bool) (p lo hi g : Nat) (l : List Nat) (n : Nat) (W0 : World) (e : Ending) (w' : World) : Prop :=
  ∃ mk mp, e = .returned (.tuple #[.slice (some ⟨mk, 0, none⟩) n n, .slice (some ⟨mp, 0, none⟩) n n, .bool b]) ∧ KC hi g mk mp W0 ∧ Row w' mk 41 (n * 3) (tyF (gOf l p) (dOf l p) (fun _ => ⟨#[]⟩)) ∧ Row w' mp 3 n (fun i => .int .i64 (gPl l p i)) ∧ At lo hi w' g l (p + 6 * n) ∧ Keep g W0 w'
def GTb (b : Bool) (o : Nat → Int) (d : Nat → Bool) (s : ByteArray) (q : Nat → Int) (n mk : Nat) (W0 : World) (e : Ending) (w' : World) : Prop :=
  e = .returned (.bool b) ∧ Keep mk W0 w' ∧ (b = true → Row w' mk 41 (n * 3) (tyF o d (nmAt s q)))
theorem row_set {W : World} {m : Nat} {t : TypeId} {n : Nat} {f : Nat → Value} (h : Row W m t n f) {g : Nat} (hne : m ≠ g) (c : Array Value) : Row (W.setRow g c) m t n f := h.of_block (setRow_other _ _ _ _ hne)
theorem L_str (x : List Nat) : lx.L (strN x) = x.map UInt8.ofNat := strN_data x
theorem isAll_nmd (x : List Nat) (q : Nat → Int) (n : Nat) : isAll (strN x) q n = (List.range n).all fun k => ab.aB (x.map UInt8.ofNat) (q k) := by
  unfold isAll isAt
  rw [L_str]
theorem nmAt_is (x : List Nat) (q : Nat → Int) : nmAt (strN x) q = fun k => lx.B (ab.aS (x.map UInt8.ofNat) (q k)) := by
  unfold nmAt
  rw [L_str]
theorem rd1_bd (l : List Nat) (h : Bys l) (i n : Nat) : -9223372036854775808 ≤ rd (sl l i n) ∧ rd (sl l i n) ≤ 9223372036854775807 := rd_bd (sl_bys h i n)
set_option maxHeartbeats 8000000 in
theorem decode_at (h : hd.Hd) (l : List Nat) (bv : Value) (s : Int) (w : World) (hl : RdW w bv l) (hb : Bys l) (hn : l.length ≤ 9223372036854775807) (TM : lines.ML w) : Calls Try.prog 10 #[(.agg #[.int .i64 h.v, .int .i64 h.ut, .int .i64 h.sd, .int .i64 h.lp, .int .i64 h.tm, .int .i64 h.ty, .int .i64 h.ch]), bv, .int .i64 s] w (DTold h l s w) := by
  have T := head.box_tells h w
  have SZ := Lib.hid (fun W => head.size_at h s W)
  obtain ⟨Ab, cb, rfl⟩ := rdw_form hl
  have ZB : Hid (((w.alloc (.cells #[.int .i64 h.v, .int .i64 h.ut, .int .i64 h.sd, .int .i64 h.lp, .int .i64 h.tm, .int .i64 h.ty, .int .i64 h.ch] 28)).alloc (.cells #[.slice none 0 0, .slice none 0 0, .slice none 0 0, .string ⟨#[]⟩, .int .i64 0] 26)).heap[w.heap.size + 1]? = some (.cells #[.slice none 0 0, .slice none 0 0, .slice none 0 0, .string ⟨#[]⟩, .int .i64 0] 26)) := Lib.hid (hp_new1 w _ _)
  have hw0 : Hid (Below w.heap.size w ((w.alloc (.cells #[.int .i64 h.v, .int .i64 h.ut, .int .i64 h.sd, .int .i64 h.lp, .int .i64 h.tm, .int .i64 h.ty, .int .i64 h.ch] 28)).alloc (.cells #[.slice none 0 0, .slice none 0 0, .slice none 0 0, .string ⟨#[]⟩, .int .i64 0] 26))) := Lib.hid (bal (bal (Below.refl _ _) _) _)
  have HZ : Hid (∀ W, Below ((w.alloc (.cells #[.int .i64 h.v, .int .i64 h.ut, .int .i64 h.sd, .int .i64 h.lp, .int .i64 h.tm, .int .i64 h.ty, .int .i64 h.ch] 28)).alloc (.cells #[.slice none 0 0, .slice none 0 0, .slice none 0 0, .string ⟨#[]⟩, .int .i64 0] 26)).heap.size ((w.alloc (.cells #[.int .i64 h.v, .int .i64 h.ut, .int .i64 h.sd, .int .i64 h.lp, .int .i64 h.tm, .int .i64 h.ty, .int .i64 h.ch] 28)).alloc (.cells #[.slice none 0 0, .slice none 0 0, .slice none 0 0, .string ⟨#[]⟩, .int .i64 0] 26)) W → Below (w.alloc (.cells #[.int .i64 h.v, .int .i64 h.ut, .int .i64 h.sd, .int .i64 h.lp, .int .i64 h.tm, .int .i64 h.ty, .int .i64 h.ch] 28)).heap.size (w.alloc (.cells #[.int .i64 h.v, .int .i64 h.ut, .int .i64 h.sd, .int .i64 h.lp, .int .i64 h.tm, .int .i64 h.ty, .int .i64 h.ch] 28)) W) := Lib.hid fun W hb => btr (bal (Below.refl _ _) _) hb
  have hs0 : ((w.alloc (.cells #[.int .i64 h.v, .int .i64 h.ut, .int .i64 h.sd, .int .i64 h.lp, .int .i64 h.tm, .int .i64 h.ty, .int .i64 h.ch] 28)).alloc (.cells #[.slice none 0 0, .slice none 0 0, .slice none 0 0, .string ⟨#[]⟩, .int .i64 0] 26)).heap.size = w.heap.size + 2 := by simp
  by_cases hk : lenB h l s = true
  · have hs : s = 4 ∨ s = 8 := by
      unfold lenB at hk
      rw [Bool.and_eq_true] at hk
      exact (hd.szb_iff.1 hk.1).2
    obtain ⟨s, rfl⟩ : ∃ n : Nat, s = n := ⟨s.toNat, by omega⟩
    obtain ⟨hok, hs', hlen⟩ := len_nat hk
    have hsl : (l.length : Int) = hd.sz h s := by
      unfold lenB at hk
      rw [Bool.and_eq_true, beq_iff_eq] at hk
      exact hk.2
    rw [← hsl] at SZ
    have hdv : dv h l s = (mkdB h l s && nmdB h l s && amB (sl l (P4 h s) h.sd.toNat) (sl l (P5 h s) h.ut.toNat)) := by
      unfold dv
      rw [hk, Bool.true_and, Int.toNat_natCast]
    have hl7 : l.length < 1000000 := by
      obtain ⟨_, k2, k3, k4, k5, k6, k7⟩ := hok
      rw [hlen]
      unfold P5 P4 P3 P2 P1
      rcases hs' with rfl | rfl <;> omega
    have hl0 : ((l.length : Int) == 0) = false := by
      obtain ⟨_, k2, k3, k4, k5, k6, k7⟩ := hok
      have : 0 < l.length := by
        rw [hlen]
        unfold P5 P4 P3 P2 P1
        omega
      exact beq_eq_false_iff_ne.2 (by omega)
    have hl1 : ((l.length : Int) != (l.length : Int)) = false := by simp
    have QN := Lib.hid (fun (e : dv h l s = false) w' hb => dtold_no (h := h) (l := l) (s := s) (w := w) (w' := w') e hb)
    have QY : Hid (dv h l s = true → ∀ W mk mt ml, Row W mk 41 (h.ty.toNat * 3) (tyF (gOf l (P1 h s)) (dOf l (P1 h s)) (nmAt (strN (sl l (P2 h s) h.ch.toNat)) (gPl l (P1 h s)))) → Row W mt 43 (h.tm.toNat * 2) (prF (fun k => rd (sl l (s * k) s)) (fun k => rd (sl l (s * h.tm.toNat + k) 1))) → Row W ml 45 (h.lp.toNat * 2) (prF (fun k => rd (sl l (P3 h s + (s + 4) * k) s)) (fun k => rd (sl l (P3 h s + (s + 4) * k + s) 4))) → w.heap.size ≤ mk → w.heap.size ≤ mt → w.heap.size ≤ ml → Below w.heap.size w W → DTold h l s w (.returned (.tuple #[.agg (zc5 (some ⟨mk, 0, none⟩) h.ty.toNat h.ty.toNat (some ⟨mt, 0, none⟩) h.tm.toNat h.tm.toNat (some ⟨ml, 0, none⟩) h.lp.toNat h.lp.toNat ⟨#[]⟩ h.v), .bool true])) W) := Lib.hid fun e W mk mt ml r1 r2 r3 g1 g2 g3 hbw => by
      refine ⟨_, by rw [e], ?_, hbw⟩
      unfold dec
      rw [if_pos e, Int.toNat_natCast]
      rw [nmAt_is] at r1
      have t1 := tys_row r1
      have t2 := prs_row r2
      have t3 := prs_row r3
      refine ⟨some ⟨mk, 0, none⟩, h.ty.toNat, some ⟨mt, 0, none⟩, h.tm.toNat, some ⟨ml, 0, none⟩, h.lp.toNat, ?_, ⟨t1, t2, t3⟩, (fun g o h => by cases h; exact g1), (fun g o h => by cases h; exact g2), (fun g o h => by cases h; exact g3)⟩
      unfold zc5 gZ gTy gTr gLp
      simp only [List.length_map, List.length_range]
    have hnm : nmdB h l s = isAll (strN (sl l (P2 h s) h.ch.toNat)) (gPl l (P1 h s)) h.ty.toNat := (isAll_nmd _ _ _).symm
    have hmk : mkdB h l s = mkAll l (P1 h s) h.ty.toNat := rfl
    rw [hmk, hnm] at hdv
    clear hnm hmk hk hsl hs
    obtain ⟨v, ut, sd, lp, tm, ty, ch⟩ := h
    obtain ⟨_, k2, k3, k4, k5, k6, k7⟩ := hok
    simp only at k2 k3 k4 k5 k6 k7
    obtain ⟨ut, rfl⟩ : ∃ n : Nat, ut = n := ⟨ut.toNat, by omega⟩
    obtain ⟨sd, rfl⟩ : ∃ n : Nat, sd = n := ⟨sd.toNat, by omega⟩
    obtain ⟨lp, rfl⟩ : ∃ n : Nat, lp = n := ⟨lp.toNat, by omega⟩
    obtain ⟨tm, rfl⟩ : ∃ n : Nat, tm = n := ⟨tm.toNat, by omega⟩
    obtain ⟨ty, rfl⟩ : ∃ n : Nat, ty = n := ⟨ty.toNat, by omega⟩
    obtain ⟨ch, rfl⟩ : ∃ n : Nat, ch = n := ⟨ch.toNat, by omega⟩
    generalize dv _ l (s : Int) = D at *
    simp only [P5, P4, P3, P2, P1, Int.toNat_natCast] at *
    have hty : ty < 1000000 := by omega
    have OP : Hid (∀ W, Below ((w.alloc (.cells #[.int .i64 v, .int .i64 (ut : Nat), .int .i64 (sd : Nat), .int .i64 (lp : Nat), .int .i64 (tm : Nat), .int .i64 (ty : Nat), .int .i64 (ch : Nat)] 28)).alloc (.cells #[.slice none 0 0, .slice none 0 0, .slice none 0 0, .string ⟨#[]⟩, .int .i64 0] 26)).heap.size ((w.alloc (.cells #[.int .i64 v, .int .i64 (ut : Nat), .int .i64 (sd : Nat), .int .i64 (lp : Nat), .int .i64 (tm : Nat), .int .i64 (ty : Nat), .int .i64 (ch : Nat)] 28)).alloc (.cells #[.slice none 0 0, .slice none 0 0, .slice none 0 0, .string ⟨#[]⟩, .int .i64 0] 26)) W → Calls Try.prog 24 #[.slice Ab l.length cb] W (OpenTold 95 W l)) := Lib.hid fun W hb' => open_at l _ W (hl.below (btr hw0.out hb')) (by omega)
    have RC := Lib.hid (fun lo hi W g (a : At lo hi W g l 0) h1 h2 => rchanges_at lo hi W g l tm s hs' hb (by omega) a h1 h2 (by omega))
    have RK := Lib.hid (fun lo hi W g (a : At lo hi W g l (s * tm + tm)) h1 h2 => (show Calls Try.prog 26 #[.pointer (some ⟨g, 0, none⟩), .int .i64 (ty : Nat)] W (KTb (mkAll l (s * tm + tm) ty) (s * tm + tm) lo hi g l ty W) from rkinds_at (s * tm + tm) lo hi W g l ty hb (by omega) a h1 h2 (by omega)))
    have TK := Lib.hid (fun lo hi W g (a : At lo hi W g l (s * tm + tm + 6 * ty)) => at_take a ch (by omega) (by omega))
    have hss : (strN (sl l (s * tm + tm + 6 * ty) ch)).size < 4294967281 := by rw [strN_size, sl_len (by omega)]; omega
    have GN := Lib.hid (fun mk mp W hk' hp' hne (hbw : Below ((w.alloc (.cells #[.int .i64 v, .int .i64 (ut : Nat), .int .i64 (sd : Nat), .int .i64 (lp : Nat), .int .i64 (tm : Nat), .int .i64 (ty : Nat), .int .i64 (ch : Nat)] 28)).alloc (.cells #[.slice none 0 0, .slice none 0 0, .slice none 0 0, .string ⟨#[]⟩, .int .i64 0] 26)).heap.size ((w.alloc (.cells #[.int .i64 v, .int .i64 (ut : Nat), .int .i64 (sd : Nat), .int .i64 (lp : Nat), .int .i64 (tm : Nat), .int .i64 (ty : Nat), .int .i64 (ch : Nat)] 28)).alloc (.cells #[.slice none 0 0, .slice none 0 0, .slice none 0 0, .string ⟨#[]⟩, .int .i64 0] 26)) W) (hmk' : ((w.alloc (.cells #[.int .i64 v, .int .i64 (ut : Nat), .int .i64 (sd : Nat), .int .i64 (lp : Nat), .int .i64 (tm : Nat), .int .i64 (ty : Nat), .int .i64 (ch : Nat)] 28)).alloc (.cells #[.slice none 0 0, .slice none 0 0, .slice none 0 0, .string ⟨#[]⟩, .int .i64 0] 26)).heap.size ≤ mk) => (show Calls Try.prog 27 #[.slice (some ⟨mk, 0, none⟩) ty ty, .slice (some ⟨mp, 0, none⟩) ty ty, .string (strN (sl l (s * tm + tm + 6 * ty) ch))] W (GTb (isAll (strN (sl l (s * tm + tm + 6 * ty) ch)) (gPl l (s * tm + tm)) ty) (gOf l (s * tm + tm)) (dOf l (s * tm + tm)) (strN (sl l (s * tm + tm + 6 * ty) ch)) (gPl l (s * tm + tm)) ty mk W) from give_at (gOf l (s * tm + tm)) (dOf l (s * tm + tm)) (strN (sl l (s * tm + tm + 6 * ty) ch)) (gPl l (s * tm + tm)) ty mk mp W hk' hp' hne hss (fun k _ => rd1_bd l hb _ _) hty (fun W' kk => TM.below (btr hw0.out (kk.to_below hbw hmk' hbw.size)))))
    have RL := Lib.hid (fun lo hi W g (a : At lo hi W g l (s * tm + tm + 6 * ty + ch)) h1 h2 => rleaps_at lo hi W g l (s * tm + tm + 6 * ty + ch) lp s hs' hb (by omega) a h1 h2 (by omega))
    have TS := Lib.hid (fun lo hi W g (a : At lo hi W g l (s * tm + tm + 6 * ty + ch + (s + 4) * lp)) => at_take a sd (by omega) (by omega))
    have TU := Lib.hid (fun lo hi W g (a : At lo hi W g l (s * tm + tm + 6 * ty + ch + (s + 4) * lp + sd)) => at_take a ut (by omega) (by omega))
    have AM := Lib.hid (fun W v1 v2 h1 h2 => are_at (sl l (s * tm + tm + 6 * ty + ch + (s + 4) * lp) sd) (sl l (s * tm + tm + 6 * ty + ch + (s + 4) * lp + sd) ut) v1 v2 W h1 h2 (sl_bys hb _ _) (sl_bys hb _ _) (by rw [sl_len (by omega)]; omega) (by rw [sl_len (by omega)]; omega))
    clear hb hn k2 k3 k4 k5 k6 k7 hlen hl7 hss hl TM hs'
    generalize isAll (strN (sl l (s * tm + tm + 6 * ty) ch)) (gPl l (s * tm + tm)) ty = M2 at *
    generalize mkAll l (s * tm + tm) ty = M1 at *
    generalize hS : strN (sl l (s * tm + tm + 6 * ty) ch) = S at *
    generalize amB _ _ = M3 at *
    cases M1 with
    | false =>
      have q := Lib.hid (QN.out (by rw [hdv]; rfl))
      clear QN QY hdv TS TU AM
      go_enter Try.func10, Try.ntmps10
      go_wp2_with
      (first
        | (go_at_call 19; (with_reducible refine (SZ.out _).mono ?_); rintro e w1 ⟨rfl, hb1⟩; have HA1 := Lib.hid hb1; obtain ⟨x0, x1, x2, x3, x4, x5, x6, hbz, hsz⟩ := T.out _ (HZ.out _ hb1); clear hb1 hbz)
        | (go_at_call 24; (with_reducible refine (OP.out _ HA1.out).mono ?_); rintro e w2 ⟨g, rfl, r, hb⟩; have D2 : Hid (Dc ((w.alloc (.cells #[.int .i64 v, .int .i64 (ut : Nat), .int .i64 (sd : Nat), .int .i64 (lp : Nat), .int .i64 (tm : Nat), .int .i64 (ty : Nat), .int .i64 (ch : Nat)] 28)).alloc (.cells #[.slice none 0 0, .slice none 0 0, .slice none 0 0, .string ⟨#[]⟩, .int .i64 0] 26)) w1.heap.size w2.heap.size g l 0 w2) := Lib.hid ⟨r, btr HA1.out hb, HA1.out.size, Nat.le_refl _⟩; clear x0 x1 x2 x3 x4 x5 x6 hsz r hb; obtain ⟨x0, x1, x2, x3, x4, x5, x6, hbz, hsz⟩ := T.out _ (HZ.out _ D2.out.bel); clear hbz)
        | (go_at_call 25; (with_reducible refine (RC.out _ _ _ _ D2.out.at' D2.out.hhi D2.out.gh).mono ?_); rintro e w3 ⟨mt, rfl, hmt, rt, a, k⟩; have D3 := Lib.hid (D2.out.step a k); have MT := Lib.hid hmt; have RT := Lib.hid rt; clear x0 x1 x2 x3 x4 x5 x6 hsz a k rt hmt; obtain ⟨x0, x1, x2, x3, x4, x5, x6, hbz, hsz⟩ := T.out _ (HZ.out _ D3.out.bel); clear hbz)
        | (go_at_call 26; (with_reducible refine (RK.out _ _ _ _ D3.out.at' D3.out.hhi D3.out.gh).mono ?_); rintro e w4 ⟨mk, mp, rfl, kc, rk, rp, a, k⟩; have D4 := Lib.hid (D3.out.step a k); have KC4 := Lib.hid kc; have RK4 := Lib.hid rk; have RP4 := Lib.hid rp; have RT4 := Lib.hid (row_keep RT.out k (by have := MT.out; have := D2.out.gh; omega)); have NT4 : Hid (mt < w3.heap.size) := Lib.hid RT.out.lt; clear x0 x1 x2 x3 x4 x5 x6 hsz a k rk rp kc; obtain ⟨x0, x1, x2, x3, x4, x5, x6, hbz, hsz⟩ := T.out _ (HZ.out _ D4.out.bel); clear hbz)
        | (go_at_call 28; (with_reducible refine (TK.out _ _ _ _ D4.out.at').mono ?_); rintro e w5 ⟨v5, rfl, o5, a, k⟩; have D5 := Lib.hid (D4.out.step a k); have RK5 := Lib.hid (row_keep RK4.out k (by have := KC4.out.k; have := D3.out.gh; omega)); have RP5 := Lib.hid (row_keep RP4.out k (by have := KC4.out.p; have := D3.out.gh; omega)); have RT5 := Lib.hid (row_keep RT4.out k (by have := MT.out; have := D2.out.gh; omega)); have cv := str_of (own_by o5).rd; clear x0 x1 x2 x3 x4 x5 x6 hsz a k o5; obtain ⟨x0, x1, x2, x3, x4, x5, x6, hbz, hsz⟩ := T.out _ (HZ.out _ D5.out.bel); clear hbz)
        | (go_at_call 27; (with_reducible refine (GN.out _ _ _ RK5.out RP5.out KC4.out.ne D5.out.bel (Nat.le_trans D3.out.bel.size KC4.out.k)).mono ?_); rintro e w6 ⟨rfl, k, rn⟩; clear cv; have D6 := Lib.hid (D5.out.other (Nat.le_trans KC4.out.hhi KC4.out.k) k); have RN := Lib.hid rn; have RT6 := Lib.hid (row_keep RT5.out k (by have := KC4.out.k; have := NT4.out; omega)); have NK6 : Hid (mk < w6.heap.size) := Lib.hid (Nat.lt_of_lt_of_le RK5.out.lt k.size); clear x0 x1 x2 x3 x4 x5 x6 hsz k rn; obtain ⟨x0, x1, x2, x3, x4, x5, x6, hbz, hsz⟩ := T.out _ (HZ.out _ D6.out.bel); clear hbz)
        | (go_at_call 29; (with_reducible refine (RL.out _ _ _ _ D6.out.at' D6.out.hhi D6.out.gh).mono ?_); rintro e w7 ⟨ml, rfl, hml, rl, a, k⟩; have D7 := Lib.hid (D6.out.step a k); have RL7 := Lib.hid rl; have NL7 := Lib.hid hml; have RN7 := Lib.hid (fun h => row_keep (RN.out h) k (by have := KC4.out.k; have := D3.out.gh; omega)); have RT7 := Lib.hid (row_keep RT6.out k (by have := MT.out; have := D2.out.gh; omega)); clear x0 x1 x2 x3 x4 x5 x6 hsz a k rl hml; obtain ⟨x0, x1, x2, x3, x4, x5, x6, hbz, hsz⟩ := T.out _ (HZ.out _ D7.out.bel); clear hbz))
      have BX : Hid (w7.drew.heap[w.heap.size + 1]? = some (.cells #[.slice none 0 0, .slice none 0 0, .slice none 0 0, .string ⟨#[]⟩, .int .i64 0] 26)) := Lib.hid (kept ZB.out (bel_drewN D7.out.bel 1))
      have R := Lib.hid (fun w' hb => q.out w' hb)
      go_quiet (fail)
      go_wp2_with (refine wpList_store_row rfl 26 (.tmp 6) (.tmp 74) rfl (w.heap.size + 1) (zc5 none 0 0 none 0 0 none 0 0 ⟨#[]⟩ 0) rfl rfl 26 _ BX.out szZ rfl (zc5_one _ _ _ _ _ _ _ _ _ _ _) ?_)
      refine end_pair Try.results10 _ _ (w.heap.size + 1) _ (zc5 none 0 0 none 0 0 none 0 0 ⟨#[]⟩ 0) _ _ rfl rfl (setRow_heap _ _ _ _ _ _ BX.out) Try.underlying26 szZ rfl ?_
      exact R.out _ (bel_setRow (btr hw0.out (bel_drewN D7.out.bel _)) (Nat.le_succ _) _)
    | true =>
      cases M2 with
      | false =>
        have q := Lib.hid (QN.out (by rw [hdv]; rfl))
        clear QN QY hdv TS TU AM
        go_enter Try.func10, Try.ntmps10
        go_wp2_with
      (first
        | (go_at_call 19; (with_reducible refine (SZ.out _).mono ?_); rintro e w1 ⟨rfl, hb1⟩; have HA1 := Lib.hid hb1; obtain ⟨x0, x1, x2, x3, x4, x5, x6, hbz, hsz⟩ := T.out _ (HZ.out _ hb1); clear hb1 hbz)
        | (go_at_call 24; (with_reducible refine (OP.out _ HA1.out).mono ?_); rintro e w2 ⟨g, rfl, r, hb⟩; have D2 : Hid (Dc ((w.alloc (.cells #[.int .i64 v, .int .i64 (ut : Nat), .int .i64 (sd : Nat), .int .i64 (lp : Nat), .int .i64 (tm : Nat), .int .i64 (ty : Nat), .int .i64 (ch : Nat)] 28)).alloc (.cells #[.slice none 0 0, .slice none 0 0, .slice none 0 0, .string ⟨#[]⟩, .int .i64 0] 26)) w1.heap.size w2.heap.size g l 0 w2) := Lib.hid ⟨r, btr HA1.out hb, HA1.out.size, Nat.le_refl _⟩; clear x0 x1 x2 x3 x4 x5 x6 hsz r hb; obtain ⟨x0, x1, x2, x3, x4, x5, x6, hbz, hsz⟩ := T.out _ (HZ.out _ D2.out.bel); clear hbz)
        | (go_at_call 25; (with_reducible refine (RC.out _ _ _ _ D2.out.at' D2.out.hhi D2.out.gh).mono ?_); rintro e w3 ⟨mt, rfl, hmt, rt, a, k⟩; have D3 := Lib.hid (D2.out.step a k); have MT := Lib.hid hmt; have RT := Lib.hid rt; clear x0 x1 x2 x3 x4 x5 x6 hsz a k rt hmt; obtain ⟨x0, x1, x2, x3, x4, x5, x6, hbz, hsz⟩ := T.out _ (HZ.out _ D3.out.bel); clear hbz)
        | (go_at_call 26; (with_reducible refine (RK.out _ _ _ _ D3.out.at' D3.out.hhi D3.out.gh).mono ?_); rintro e w4 ⟨mk, mp, rfl, kc, rk, rp, a, k⟩; have D4 := Lib.hid (D3.out.step a k); have KC4 := Lib.hid kc; have RK4 := Lib.hid rk; have RP4 := Lib.hid rp; have RT4 := Lib.hid (row_keep RT.out k (by have := MT.out; have := D2.out.gh; omega)); have NT4 : Hid (mt < w3.heap.size) := Lib.hid RT.out.lt; clear x0 x1 x2 x3 x4 x5 x6 hsz a k rk rp kc; obtain ⟨x0, x1, x2, x3, x4, x5, x6, hbz, hsz⟩ := T.out _ (HZ.out _ D4.out.bel); clear hbz)
        | (go_at_call 28; (with_reducible refine (TK.out _ _ _ _ D4.out.at').mono ?_); rintro e w5 ⟨v5, rfl, o5, a, k⟩; have D5 := Lib.hid (D4.out.step a k); have RK5 := Lib.hid (row_keep RK4.out k (by have := KC4.out.k; have := D3.out.gh; omega)); have RP5 := Lib.hid (row_keep RP4.out k (by have := KC4.out.p; have := D3.out.gh; omega)); have RT5 := Lib.hid (row_keep RT4.out k (by have := MT.out; have := D2.out.gh; omega)); have cv := str_of (own_by o5).rd; clear x0 x1 x2 x3 x4 x5 x6 hsz a k o5; obtain ⟨x0, x1, x2, x3, x4, x5, x6, hbz, hsz⟩ := T.out _ (HZ.out _ D5.out.bel); clear hbz)
        | (go_at_call 27; (with_reducible refine (GN.out _ _ _ RK5.out RP5.out KC4.out.ne D5.out.bel (Nat.le_trans D3.out.bel.size KC4.out.k)).mono ?_); rintro e w6 ⟨rfl, k, rn⟩; clear cv; have D6 := Lib.hid (D5.out.other (Nat.le_trans KC4.out.hhi KC4.out.k) k); have RN := Lib.hid rn; have RT6 := Lib.hid (row_keep RT5.out k (by have := KC4.out.k; have := NT4.out; omega)); have NK6 : Hid (mk < w6.heap.size) := Lib.hid (Nat.lt_of_lt_of_le RK5.out.lt k.size); clear x0 x1 x2 x3 x4 x5 x6 hsz k rn; obtain ⟨x0, x1, x2, x3, x4, x5, x6, hbz, hsz⟩ := T.out _ (HZ.out _ D6.out.bel); clear hbz)
        | (go_at_call 29; (with_reducible refine (RL.out _ _ _ _ D6.out.at' D6.out.hhi D6.out.gh).mono ?_); rintro e w7 ⟨ml, rfl, hml, rl, a, k⟩; have D7 := Lib.hid (D6.out.step a k); have RL7 := Lib.hid rl; have NL7 := Lib.hid hml; have RN7 := Lib.hid (fun h => row_keep (RN.out h) k (by have := KC4.out.k; have := D3.out.gh; omega)); have RT7 := Lib.hid (row_keep RT6.out k (by have := MT.out; have := D2.out.gh; omega)); clear x0 x1 x2 x3 x4 x5 x6 hsz a k rl hml; obtain ⟨x0, x1, x2, x3, x4, x5, x6, hbz, hsz⟩ := T.out _ (HZ.out _ D7.out.bel); clear hbz))
        have BX : Hid (w7.drew.heap[w.heap.size + 1]? = some (.cells #[.slice none 0 0, .slice none 0 0, .slice none 0 0, .string ⟨#[]⟩, .int .i64 0] 26)) := Lib.hid (kept ZB.out (bel_drewN D7.out.bel 1))
        have R := Lib.hid (fun w' hb => q.out w' hb)
        go_quiet (fail)
        go_wp2_with (refine wpList_store_row rfl 26 (.tmp 6) (.tmp 74) rfl (w.heap.size + 1) (zc5 none 0 0 none 0 0 none 0 0 ⟨#[]⟩ 0) rfl rfl 26 _ BX.out szZ rfl (zc5_one _ _ _ _ _ _ _ _ _ _ _) ?_)
        refine end_pair Try.results10 _ _ (w.heap.size + 1) _ (zc5 none 0 0 none 0 0 none 0 0 ⟨#[]⟩ 0) _ _ rfl rfl (setRow_heap _ _ _ _ _ _ BX.out) Try.underlying26 szZ rfl ?_
        exact R.out _ (bel_setRow (btr hw0.out (bel_drewN D7.out.bel _)) (Nat.le_succ _) _)
      | true =>
        cases M3 with
        | true =>
          have q := Lib.hid (QY.out (by rw [hdv]; rfl))
          clear QN QY hdv
          go_enter Try.func10, Try.ntmps10
          go_wp2_with
      (first
        | (go_at_call 19; (with_reducible refine (SZ.out _).mono ?_); rintro e w1 ⟨rfl, hb1⟩; have HA1 := Lib.hid hb1; obtain ⟨x0, x1, x2, x3, x4, x5, x6, hbz, hsz⟩ := T.out _ (HZ.out _ hb1); clear hb1 hbz)
        | (go_at_call 24; (with_reducible refine (OP.out _ HA1.out).mono ?_); rintro e w2 ⟨g, rfl, r, hb⟩; have D2 : Hid (Dc ((w.alloc (.cells #[.int .i64 v, .int .i64 (ut : Nat), .int .i64 (sd : Nat), .int .i64 (lp : Nat), .int .i64 (tm : Nat), .int .i64 (ty : Nat), .int .i64 (ch : Nat)] 28)).alloc (.cells #[.slice none 0 0, .slice none 0 0, .slice none 0 0, .string ⟨#[]⟩, .int .i64 0] 26)) w1.heap.size w2.heap.size g l 0 w2) := Lib.hid ⟨r, btr HA1.out hb, HA1.out.size, Nat.le_refl _⟩; clear x0 x1 x2 x3 x4 x5 x6 hsz r hb; obtain ⟨x0, x1, x2, x3, x4, x5, x6, hbz, hsz⟩ := T.out _ (HZ.out _ D2.out.bel); clear hbz)
        | (go_at_call 25; (with_reducible refine (RC.out _ _ _ _ D2.out.at' D2.out.hhi D2.out.gh).mono ?_); rintro e w3 ⟨mt, rfl, hmt, rt, a, k⟩; have D3 := Lib.hid (D2.out.step a k); have MT := Lib.hid hmt; have RT := Lib.hid rt; clear x0 x1 x2 x3 x4 x5 x6 hsz a k rt hmt; obtain ⟨x0, x1, x2, x3, x4, x5, x6, hbz, hsz⟩ := T.out _ (HZ.out _ D3.out.bel); clear hbz)
        | (go_at_call 26; (with_reducible refine (RK.out _ _ _ _ D3.out.at' D3.out.hhi D3.out.gh).mono ?_); rintro e w4 ⟨mk, mp, rfl, kc, rk, rp, a, k⟩; have D4 := Lib.hid (D3.out.step a k); have KC4 := Lib.hid kc; have RK4 := Lib.hid rk; have RP4 := Lib.hid rp; have RT4 := Lib.hid (row_keep RT.out k (by have := MT.out; have := D2.out.gh; omega)); have NT4 : Hid (mt < w3.heap.size) := Lib.hid RT.out.lt; clear x0 x1 x2 x3 x4 x5 x6 hsz a k rk rp kc; obtain ⟨x0, x1, x2, x3, x4, x5, x6, hbz, hsz⟩ := T.out _ (HZ.out _ D4.out.bel); clear hbz)
        | (go_at_call 28; (with_reducible refine (TK.out _ _ _ _ D4.out.at').mono ?_); rintro e w5 ⟨v5, rfl, o5, a, k⟩; have D5 := Lib.hid (D4.out.step a k); have RK5 := Lib.hid (row_keep RK4.out k (by have := KC4.out.k; have := D3.out.gh; omega)); have RP5 := Lib.hid (row_keep RP4.out k (by have := KC4.out.p; have := D3.out.gh; omega)); have RT5 := Lib.hid (row_keep RT4.out k (by have := MT.out; have := D2.out.gh; omega)); have cv := str_of (own_by o5).rd; clear x0 x1 x2 x3 x4 x5 x6 hsz a k o5; obtain ⟨x0, x1, x2, x3, x4, x5, x6, hbz, hsz⟩ := T.out _ (HZ.out _ D5.out.bel); clear hbz)
        | (go_at_call 27; (with_reducible refine (GN.out _ _ _ RK5.out RP5.out KC4.out.ne D5.out.bel (Nat.le_trans D3.out.bel.size KC4.out.k)).mono ?_); rintro e w6 ⟨rfl, k, rn⟩; clear cv; have D6 := Lib.hid (D5.out.other (Nat.le_trans KC4.out.hhi KC4.out.k) k); have RN := Lib.hid rn; have RT6 := Lib.hid (row_keep RT5.out k (by have := KC4.out.k; have := NT4.out; omega)); have NK6 : Hid (mk < w6.heap.size) := Lib.hid (Nat.lt_of_lt_of_le RK5.out.lt k.size); clear x0 x1 x2 x3 x4 x5 x6 hsz k rn; obtain ⟨x0, x1, x2, x3, x4, x5, x6, hbz, hsz⟩ := T.out _ (HZ.out _ D6.out.bel); clear hbz)
        | (go_at_call 29; (with_reducible refine (RL.out _ _ _ _ D6.out.at' D6.out.hhi D6.out.gh).mono ?_); rintro e w7 ⟨ml, rfl, hml, rl, a, k⟩; have D7 := Lib.hid (D6.out.step a k); have RL7 := Lib.hid rl; have NL7 := Lib.hid hml; have RN7 := Lib.hid (fun h => row_keep (RN.out h) k (by have := KC4.out.k; have := D3.out.gh; omega)); have RT7 := Lib.hid (row_keep RT6.out k (by have := MT.out; have := D2.out.gh; omega)); clear x0 x1 x2 x3 x4 x5 x6 hsz a k rl hml; obtain ⟨x0, x1, x2, x3, x4, x5, x6, hbz, hsz⟩ := T.out _ (HZ.out _ D7.out.bel); clear hbz))
          have D8 : Hid (Dc ((w.alloc (.cells #[.int .i64 v, .int .i64 (ut : Nat), .int .i64 (sd : Nat), .int .i64 (lp : Nat), .int .i64 (tm : Nat), .int .i64 (ty : Nat), .int .i64 (ch : Nat)] 28)).alloc (.cells #[.slice none 0 0, .slice none 0 0, .slice none 0 0, .string ⟨#[]⟩, .int .i64 0] 26)) w1.heap.size w2.heap.size g l (s * tm + tm + 6 * ty + ch + (s + 4) * lp) w7.drew) := Lib.hid (D7.out.drew 1)
          have NG : Hid (mk ≠ g ∧ mt ≠ g ∧ ml ≠ g) := Lib.hid ⟨by have := KC4.out.k; have := D3.out.gh; omega, by have := MT.out; have := D2.out.gh; omega, by have := NL7.out; have := D6.out.gh; omega⟩
          have GS : Hid (w.heap.size ≤ mk ∧ w.heap.size ≤ mt ∧ w.heap.size ≤ ml) := Lib.hid ⟨by have := KC4.out.k; have := D3.out.bel.size; omega, by have := MT.out; have := D2.out.bel.size; omega, by have := NL7.out; have := D6.out.bel.size; omega⟩
          have GP : Hid (w.heap.size + 1 < mk ∧ w.heap.size + 1 < mt ∧ w.heap.size + 1 < ml) := Lib.hid ⟨by have := KC4.out.k; have := D3.out.bel.size; omega, by have := MT.out; have := D2.out.bel.size; omega, by have := NL7.out; have := D6.out.bel.size; omega⟩
          have RN8 : Hid (Row w7.drew mk _ _ _) := Lib.hid (RN7.out trivial)
          have RT8 : Hid (Row w7.drew mt _ _ _) := Lib.hid RT7.out
          have RL8 : Hid (Row w7.drew ml _ _ _) := Lib.hid RL7.out
          have HO := Lib.hid (fun w8 w9 v8 (o : Own w7.drew.heap.size w8 v8 (sl l (s * tm + tm + 6 * ty + ch + (s + 4) * lp) sd)) (k : Keep g w8 w9) => ((own_by o).keep k (fun b hb => by have := D8.out.gh; omega)).rd)
          have XB : Hid (∀ W, Below ((w.alloc (.cells #[.int .i64 v, .int .i64 (ut : Nat), .int .i64 (sd : Nat), .int .i64 (lp : Nat), .int .i64 (tm : Nat), .int .i64 (ty : Nat), .int .i64 (ch : Nat)] 28)).alloc (.cells #[.slice none 0 0, .slice none 0 0, .slice none 0 0, .string ⟨#[]⟩, .int .i64 0] 26)).heap.size ((w.alloc (.cells #[.int .i64 v, .int .i64 (ut : Nat), .int .i64 (sd : Nat), .int .i64 (lp : Nat), .int .i64 (tm : Nat), .int .i64 (ty : Nat), .int .i64 (ch : Nat)] 28)).alloc (.cells #[.slice none 0 0, .slice none 0 0, .slice none 0 0, .string ⟨#[]⟩, .int .i64 0] 26)) W → W.cell? ⟨w.heap.size, 0, none⟩ = some (.int .i64 v) ∧ W.cell? ⟨w.heap.size, 1, none⟩ = some (.int .i64 (ut : Nat)) ∧ W.cell? ⟨w.heap.size, 2, none⟩ = some (.int .i64 (sd : Nat)) ∧ Below w.heap.size w W ∧ W.heap[w.heap.size + 1]? = some (.cells #[.slice none 0 0, .slice none 0 0, .slice none 0 0, .string ⟨#[]⟩, .int .i64 0] 26)) := Lib.hid fun W hb => by
            obtain ⟨x0, x1, x2, _⟩ := T.out _ (HZ.out _ hb)
            exact ⟨x0, x1, x2, btr hw0.out hb, kept ZB.out hb⟩
          clear RN7 RT7 RL7 D7 RC RK TK GN RL OP SZ T HZ ZB hw0 D2 D3 D4 D5 D6 HA1 MT RT RT4 RT5 RT6 KC4 RK4 RP4 RK5 RP5 NT4 NL7 NK6 RN hl0 hl1 x3 x4 x5 x6 hsz hS hs0 hty
          generalize ((w.alloc (.cells #[.int .i64 v, .int .i64 (ut : Nat), .int .i64 (sd : Nat), .int .i64 (lp : Nat), .int .i64 (tm : Nat), .int .i64 (ty : Nat), .int .i64 (ch : Nat)] 28)).alloc (.cells #[.slice none 0 0, .slice none 0 0, .slice none 0 0, .string ⟨#[]⟩, .int .i64 0] 26)) = W0 at *
          generalize w.heap.size = N at *
          have s0 : w7.drew.cell? ⟨N, 1, none⟩ = some (.int .i64 (ut : Nat)) ∧ w7.drew.cell? ⟨N, 2, none⟩ = some (.int .i64 (sd : Nat)) := ⟨x1, x2⟩
          clear x0 x1 x2
          go_region_held3 (fun w' => w'.cell? ⟨N, 1, none⟩ = some (.int .i64 (ut : Nat)) ∧ w'.cell? ⟨N, 2, none⟩ = some (.int .i64 (sd : Nat))) (first | exact s0 | exact s1 | exact s2)
            (first
            | (go_at_call 28; (with_reducible refine (TS.out _ _ w7.drew _ D8.out.at').mono ?_); rintro e w8 ⟨v8, rfl, o8, a, k⟩; have D9 := Lib.hid (D8.out.step a k); have O8 := Lib.hid o8; have RN9 := Lib.hid (row_keep RN8.out k NG.out.1); have RT9 := Lib.hid (row_keep RT8.out k NG.out.2.1); have RL9 := Lib.hid (row_keep RL8.out k NG.out.2.2); have s1 := And.intro (XB.out _ D9.out.bel).2.1 (XB.out _ D9.out.bel).2.2.1; clear a k o8)
            | (go_at_call 30; (with_reducible refine (AM.out _ _ _ R8.out (own_by O9.out).rd).mono ?_); rintro e w10 ⟨rfl, rfl⟩)
            | (go_at_call 28; (with_reducible refine (TU.out _ _ _ _ D9.out.at').mono ?_); rintro e w9 ⟨v9, rfl, o9, a, k⟩; have D10 := Lib.hid (D9.out.step a k); have R8 := Lib.hid (HO.out _ _ _ O8.out k); have O9 := Lib.hid o9; have BX : Hid (w9.heap[N + 1]? = some (.cells #[.slice none 0 0, .slice none 0 0, .slice none 0 0, .string ⟨#[]⟩, .int .i64 0] 26)) := Lib.hid (XB.out _ D10.out.bel).2.2.2.2; have x0 := (XB.out _ D10.out.bel).1; have FIN := Lib.hid (fun c => q.out _ _ _ _ (row_set (row_keep RN9.out k NG.out.1) (Nat.ne_of_gt GP.out.1) c) (row_set (row_keep RT9.out k NG.out.2.1) (Nat.ne_of_gt GP.out.2.1) c) (row_set (row_keep RL9.out k NG.out.2.2) (Nat.ne_of_gt GP.out.2.2) c) GS.out.1 GS.out.2.1 GS.out.2.2 (bel_setRow (XB.out _ D10.out.bel).2.2.2.1 (Nat.le_succ _) c)); have s2 := And.intro (XB.out _ D10.out.bel).2.1 (XB.out _ D10.out.bel).2.2.1; clear a k o9))
          all_goals
            go_wp2_with (refine wpList_store_row rfl 26 (.tmp 6) (.tmp 80) rfl (N + 1) (zc5 (some ⟨mk, 0, none⟩) ty ty (some ⟨mt, 0, none⟩) tm tm (some ⟨ml, 0, none⟩) lp lp ⟨#[]⟩ v) rfl rfl 26 _ BX.out szZ rfl (zc5_one _ _ _ _ _ _ _ _ _ _ _) ?_)
            refine end_pair Try.results10 _ _ (N + 1) _ (zc5 (some ⟨mk, 0, none⟩) ty ty (some ⟨mt, 0, none⟩) tm tm (some ⟨ml, 0, none⟩) lp lp ⟨#[]⟩ v) _ _ rfl rfl (setRow_heap _ _ _ _ _ _ BX.out) Try.underlying26 szZ rfl ?_
            exact FIN.out _
        | false =>
          have q := Lib.hid (QN.out (by rw [hdv]; rfl))
          clear QN QY hdv
          go_enter Try.func10, Try.ntmps10
          go_wp2_with
      (first
        | (go_at_call 19; (with_reducible refine (SZ.out _).mono ?_); rintro e w1 ⟨rfl, hb1⟩; have HA1 := Lib.hid hb1; obtain ⟨x0, x1, x2, x3, x4, x5, x6, hbz, hsz⟩ := T.out _ (HZ.out _ hb1); clear hb1 hbz)
        | (go_at_call 24; (with_reducible refine (OP.out _ HA1.out).mono ?_); rintro e w2 ⟨g, rfl, r, hb⟩; have D2 : Hid (Dc ((w.alloc (.cells #[.int .i64 v, .int .i64 (ut : Nat), .int .i64 (sd : Nat), .int .i64 (lp : Nat), .int .i64 (tm : Nat), .int .i64 (ty : Nat), .int .i64 (ch : Nat)] 28)).alloc (.cells #[.slice none 0 0, .slice none 0 0, .slice none 0 0, .string ⟨#[]⟩, .int .i64 0] 26)) w1.heap.size w2.heap.size g l 0 w2) := Lib.hid ⟨r, btr HA1.out hb, HA1.out.size, Nat.le_refl _⟩; clear x0 x1 x2 x3 x4 x5 x6 hsz r hb; obtain ⟨x0, x1, x2, x3, x4, x5, x6, hbz, hsz⟩ := T.out _ (HZ.out _ D2.out.bel); clear hbz)
        | (go_at_call 25; (with_reducible refine (RC.out _ _ _ _ D2.out.at' D2.out.hhi D2.out.gh).mono ?_); rintro e w3 ⟨mt, rfl, hmt, rt, a, k⟩; have D3 := Lib.hid (D2.out.step a k); have MT := Lib.hid hmt; have RT := Lib.hid rt; clear x0 x1 x2 x3 x4 x5 x6 hsz a k rt hmt; obtain ⟨x0, x1, x2, x3, x4, x5, x6, hbz, hsz⟩ := T.out _ (HZ.out _ D3.out.bel); clear hbz)
        | (go_at_call 26; (with_reducible refine (RK.out _ _ _ _ D3.out.at' D3.out.hhi D3.out.gh).mono ?_); rintro e w4 ⟨mk, mp, rfl, kc, rk, rp, a, k⟩; have D4 := Lib.hid (D3.out.step a k); have KC4 := Lib.hid kc; have RK4 := Lib.hid rk; have RP4 := Lib.hid rp; have RT4 := Lib.hid (row_keep RT.out k (by have := MT.out; have := D2.out.gh; omega)); have NT4 : Hid (mt < w3.heap.size) := Lib.hid RT.out.lt; clear x0 x1 x2 x3 x4 x5 x6 hsz a k rk rp kc; obtain ⟨x0, x1, x2, x3, x4, x5, x6, hbz, hsz⟩ := T.out _ (HZ.out _ D4.out.bel); clear hbz)
        | (go_at_call 28; (with_reducible refine (TK.out _ _ _ _ D4.out.at').mono ?_); rintro e w5 ⟨v5, rfl, o5, a, k⟩; have D5 := Lib.hid (D4.out.step a k); have RK5 := Lib.hid (row_keep RK4.out k (by have := KC4.out.k; have := D3.out.gh; omega)); have RP5 := Lib.hid (row_keep RP4.out k (by have := KC4.out.p; have := D3.out.gh; omega)); have RT5 := Lib.hid (row_keep RT4.out k (by have := MT.out; have := D2.out.gh; omega)); have cv := str_of (own_by o5).rd; clear x0 x1 x2 x3 x4 x5 x6 hsz a k o5; obtain ⟨x0, x1, x2, x3, x4, x5, x6, hbz, hsz⟩ := T.out _ (HZ.out _ D5.out.bel); clear hbz)
        | (go_at_call 27; (with_reducible refine (GN.out _ _ _ RK5.out RP5.out KC4.out.ne D5.out.bel (Nat.le_trans D3.out.bel.size KC4.out.k)).mono ?_); rintro e w6 ⟨rfl, k, rn⟩; clear cv; have D6 := Lib.hid (D5.out.other (Nat.le_trans KC4.out.hhi KC4.out.k) k); have RN := Lib.hid rn; have RT6 := Lib.hid (row_keep RT5.out k (by have := KC4.out.k; have := NT4.out; omega)); have NK6 : Hid (mk < w6.heap.size) := Lib.hid (Nat.lt_of_lt_of_le RK5.out.lt k.size); clear x0 x1 x2 x3 x4 x5 x6 hsz k rn; obtain ⟨x0, x1, x2, x3, x4, x5, x6, hbz, hsz⟩ := T.out _ (HZ.out _ D6.out.bel); clear hbz)
        | (go_at_call 29; (with_reducible refine (RL.out _ _ _ _ D6.out.at' D6.out.hhi D6.out.gh).mono ?_); rintro e w7 ⟨ml, rfl, hml, rl, a, k⟩; have D7 := Lib.hid (D6.out.step a k); have RL7 := Lib.hid rl; have NL7 := Lib.hid hml; have RN7 := Lib.hid (fun h => row_keep (RN.out h) k (by have := KC4.out.k; have := D3.out.gh; omega)); have RT7 := Lib.hid (row_keep RT6.out k (by have := MT.out; have := D2.out.gh; omega)); clear x0 x1 x2 x3 x4 x5 x6 hsz a k rl hml; obtain ⟨x0, x1, x2, x3, x4, x5, x6, hbz, hsz⟩ := T.out _ (HZ.out _ D7.out.bel); clear hbz))
          have D8 : Hid (Dc ((w.alloc (.cells #[.int .i64 v, .int .i64 (ut : Nat), .int .i64 (sd : Nat), .int .i64 (lp : Nat), .int .i64 (tm : Nat), .int .i64 (ty : Nat), .int .i64 (ch : Nat)] 28)).alloc (.cells #[.slice none 0 0, .slice none 0 0, .slice none 0 0, .string ⟨#[]⟩, .int .i64 0] 26)) w1.heap.size w2.heap.size g l (s * tm + tm + 6 * ty + ch + (s + 4) * lp) w7.drew) := Lib.hid (D7.out.drew 1)
          have NG : Hid (mk ≠ g ∧ mt ≠ g ∧ ml ≠ g) := Lib.hid ⟨by have := KC4.out.k; have := D3.out.gh; omega, by have := MT.out; have := D2.out.gh; omega, by have := NL7.out; have := D6.out.gh; omega⟩
          have GS : Hid (w.heap.size ≤ mk ∧ w.heap.size ≤ mt ∧ w.heap.size ≤ ml) := Lib.hid ⟨by have := KC4.out.k; have := D3.out.bel.size; omega, by have := MT.out; have := D2.out.bel.size; omega, by have := NL7.out; have := D6.out.bel.size; omega⟩
          have GP : Hid (w.heap.size + 1 < mk ∧ w.heap.size + 1 < mt ∧ w.heap.size + 1 < ml) := Lib.hid ⟨by have := KC4.out.k; have := D3.out.bel.size; omega, by have := MT.out; have := D2.out.bel.size; omega, by have := NL7.out; have := D6.out.bel.size; omega⟩
          have RN8 : Hid (Row w7.drew mk _ _ _) := Lib.hid (RN7.out trivial)
          have RT8 : Hid (Row w7.drew mt _ _ _) := Lib.hid RT7.out
          have RL8 : Hid (Row w7.drew ml _ _ _) := Lib.hid RL7.out
          have HO := Lib.hid (fun w8 w9 v8 (o : Own w7.drew.heap.size w8 v8 (sl l (s * tm + tm + 6 * ty + ch + (s + 4) * lp) sd)) (k : Keep g w8 w9) => ((own_by o).keep k (fun b hb => by have := D8.out.gh; omega)).rd)
          have XB : Hid (∀ W, Below ((w.alloc (.cells #[.int .i64 v, .int .i64 (ut : Nat), .int .i64 (sd : Nat), .int .i64 (lp : Nat), .int .i64 (tm : Nat), .int .i64 (ty : Nat), .int .i64 (ch : Nat)] 28)).alloc (.cells #[.slice none 0 0, .slice none 0 0, .slice none 0 0, .string ⟨#[]⟩, .int .i64 0] 26)).heap.size ((w.alloc (.cells #[.int .i64 v, .int .i64 (ut : Nat), .int .i64 (sd : Nat), .int .i64 (lp : Nat), .int .i64 (tm : Nat), .int .i64 (ty : Nat), .int .i64 (ch : Nat)] 28)).alloc (.cells #[.slice none 0 0, .slice none 0 0, .slice none 0 0, .string ⟨#[]⟩, .int .i64 0] 26)) W → W.cell? ⟨w.heap.size, 0, none⟩ = some (.int .i64 v) ∧ W.cell? ⟨w.heap.size, 1, none⟩ = some (.int .i64 (ut : Nat)) ∧ W.cell? ⟨w.heap.size, 2, none⟩ = some (.int .i64 (sd : Nat)) ∧ Below w.heap.size w W ∧ W.heap[w.heap.size + 1]? = some (.cells #[.slice none 0 0, .slice none 0 0, .slice none 0 0, .string ⟨#[]⟩, .int .i64 0] 26)) := Lib.hid fun W hb => by
            obtain ⟨x0, x1, x2, _⟩ := T.out _ (HZ.out _ hb)
            exact ⟨x0, x1, x2, btr hw0.out hb, kept ZB.out hb⟩
          clear RN7 RT7 RL7 D7 RC RK TK GN RL OP SZ T HZ ZB hw0 D2 D3 D4 D5 D6 HA1 MT RT RT4 RT5 RT6 KC4 RK4 RP4 RK5 RP5 NT4 NL7 NK6 RN hl0 hl1 x3 x4 x5 x6 hsz hS hs0 hty
          generalize ((w.alloc (.cells #[.int .i64 v, .int .i64 (ut : Nat), .int .i64 (sd : Nat), .int .i64 (lp : Nat), .int .i64 (tm : Nat), .int .i64 (ty : Nat), .int .i64 (ch : Nat)] 28)).alloc (.cells #[.slice none 0 0, .slice none 0 0, .slice none 0 0, .string ⟨#[]⟩, .int .i64 0] 26)) = W0 at *
          generalize w.heap.size = N at *
          have s0 : w7.drew.cell? ⟨N, 1, none⟩ = some (.int .i64 (ut : Nat)) ∧ w7.drew.cell? ⟨N, 2, none⟩ = some (.int .i64 (sd : Nat)) := ⟨x1, x2⟩
          clear x0 x1 x2
          go_region_held3 (fun w' => w'.cell? ⟨N, 1, none⟩ = some (.int .i64 (ut : Nat)) ∧ w'.cell? ⟨N, 2, none⟩ = some (.int .i64 (sd : Nat))) (first | exact s0 | exact s1 | exact s2)
            (first
            | (go_at_call 28; (with_reducible refine (TS.out _ _ w7.drew _ D8.out.at').mono ?_); rintro e w8 ⟨v8, rfl, o8, a, k⟩; have D9 := Lib.hid (D8.out.step a k); have O8 := Lib.hid o8; have RN9 := Lib.hid (row_keep RN8.out k NG.out.1); have RT9 := Lib.hid (row_keep RT8.out k NG.out.2.1); have RL9 := Lib.hid (row_keep RL8.out k NG.out.2.2); have s1 := And.intro (XB.out _ D9.out.bel).2.1 (XB.out _ D9.out.bel).2.2.1; clear a k o8)
            | (go_at_call 30; (with_reducible refine (AM.out _ _ _ R8.out (own_by O9.out).rd).mono ?_); rintro e w10 ⟨rfl, rfl⟩)
            | (go_at_call 28; (with_reducible refine (TU.out _ _ _ _ D9.out.at').mono ?_); rintro e w9 ⟨v9, rfl, o9, a, k⟩; have D10 := Lib.hid (D9.out.step a k); have R8 := Lib.hid (HO.out _ _ _ O8.out k); have O9 := Lib.hid o9; have BX : Hid (w9.heap[N + 1]? = some (.cells #[.slice none 0 0, .slice none 0 0, .slice none 0 0, .string ⟨#[]⟩, .int .i64 0] 26)) := Lib.hid (XB.out _ D10.out.bel).2.2.2.2; have x0 := (XB.out _ D10.out.bel).1; have FIN := Lib.hid (fun c => q.out _ (bel_setRow (XB.out _ D10.out.bel).2.2.2.1 (Nat.le_succ _) c)); have s2 := And.intro (XB.out _ D10.out.bel).2.1 (XB.out _ D10.out.bel).2.2.1; clear a k o9))
          all_goals
            go_wp2_with (refine wpList_store_row rfl 26 (.tmp 6) (.tmp 74) rfl (N + 1) (zc5 none 0 0 none 0 0 none 0 0 ⟨#[]⟩ 0) rfl rfl 26 _ BX.out szZ rfl (zc5_one _ _ _ _ _ _ _ _ _ _ _) ?_)
            refine end_pair Try.results10 _ _ (N + 1) _ (zc5 none 0 0 none 0 0 none 0 0 ⟨#[]⟩ 0) _ _ rfl rfl (setRow_heap _ _ _ _ _ _ BX.out) Try.underlying26 szZ rfl ?_
            exact FIN.out _
  · have hk' : lenB h l s = false := by simpa using hk
    have hdv : dv h l s = false := by unfold dv; rw [hk']; rfl
    have QN := Lib.hid (fun w' hb => dtold_no (h := h) (l := l) (s := s) (w := w) (w' := w') hdv hb)
    by_cases h0 : hd.sz h s = 0
    · rw [h0] at SZ
      clear hk hk' hdv h0 hb hn TM hl T HZ hs0
      obtain ⟨v, ut, sd, lp, tm, ty, ch⟩ := h
      simp only at *
      · go_enter Try.func10, Try.ntmps10
        go_wp2_with (first
          | (go_at_call 19; (with_reducible refine (SZ.out _).mono ?_); rintro e w1 ⟨rfl, hb1⟩; have BX : Hid (w1.heap[w.heap.size + 1]? = some (.cells #[.slice none 0 0, .slice none 0 0, .slice none 0 0, .string ⟨#[]⟩, .int .i64 0] 26)) := Lib.hid (kept ZB.out hb1); have HB1 := Lib.hid (btr hw0.out hb1); clear hb1)
          | (refine wpList_store_row rfl 26 (.tmp 6) (.tmp 27) rfl (w.heap.size + 1) (zc5 none 0 0 none 0 0 none 0 0 ⟨#[]⟩ 0) rfl rfl 26 _ BX.out szZ rfl (zc5_one _ _ _ _ _ _ _ _ _ _ _) ?_))
        refine end_pair Try.results10 _ _ (w.heap.size + 1) _ (zc5 none 0 0 none 0 0 none 0 0 ⟨#[]⟩ 0) _ _ rfl rfl (setRow_heap _ _ _ _ _ _ BX.out) Try.underlying26 szZ rfl ?_
        exact QN.out _ (bel_setRow HB1.out (Nat.le_succ _) _)
    · have q0 : (hd.sz h s == 0) = false := beq_eq_false_iff_ne.2 h0
      have q1 : ((l.length : Int) != hd.sz h s) = true := by
        rw [bne_iff_ne]
        intro e
        apply hk
        unfold lenB
        rw [Bool.and_eq_true, beq_iff_eq]
        refine ⟨?_, e⟩
        rcases hq : hd.szOk h s with _ | _
        · exact absurd (hd.sz_no hq) h0
        · rfl
      clear hk hk' hdv h0 hb hn TM hl T HZ hs0
      generalize hd.sz h s = Z at *
      obtain ⟨v, ut, sd, lp, tm, ty, ch⟩ := h
      simp only at *
      · go_enter Try.func10, Try.ntmps10
        go_wp2_with (first
          | (go_at_call 19; (with_reducible refine (SZ.out _).mono ?_); rintro e w1 ⟨rfl, hb1⟩; have BX : Hid (w1.heap[w.heap.size + 1]? = some (.cells #[.slice none 0 0, .slice none 0 0, .slice none 0 0, .string ⟨#[]⟩, .int .i64 0] 26)) := Lib.hid (kept ZB.out hb1); have HB1 := Lib.hid (btr hw0.out hb1); clear hb1)
          | (refine wpList_store_row rfl 26 (.tmp 6) (.tmp 27) rfl (w.heap.size + 1) (zc5 none 0 0 none 0 0 none 0 0 ⟨#[]⟩ 0) rfl rfl 26 _ BX.out szZ rfl (zc5_one _ _ _ _ _ _ _ _ _ _ _) ?_))
        refine end_pair Try.results10 _ _ (w.heap.size + 1) _ (zc5 none 0 0 none 0 0 none 0 0 ⟨#[]⟩ 0) _ _ rfl rfl (setRow_heap _ _ _ _ _ _ BX.out) Try.underlying26 szZ rfl ?_
        exact QN.out _ (bel_setRow HB1.out (Nat.le_succ _) _)
end Go.Proofs.Ytllficloadncfaa.blk
