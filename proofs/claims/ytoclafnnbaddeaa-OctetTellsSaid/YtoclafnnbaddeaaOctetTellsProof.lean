/-
  OctetTells: numbers that are laid, and what is read, call by call, are what the document's own answers say, for any bytes, any number, any size and any calls. No condition.
-/
import Derived.Test.YtoclafnnbaddeaaRef13Num
import Derived.BigQuiet
import Derived.Deep.RegionWith
import Derived.BigRegion
namespace Go.Proofs.Ytoclafnnbaddeaa.octetTells
open Go.ChangeShapes Go.WideShapes Go.ChangeAt Go.RowKit
open om mem oct
set_option linter.unusedVariables false
set_option maxRecDepth 100000

theorem below_drew (W : World) : Below W.heap.size W W.drew := bel_drewN (Below.refl _ _) 1
theorem own_keepG {base g : Nat} {W W' : World} {v : Value} {l : List Nat} (h : Own base W v l) (hk : Keep g W W') (hg : g < base) : Own base W' v l := by
  refine ⟨h.1, ?_⟩
  rcases h.2 with ⟨rfl, hn⟩ | ⟨g', cap, cur, rfl, hbs, hh, r⟩
  · exact Or.inl ⟨rfl, hn⟩
  · refine Or.inr ⟨g', cap, cur, rfl, hbs, ?_, r⟩
    rw [hk.block g' (hp_lt hh) (by omega)]
    exact hh
theorem rdr_low {T : TypeId} {lo hi base : Nat} {W W' : World} {g : Nat} {l : List Nat} {f : Bool} (h : Rdr T lo hi W g l f) (hb : Below base W W') (hh : hi ≤ base) : Rdr T lo hi W' g l f := by
  obtain ⟨h1, h2, v, h3, h4⟩ := h
  refine ⟨h1, h2, v, ?_, h4.imp (fun b hb => hb) fun b o x hp hx => ?_⟩
  · rw [hb.block g (by omega)]; exact h3
  · rw [World.cell?_of_block (w := W) (hb.block b (by omega))]; exact hx
theorem acB_low {M base : Nat} {w W : World} {A : Option Addr} {l : List Ac} (h : AcB M w A l) (hb : Below base w W) (hM : M ≤ base) : AcB M W A l := by
  intro hl
  obtain ⟨b, o, e, hlt, hc⟩ := h hl
  refine ⟨b, o, e, hlt, fun k hk => ?_⟩
  obtain ⟨h1, h2⟩ := hc k hk
  rw [World.cell?_of_block (w := w) (a := ⟨b, o + k * 2, none⟩) (hb.block b (by omega)), World.cell?_of_block (w := w) (a := ⟨b, o + k * 2 + 1, none⟩) (hb.block b (by omega))]
  exact ⟨h1, h2⟩
/-- where what is handed in a copy lies. -/
theorem in_block {base : Nat} {W : World} {A : Option Addr} {l : List Nat} {c : Nat} (h : Own base W (.slice A l.length c) l) (hb : base < W.heap.size) :
    ∃ gi, base ≤ gi ∧ gi < W.heap.size ∧ (l ≠ [] → A = some ⟨gi, 0, none⟩ ∧ ∃ cur, W.heap[gi]? = some (.cells cur 5) ∧ l.length ≤ cur.size) := by
  rcases h.2 with ⟨e, hn⟩ | ⟨g, cap, cur, e, hbs, hh, hnc, _, hcs, _⟩
  · exact ⟨base, Nat.le_refl _, hb, fun hl => absurd (List.eq_nil_of_length_eq_zero hn) hl⟩
  · cases e
    exact ⟨g, hbs, hp_lt hh, fun _ => ⟨rfl, cur, hh, by omega⟩⟩
def IHead (l : List Nat) (gi : Nat) (W0 : World) (i : Value) (W : World) : Prop :=
  ∃ k : Nat, k ≤ l.length ∧ i = .int .i64 (k : Nat) ∧ Keep gi W0 W ∧ (l ≠ [] → ∃ cur, W.heap[gi]? = some (.cells cur 5) ∧ l.length ≤ cur.size)
def THead (m : List Ac) (Aa : Option Addr) (lo1 hi1 g1 lo2 hi2 g2 : Nat) (w : World) (i : Value) (W : World) : Prop :=
  ∃ (k : Nat) (l : List Nat) (f : Bool), k ≤ m.length ∧ i = .int .i64 (k : Nat) ∧ Rdr 44 lo1 hi1 W g1 l f ∧ Rdr 46 lo2 hi2 W g2 l f ∧ (f = true → l = []) ∧ Bys l ∧ l.length ≤ 500 ∧ AcB w.heap.size W Aa m ∧ hi2 ≤ W.heap.size ∧ Below w.heap.size w W
theorem fl_rst {n : Int} {l : List Nat} {f : Bool} (h : f = true → l = []) : fl n l f = true → rst n l = [] := by
  unfold fl rst
  split
  · intro e; rw [h e]; simp
  · intro _; rfl
theorem str_at {base : Nat} {W : World} {v : Value} {l : List Nat} (h : Own base W v l) : (convert 22 9 v).run Try.prog W = .ok (.string (strN l)) W := str_of (own_by h).rd
set_option maxHeartbeats 16000000 in
set_option maxRecDepth 100000 in
theorem walk (w : World) (l : List Nat) (v : Value) (hr : RdW w v l) (hby : Bys l) (hlen : l.length ≤ 9223372036854775807) (n : Int) (hn : -9223372036854775808 ≤ n ∧ n ≤ 9223372036854775807) (z : Int) (hz : -9223372036854775808 ≤ z ∧ z ≤ 9223372036854775807)
    (m : List Ac) (Aa : Option Addr) (ca : Nat) (hm : Acs w Aa m) (hmn : m.length ≤ 9223372036854775807) (hI : I64s m) : Calls Try.prog 3 #[v, .int .i64 n, .int .i64 z, .slice Aa m.length ca] w fun e w' => e = .returned (.bool true) ∧ Below w.heap.size w w' := by
  have SM := Lib.hid (small_at w)
  obtain ⟨A, cap, e, hc, y1, y2⟩ := id hr
  clear y1 y2
  subst e
  by_cases hbig : 500 < l.length
  · clear hr hby hn hz hm hI
    go_enter Try.func3, Try.ntmps3
    go_wp2_with (go_at_call 9; (with_reducible refine SM.out.mono ?_); rintro e w1 ⟨rfl, hb1⟩; have H1 := Lib.hid hb1; clear hb1)
    go_ret
    exact ⟨rfl, H1.out⟩
  by_cases hbig2 : 100 < m.length
  · clear hr hby hn hz hm hI
    have hb' : l.length ≤ 500 := by omega
    clear hbig
    go_enter Try.func3, Try.ntmps3
    go_wp2_with (go_at_call 9; (with_reducible refine SM.out.mono ?_); rintro e w1 ⟨rfl, hb1⟩; have H1 := Lib.hid hb1; clear hb1)
    go_ret
    exact ⟨rfl, H1.out⟩
  have hl5 : l.length ≤ 500 := by omega
  have hm1 : m.length ≤ 100 := by omega
  clear hbig hbig2 hlen hmn
  have HR := Lib.hid hr
  have HL := Lib.hid hl5
  have HBY := Lib.hid hby
  have HI := Lib.hid hI
  have HM := Lib.hid hm
  have PA := Lib.hid (fun v W (h : RdW W v l) => put_at l v n z W hn hz h (by omega))
  have PR := Lib.hid (fun v W (h : RdW W v l) => ref13.put_at l v n z W hn hz h (by omega))
  have OA := Lib.hid (fun v W (h : RdW W v l) => oct.open_at l v W h (by omega))
  have ORR := Lib.hid (fun v W (h : RdW W v l) => ref13.open_at l v W h (by omega))
  have CS := Lib.hid (fun base W v (h : Own base W v (put l n z)) => str_at h)
  generalize strN (put l n z) = s0 at *
  unfold PutTold at PA PR
  generalize put l n z = P1 at *
  generalize fitB n z = fb at *
  clear hr hby hI hm hc
  go_enter Try.func3, Try.ntmps3
  go_wp2_with (first
    | (go_at_call 9; (with_reducible refine SM.out.mono ?_); rintro e w1 ⟨rfl, hb1⟩; have H1 := Lib.hid hb1; clear hb1)
    | (at_builtin; refine app_any rfl _ _ rfl w1.heap.size (w1.alloc (.cells #[] 5)) (.slice (some ⟨w1.heap.size, 0, none⟩) 0 0) (.slice A l.length cap) [] l rfl rfl (ref13.own_empty w1) ((HR.out.below H1.out).below (bal (Below.refl _ _) _)) (by have := HL.out; simp; omega) (by simp) ?_; intro v2 w2 ho2 hg2; rw [List.nil_append] at ho2; have HW := Lib.hid (show w1.heap.size < w2.heap.size from Nat.lt_of_lt_of_le (by simp) hg2.size); have H2 := Lib.hid (btr H1.out (own_below (ref13.own_empty w1) (bal (Below.refl _ _) _) (by simp) hg2)); have HO2 := Lib.hid ho2; obtain ⟨Ai, ci, rfl⟩ := own_len HO2.out; clear ho2 hg2)
    | (go_at_call 10; (with_reducible refine (PA.out _ _ (own_by HO2.out).rd).mono ?_); rintro e w3 ⟨v3, rfl, ho3, hb3⟩; have H3 := Lib.hid (btr H2.out hb3); have HO3 := Lib.hid ho3; have HI3 := Lib.hid (own_kept HO2.out hb3); have HZ3 := Lib.hid hb3.size; clear ho3 hb3 PA)
    | (go_at_call 11; (with_reducible refine (PR.out _ _ (HR.out.below H3.out)).mono ?_); rintro e w4 ⟨v4, rfl, ho4, hb4⟩; have H4 := Lib.hid (btr H3.out hb4); have HX3 := Lib.hid (own_kept HO3.out hb4); have HO4 := Lib.hid ho4; have HI4 := Lib.hid (own_kept HI3.out hb4); have HZ4 := Lib.hid (Nat.le_trans HZ3.out hb4.size); clear ho4 hb4 PR)
    | (go_at_call 12; (with_reducible refine (OA.out _ _ (own_by HI4.out).rd).mono ?_); rintro e w5 ⟨g1, rfl, r5, hb5⟩; have H5 := Lib.hid (btr H4.out hb5); have HX5 := Lib.hid (own_kept HX3.out hb5); have HO5 := Lib.hid (own_kept HO4.out hb5); have HI5 := Lib.hid (own_kept HI4.out hb5); have R5 := Lib.hid r5; have HZ45 := Lib.hid hb5.size; have HZ5 := Lib.hid (Nat.le_trans HZ4.out hb5.size); clear r5 hb5 OA)
    | (go_at_call 13; (with_reducible refine (ORR.out _ _ (HR.out.below H5.out)).mono ?_); rintro e w6 ⟨g2, rfl, r6, hb6⟩; have H6 := Lib.hid (btr H5.out hb6); have q3 := CS.out _ _ _ (own_kept HX5.out hb6); have q4 := CS.out _ _ _ (own_kept HO5.out hb6); have HI6 := Lib.hid (own_kept HI5.out hb6); have R6 := Lib.hid r6; have Q6 := Lib.hid (R5.out.below hb6); have HZ56 := Lib.hid hb6.size; have HZ6 := Lib.hid (Nat.le_trans HZ5.out hb6.size); clear r6 hb6 ORR CS))
  obtain ⟨gi, hi1, hi2, hi3⟩ := in_block HI4.out (Nat.lt_of_lt_of_le HW.out HZ4.out)
  have hiW : gi < w2.heap.size ∨ True := Or.inr trivial
  have GLO := Lib.hid hi1
  have GHI : Hid (gi < w4.heap.size) := Lib.hid hi2
  have IB : Hid (l ≠ [] → Ai = some ⟨gi, 0, none⟩ ∧ ∃ cur, w6.heap[gi]? = some (.cells cur 5) ∧ l.length ≤ cur.size) := Lib.hid (by
    intro hl
    obtain ⟨e, _⟩ := hi3 hl
    obtain ⟨gj, _, _, h6⟩ := in_block HI6.out (Nat.lt_of_lt_of_le HW.out HZ6.out)
    obtain ⟨e2, c⟩ := h6 hl
    have : gj = gi := by rw [e] at e2; simpa using e2.symm
    subst this
    exact ⟨e, c⟩)
  clear hi1 hi2 hi3 hiW
  clear q3 q4
  go_loopw [17] (fun i W => IHead l gi w6 i W) (fun i _ => l.length - (intOf i).toNat)
  case atStart => exact ⟨0, Nat.zero_le _, rfl, Keep.refl _ _, fun hl => (IB.out hl).2⟩
  case round =>
    obtain ⟨k, hk, rfl, hkp, hcur⟩ := hrel
    have l5 := HL.out
    by_cases hlt : k < l.length
    · have hne : l ≠ [] := List.ne_nil_of_length_pos (by omega)
      obtain ⟨eA, _⟩ := IB.out hne
      subst eA
      obtain ⟨cur, hg, hsz⟩ := hcur hne
      have c0 : wr.cell? ⟨gi, k, none⟩ = some (cur[k]'(by omega)) := (row_cell hg k).trans (Array.getElem?_eq_getElem _)
      have f0 := fz hg k
      have RN : Hid (IHead l gi w6 (.int .i64 ((k : Int) + 1)) (wr.setCell ⟨gi, k, none⟩ (.int .u8 7))) := Lib.hid ⟨k + 1, by omega, rfl, hkp.setCell k _, fun _ => ⟨_, heap_setCell_same wr gi k _ _ _ hg, by simpa using hsz⟩⟩
      generalize cur[k]'(by omega) = old at *
      clear hcur hkp hg hsz IB HI6 HI4 HI5 HI3 HO2
      go_wp2
      exact ⟨RN.out, by simp [intOf]; omega⟩
    · obtain rfl : k = l.length := by omega
      have RA := Lib.hid (Q6.out.keep hkp (Or.inl GHI.out))
      have RB := Lib.hid (R6.out.keep hkp (Or.inl (Nat.lt_of_lt_of_le GHI.out HZ45.out)))
      have HL1 := Lib.hid Q6.out.2.1
      have HA := Lib.hid ((HM.out.acB.below H6.out).keep hkp (Nat.le_trans H1.out.size GLO.out))
      have H7 := Lib.hid (hkp.to_below H6.out (Nat.le_trans H1.out.size GLO.out) H6.out.size)
      have HS7 := Lib.hid hkp.size
      have X4 := Lib.hid H4.out.size
      have LW : Hid (w4.heap.size ≤ wr.heap.size) := Lib.hid (Nat.le_trans (Nat.le_trans HZ45.out HZ56.out) hkp.size)
      clear hcur hkp IB HI6 HI4 HI5 HI3 HO2 HM HR H1 H2 H3 H5 H6 HO3 HX3 HX5 HO4 HO5 R5 R6 Q6
      generalize hlo1 : w4.heap.size = lo1 at *
      generalize hlo2 : w5.heap.size = lo2 at *
      generalize hhi2 : w6.heap.size = up2 at *
      clear hlo1 hlo2 hhi2
      have HMW : Hid (w.heap.size ≤ lo1) := X4
      clear X4
      go_wp2
      go_loopw [18] (fun i W => THead m Aa lo1 lo2 g1 lo2 up2 g2 w i W) (fun i _ => m.length - (intOf i).toNat)
      case atStart => exact ⟨0, l, false, Nat.zero_le _, rfl, RA.out, RB.out, (fun h => by cases h), HBY.out, HL.out, HA.out, HS7.out, H7.out⟩
      case round =>
        obtain ⟨k, r, f, hk, rfl, ra, rb, hf, hrb, hr5, hac, hw2, hb⟩ := hrel
        clear RA RB HA H7 HS7 LW l5 hk HBY HL
        by_cases hlt : k < m.length
        · obtain ⟨bb, oo, ea, hb0, hcc⟩ := hac (List.ne_nil_of_length_pos (by omega))
          subst ea
          obtain ⟨x0, x1⟩ := hcc k hlt
          obtain ⟨i1, i2⟩ := HI.out k hlt
          have YC : Hid (∀ W, AcB w.heap.size W (some ⟨bb, oo, none⟩) m → W.cell? ⟨bb, oo + k * 2, none⟩ = some (.int .i64 m[k].1) ∧ W.cell? ⟨bb, oo + k * 2 + 1, none⟩ = some (.int .i64 m[k].2)) := Lib.hid fun W h => by
            obtain ⟨b', o', e', _, h'⟩ := h (List.ne_nil_of_length_pos (by omega))
            cases e'
            exact h' k hlt
          have HRA := Lib.hid ra
          have HRB := Lib.hid rb
          have HAC := Lib.hid hac
          have HB := Lib.hid hb
          have HW2 := Lib.hid hw2
          have G1 : Hid (g1 < lo2) := Lib.hid ra.2.1
          have G2 : Hid (lo2 ≤ g2) := Lib.hid rb.1
          have G1L : Hid (lo1 ≤ g1) := Lib.hid ra.1
          have G2U : Hid (g2 < up2) := Lib.hid rb.2.1
          have LL : Hid (lo1 ≤ lo2) := Lib.hid (by have := ra.1; have := ra.2.1; omega)
          -- what a call leaves
          have NEXT : Hid (∀ W r' f', Rdr 44 lo1 lo2 W g1 r' f' → Rdr 46 lo2 up2 W g2 r' f' → (f' = true → r' = []) → Bys r' → r'.length ≤ 500 → AcB w.heap.size W (some ⟨bb, oo, none⟩) m → up2 ≤ W.heap.size → Below w.heap.size w W → THead m (some ⟨bb, oo, none⟩) lo1 lo2 g1 lo2 up2 g2 w (.int .i64 ((k : Int) + 1)) W) := Lib.hid fun W r' f' h1 h2 h3 h4 h5 h6 h7 h8 => ⟨k + 1, r', f', by omega, rfl, h1, h2, h3, h4, h5, h6, h7, h8⟩
          have LA : Hid (∀ W r' f', Rdr 44 lo1 lo2 W g1 r' f' → Calls Try.prog 18 #[.pointer (some ⟨g1, 0, none⟩)] W fun e w' => e = .returned (.int .i64 (r'.length : Nat)) ∧ W = w') := Lib.hid fun W r' f' h => oct.left_at _ _ W g1 r' f' h
          have LB : Hid (∀ W r' f', Rdr 46 lo2 up2 W g2 r' f' → Calls Try.prog 19 #[.pointer (some ⟨g2, 0, none⟩)] W fun e w' => e = .returned (.int .i64 (r'.length : Nat)) ∧ W = w') := Lib.hid fun W r' f' h => ref13.left_at _ _ W g2 r' f' h
          have KA : Hid (∀ W r' f', Rdr 44 lo1 lo2 W g1 r' f' → Calls Try.prog 20 #[.pointer (some ⟨g1, 0, none⟩)] W fun e w' => e = .returned (.bool (!f')) ∧ W = w') := Lib.hid fun W r' f' h => oct.ok_at _ _ W g1 r' f' h
          have KB : Hid (∀ W r' f', Rdr 46 lo2 up2 W g2 r' f' → Calls Try.prog 21 #[.pointer (some ⟨g2, 0, none⟩)] W fun e w' => e = .returned (.bool (!f')) ∧ W = w') := Lib.hid fun W r' f' h => ref13.ok_at _ _ W g2 r' f' h
          have c0 := (YC.out wr hac).1
          have c1 := (YC.out wr hac).2
          have d0 := (YC.out wr.drew (hac.below (below_drew wr))).1
          have d1 := (YC.out wr.drew (hac.below (below_drew wr))).2
          by_cases hd : m[k].1 = 0
          · have NA : Hid (∀ W, Rdr 44 lo1 lo2 W g1 r f → Calls Try.prog 14 #[.pointer (some ⟨g1, 0, none⟩), .int .i64 m[k].2] W fun e w' => e = .returned (.int .i64 (rd (pre (nz m[k].2) r))) ∧ Rdr 44 lo1 lo2 w' g1 (rst (nz m[k].2) r) (fl (nz m[k].2) r f) ∧ Keep g1 W w') := Lib.hid fun W h => oct.num_at _ _ W g1 r f m[k].2 h i2 (by omega) hrb
            have NB : Hid (∀ W, Rdr 46 lo2 up2 W g2 r f → Calls Try.prog 15 #[.pointer (some ⟨g2, 0, none⟩), .int .i64 m[k].2] W fun e w' => e = .returned (.int .i64 (rd (pre (nz m[k].2) r))) ∧ Rdr 46 lo2 up2 w' g2 (rst (nz m[k].2) r) (fl (nz m[k].2) r f) ∧ Keep g2 W w') := Lib.hid fun W h => ref13.num_at _ _ W g2 r f m[k].2 h hf i2 (by omega) hrb
            have n1 : Hid (fl (nz m[k].2) r f = true → rst (nz m[k].2) r = []) := Lib.hid (fl_rst hf)
            have n2 : Hid (Bys (rst (nz m[k].2) r)) := Lib.hid (rst_bys hrb)
            have n3 : Hid ((rst (nz m[k].2) r).length ≤ 500) := Lib.hid (Nat.le_trans (rst_le _ _) hr5)
            clear ra rb hac hb hw2 hcc x0 x1 hb0 hf hrb hr5 HI
            rw [hd] at c0 d0 YC
            clear hd
            generalize rd (pre (nz m[k].2) r) = X at *
            generalize rst (nz m[k].2) r = r' at *
            generalize fl (nz m[k].2) r f = f' at *
            generalize m[k].2 = nn at *
            have n3' := n3.out
            go_wp2
            go_region_with (first
              | (go_at_call 14; (with_reducible refine (NA.out _ (HRA.out.below (below_drew wr))).mono ?_); rintro e w3 ⟨rfl, r3, k3⟩; have R3 := Lib.hid r3; have S3 := Lib.hid ((HRB.out.below (below_drew wr)).keep k3 (Or.inl G1.out)); have A3 := Lib.hid ((HAC.out.below (below_drew wr)).keep k3 (Nat.le_trans HMW.out G1L.out)); have B3 := Lib.hid (k3.to_below (btr HB.out (below_drew wr)) (Nat.le_trans HMW.out G1L.out) (btr HB.out (below_drew wr)).size); have Z3 := Lib.hid (Nat.le_trans HW2.out k3.size); have c3 := (YC.out _ A3.out).1; have c4 := (YC.out _ A3.out).2; clear r3 k3)
              | (go_at_call 15; (with_reducible refine (NB.out _ S3.out).mono ?_); rintro e w4 ⟨rfl, r4, k4⟩; have R4 := Lib.hid (R3.out.keep k4 (Or.inr G2.out)); have S4 := Lib.hid r4; have A4 := Lib.hid (A3.out.keep k4 (Nat.le_trans (Nat.le_trans HMW.out LL.out) G2.out)); have B4 := Lib.hid (k4.to_below B3.out (Nat.le_trans (Nat.le_trans HMW.out LL.out) G2.out) B3.out.size); have Z4 := Lib.hid (Nat.le_trans Z3.out k4.size); have c5 := (YC.out _ A4.out).1; have c6 := (YC.out _ A4.out).2; clear r4 k4))
            all_goals
              go_wp2_with (first
                | (go_at_call 18; (with_reducible refine (LA.out _ _ _ R4.out).mono ?_); rintro e w5 ⟨rfl, rfl⟩)
                | (go_at_call 19; (with_reducible refine (LB.out _ _ _ S4.out).mono ?_); rintro e w5 ⟨rfl, rfl⟩)
                | (go_at_call 20; (with_reducible refine (KA.out _ _ _ R4.out).mono ?_); rintro e w5 ⟨rfl, rfl⟩)
                | (go_at_call 21; (with_reducible refine (KB.out _ _ _ S4.out).mono ?_); rintro e w5 ⟨rfl, rfl⟩))
              exact ⟨NEXT.out _ _ _ R4.out S4.out n1.out n2.out n3.out A4.out Z4.out B4.out, by simp [intOf]; omega⟩
          · have td : (m[k].1 == 0) = false := by simpa using hd
            have TA : Hid (∀ W, Rdr 44 lo1 lo2 W g1 r f → Calls Try.prog 16 #[.pointer (some ⟨g1, 0, none⟩), .int .i64 m[k].2] W fun e w' => ∃ v', e = .returned v' ∧ Own W.heap.size w' v' (pre m[k].2 r) ∧ Rdr 44 lo1 lo2 w' g1 (rst m[k].2 r) (fl m[k].2 r f) ∧ Keep g1 W w') := Lib.hid fun W h => oct.take_at _ _ W g1 r f m[k].2 h i2 (by omega)
            have TB : Hid (∀ W, Rdr 46 lo2 up2 W g2 r f → Calls Try.prog 17 #[.pointer (some ⟨g2, 0, none⟩), .int .i64 m[k].2] W fun e w' => ∃ v', e = .returned v' ∧ Own W.heap.size w' v' (pre m[k].2 r) ∧ Rdr 46 lo2 up2 w' g2 (rst m[k].2 r) (fl m[k].2 r f) ∧ Keep g2 W w') := Lib.hid fun W h => ref13.take_at _ _ W g2 r f m[k].2 h hf i2 (by omega)
            have n1 : Hid (fl m[k].2 r f = true → rst m[k].2 r = []) := Lib.hid (fl_rst hf)
            have n2 : Hid (Bys (rst m[k].2 r)) := Lib.hid (rst_bys hrb)
            have n3 : Hid ((rst m[k].2 r).length ≤ 500) := Lib.hid (Nat.le_trans (rst_le _ _) hr5)
            have n4 : Hid ((pre m[k].2 r).length ≤ 500) := Lib.hid (Nat.le_trans (pre_le _ _) hr5)
            have CP := Lib.hid (fun base W v (h : Own base W v (pre m[k].2 r)) => str_at h)
            clear ra rb hac hb hw2 hcc x0 x1 hb0 hf hrb hr5 HI hd
            generalize strN (pre m[k].2 r) = s1 at *
            generalize pre m[k].2 r = p1 at *
            generalize rst m[k].2 r = r' at *
            generalize fl m[k].2 r f = f' at *
            generalize m[k].2 = nn at *
            generalize m[k].1 = dd at *
            have n3' := n3.out
            go_wp2_with (go_at_call 16; (with_reducible refine (TA.out _ HRA.out).mono ?_); rintro e w3 ⟨v3, rfl, o3, r3, k3⟩; have O3 := Lib.hid o3; have R3 := Lib.hid r3; have S3 := Lib.hid (HRB.out.keep k3 (Or.inl G1.out)); have A3 := Lib.hid (HAC.out.keep k3 (Nat.le_trans HMW.out G1L.out)); have B3 := Lib.hid (k3.to_below HB.out (Nat.le_trans HMW.out G1L.out) HB.out.size); have Z3 := Lib.hid k3.size; have c3 := (YC.out _ (A3.out.below (below_drew w3))).2; have q1 := CP.out _ _ _ (own_kept o3 (below_drew w3)); clear r3 k3 o3)
            go_region_with (go_at_call 17; (with_reducible refine (TB.out _ (S3.out.below (below_drew w3))).mono ?_); rintro e w4 ⟨v4, rfl, o4, r4, k4⟩; have O4 := Lib.hid (own_keepG (own_kept O3.out (below_drew w3)) k4 (Nat.lt_of_lt_of_le G2U.out HW2.out)); have q2 := CP.out _ _ _ O4.out; have q3 := CP.out _ _ _ o4; have R4 := Lib.hid ((R3.out.below (below_drew w3)).keep k4 (Or.inr G2.out)); have S4 := Lib.hid r4; have A4 := Lib.hid ((A3.out.below (below_drew w3)).keep k4 (Nat.le_trans (Nat.le_trans HMW.out LL.out) G2.out)); have B4 := Lib.hid (k4.to_below (btr B3.out (below_drew w3)) (Nat.le_trans (Nat.le_trans HMW.out LL.out) G2.out) (btr B3.out (below_drew w3)).size); have Z4 := Lib.hid (Nat.le_trans Z3.out k4.size); have c5 := (YC.out _ A4.out).1; have c6 := (YC.out _ A4.out).2; clear r4 k4 o4)
            all_goals
              have WS : Hid (wr.heap.size ≤ w4.heap.size) := Z4
              go_wp2_with (first
                | (at_builtin; refine app_lit rfl _ _ rfl wr.heap.size w4 v3 p1 [9] #[.int .u8 9] 1 rfl rfl rfl rfl O4.out (by have := n4.out; simp; omega) WS.out ?_; intro v5 w5 ho5 hg5; have B5 := Lib.hid (own_below O4.out (Below.refl wr.heap.size w4) WS.out hg5); have R5 := Lib.hid (rdr_low R4.out B5.out (Nat.le_trans (Nat.le_of_lt (Nat.lt_of_le_of_lt G2.out G2U.out)) HW2.out)); have S5 := Lib.hid (rdr_low S4.out B5.out HW2.out); have A5 := Lib.hid (acB_low A4.out B5.out (HB.out.size)); have H5 := Lib.hid (B4.out.trans (B5.out.mono HB.out.size)); have Z5 := Lib.hid (Nat.le_trans (Nat.le_trans HW2.out WS.out) hg5.size); clear ho5 hg5)
                | (go_at_call 18; (with_reducible refine (LA.out _ _ _ R5.out).mono ?_); rintro e w6 ⟨rfl, rfl⟩)
                | (go_at_call 19; (with_reducible refine (LB.out _ _ _ S5.out).mono ?_); rintro e w6 ⟨rfl, rfl⟩)
                | (go_at_call 20; (with_reducible refine (KA.out _ _ _ R5.out).mono ?_); rintro e w6 ⟨rfl, rfl⟩)
                | (go_at_call 21; (with_reducible refine (KB.out _ _ _ S5.out).mono ?_); rintro e w6 ⟨rfl, rfl⟩))
              exact ⟨NEXT.out _ _ _ R5.out S5.out n1.out n2.out n3.out A5.out Z5.out H5.out, by simp [intOf]; omega⟩
        · clear ra rb hac
          have HB := Lib.hid hb
          clear hb
          go_wp2
          go_ret
          exact ⟨rfl, HB.out⟩

set_option maxRecDepth 100000 in
theorem lifted (os : Os) (started : os.Started) (H : Type) (enc : TypeId × Value → H) :
    ReturnsInHanded {} Try.checked os 3 .any (Rows.octetTellsSpec.pre6 enc Try.prog Try.f3 Rows.octetTellsRow.domain false) (Rows.octetTellsSpec.post enc Try.prog Try.f3 false true false false) := by
  refine returnsInHanded_of_change (C := Try.checked) law.own started (by kernel_rfl) Try.func3
    (ChangeSpec.witness6 (enc := enc) (C := Try.checked) false ⟨#[], #[.slice none 0 0, .int .i64 0, .int .i64 0, .slice none 0 0], []⟩ 8 (by kernel_rfl) (by kernel_rfl) (by kernel_rfl) (by kernel_rfl)) ?_
  intro W base args ds gs before hval0 hW hcnd _
  have hval : ∀ (j : Nat) t v, Try.f3.params[j]? = some t → args[j]? = some v → Value.okWide Try.prog W .any base t v := hval0
  have hW' := hW
  obtain ⟨p, q, hA0, hV, rfl, hfz, hnd⟩ := hW
  have hA : DataW.TrodAll enc Try.prog W 0 (fun _ => true) true Try.f3.params.toList args.toList ds p := hA0
  rw [Try.params3] at hA hval
  obtain ⟨v0, vs0, d0, ds0, p0, q0, hargs, rfl, rfl, h0, r0⟩ := trodAll_cons hA
  obtain ⟨v1, vs1, d1, ds1, p1, q1, rfl, rfl, rfl, h1, r1⟩ := trodAll_cons r0
  obtain ⟨v2, vs2, d2, ds2, p2, q2, rfl, rfl, rfl, h2, r2⟩ := trodAll_cons r1
  obtain ⟨v3, vs3, d3, ds3, p3, q3, rfl, rfl, rfl, h3, r3⟩ := trodAll_cons r2
  obtain ⟨rfl, rfl, rfl⟩ := trodAll_nil r3
  obtain rfl : args = #[v0, v1, v2, v3] := by cases args; simp_all
  obtain ⟨rfl, rfl⟩ := trodVars_none hV
  clear hA0 hval0
  obtain ⟨l0_, r0_, s0_, u0_⟩ := oct.open_bytes (hval 0 22 v0 rfl rfl) h0
  obtain ⟨a1, rfl, hd1, hp1, w1⟩ := open_int Try.underlying3 (hval 1 3 v1 rfl rfl) h1
  obtain ⟨a2, rfl, hd2, hp2, w2⟩ := open_int Try.underlying3 (hval 2 3 v2 rfl rfl) h2
  obtain ⟨A3_, k3_, l3_, rfl, q3_, n3_, b3_⟩ := oct.open_acts (hval 3 23 v3 rfl rfl) h3
  refine (Calls.mono (R := fun e w' => e = .returned (.bool true) ∧ Below W.heap.size W w') ?_ fun e W' ⟨he, hb⟩ => ?_)
  · exact walk W l0_ v0 r0_ s0_ u0_ a1 (bounds_i64 w1) a2 (bounds_i64 w2) l3_ A3_ k3_ q3_ n3_ b3_
  · subst he
    exact ⟨_, rfl, law.post law.laidOut (by kernel_rfl) rfl rfl Try.underlying4 rfl hW' hb⟩

theorem over : Rows.octetTellsRow.holds Try.pinned (OpenSpec.ofChange Rows.octetTellsSpec) :=
  OpenClaim.holds_of_wide 3 Try.f3 rfl rfl rfl rfl rfl rfl rfl ⟨rfl, rfl, rfl, rfl, rfl⟩ rfl rfl rfl rfl rfl (by kernel_rfl) Try.func3 (by kernel_rfl)
    (of_decide_eq_true (by kernel_rfl)) (by unfold Func.isWrapper; first | (rw [if_pos (by decide +kernel)]; kernel_rfl) | (rw [if_neg (by decide +kernel)]; exact ⟨rfl, rfl⟩))
    (fun os started H enc _ => lifted os started H enc)

theorem proved : Rows.OctetTellsSaid := over
end Go.Proofs.Ytoclafnnbaddeaa.octetTells
