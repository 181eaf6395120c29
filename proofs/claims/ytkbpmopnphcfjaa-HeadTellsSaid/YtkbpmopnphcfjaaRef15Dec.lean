/-
  What the document's own Decode of layer 15 answers. Condition: the slice that is handed in reads as bytes.
-/
import Derived.Test.YtkbpmopnphcfjaaRef15Enc
import Derived.BigQuiet
namespace Go.Proofs.Ytkbpmopnphcfjaa.ref15
open Go.ChangeShapes Go.WideShapes Go.ChangeAt Go.RowKit
open om mem oct hd head
set_option linter.unusedVariables false
set_option maxRecDepth 100000

set_option maxRecDepth 100000 in
theorem cutLH (A : Option Addr) (n c : Nat) (hc : 44 ≤ c) (W : World) : (Instr.slice 24 (.slice A n c) (some (.int .i64 20)) (some (.int .i64 44)) none).run Try.prog W = .ok (.slice (tlA A c 20) 24 (c - 20)) W := by
  rw [run_slice_lh (P := Try.prog) W 24 A n c Try.underlying24 .i64 .i64 20 44 (by omega) (by omega) (by omega)]
  rw [show (Go.sizeOf (Try.prog.elem 24)).run Try.prog W = .ok 1 W by kernel_rfl]
  simp only [Result.andThen, sliced, tlA]
  rfl
theorem num_one (m : List Nat) (hm : Bys m) (hl : m.length = 44) (j : Nat) (hj : j < 6) (k : Nat) (hk : k = 20 + 4 * j) (k' : Nat) (hk' : k' = 20 + 4 * (j + 1)) (lo hi : Nat) (W : World) (g : Nat) (h : Rdr 57 lo hi W g (m.drop k) false) :
    Calls Try.prog 25 #[.pointer (some ⟨g, 0, none⟩), .int .i64 4] W fun e w' => e = .returned (.int .i64 (at4 m j)) ∧ Rdr 57 lo hi w' g (m.drop k') false ∧ Keep g W w' := by
  subst hk hk'
  have hok : oct.okB 4 (m.drop (20 + 4 * j)) = true := by rw [oct.ok_iff, List.length_drop]; omega
  refine (ref13.num_at lo hi W g _ false 4 h (fun e => by cases e) ⟨by decide, by decide⟩ (by rw [List.length_drop]; omega) (hm.drop _)).mono ?_
  rintro e w' ⟨rfl, hr, hk⟩
  rw [nz_yes (by unfold Sz; omega)] at hr ⊢
  rw [rst_yes hok, fl_yes hok, List.drop_drop] at hr
  rw [pre_yes hok]
  exact ⟨rfl, hr, hk⟩
set_option maxHeartbeats 8000000 in
theorem decode_at (l : List Nat) (v : Value) (w : World) (h : RdW w v l) (hb : Bys l) (hn : l.length ≤ 9223372036854775807) : Calls Try.prog 12 #[v] w (DecTold vdoc l w) := by
  obtain ⟨A, c, rfl, hc, hz, hr⟩ := id h
  by_cases h44 : l.length < 44
  · have Q : Hid (∀ w', Below w.heap.size w w' → DecTold vdoc l w (.returned (.tuple #[.agg (hcs zero), .bool false])) w') := Lib.hid fun w' hb => ⟨by rw [is_short h44, dec_no (is_short h44)], hb⟩
    clear h hr hz hb
    go_enter Try.func12, Try.ntmps12
    go_wp2_with (refine wpList_store_row rfl 23 (.tmp 2) (.tmp 11) rfl w.heap.size (hcs zero) rfl rfl 23 _ (hp_new w _) szH rfl (hcs_one _) ?_)
    refine end_pair Try.results12 _ _ w.heap.size _ (hcs zero) _ _ rfl rfl (setRow_heap _ _ _ _ _ _ (hp_new w _)) Try.underlying23 szH rfl ?_
    exact Q.out _ (bel_setRow (bal (Below.refl _ _) _) (Nat.le_refl _) _)
  · obtain ⟨RH, RT, hc44, b, o, rfl, c4⟩ := parts h (by omega)
    have hb4 : l.getD 4 0 < 256 := by
      have h5 : 4 < l.length := by omega
      simp only [List.getD, List.getElem?_eq_getElem h5, Option.getD_some]
      exact hb _ (List.getElem_mem h5)
    have hl44 : (l.take 44).length = 44 := by rw [List.length_take]; omega
    have hbm : Bys (l.take 44) := hb.take 44
    have hw0 : Hid (Below w.heap.size w (w.alloc (.cells #[.int .i64 0, .int .i64 0, .int .i64 0, .int .i64 0, .int .i64 0, .int .i64 0, .int .i64 0] 23))) := Lib.hid (bal (Below.refl w.heap.size w) _)
    have box : Hid ((w.alloc (.cells #[.int .i64 0, .int .i64 0, .int .i64 0, .int .i64 0, .int .i64 0, .int .i64 0, .int .i64 0] 23)).heap[w.heap.size]? = some (.cells #[.int .i64 0, .int .i64 0, .int .i64 0, .int .i64 0, .int .i64 0, .int .i64 0, .int .i64 0] 23)) := Lib.hid (hp_new w _)
    have q1 := fun W => cutH (some ⟨b, o, none⟩) l.length c 44 44 rfl hc44 W
    have q2 := fun W => cutLH (some ⟨b, o, none⟩) l.length c hc44 W
    have OP := Lib.hid (fun W (hb : Below w.heap.size w W) => ref13.open_at _ _ W (RT.below hb) (by rw [List.length_drop]; omega))
    have N0 := Lib.hid (num_one (l.take 44) hbm hl44 0 (by decide) 20 rfl 24 rfl)
    have N1 := Lib.hid (num_one (l.take 44) hbm hl44 1 (by decide) 24 rfl 28 rfl)
    have N2 := Lib.hid (num_one (l.take 44) hbm hl44 2 (by decide) 28 rfl 32 rfl)
    have N3 := Lib.hid (num_one (l.take 44) hbm hl44 3 (by decide) 32 rfl 36 rfl)
    have N4 := Lib.hid (num_one (l.take 44) hbm hl44 4 (by decide) 36 rfl 40 rfl)
    have N5 := Lib.hid (num_one (l.take 44) hbm hl44 5 (by decide) 40 rfl 44 rfl)
    simp only [show at4 (l.take 44) 0 = (cnd vdoc l).ut from at4_take l 0 (by decide)] at N0
    simp only [show at4 (l.take 44) 1 = (cnd vdoc l).sd from at4_take l 1 (by decide)] at N1
    simp only [show at4 (l.take 44) 2 = (cnd vdoc l).lp from at4_take l 2 (by decide)] at N2
    simp only [show at4 (l.take 44) 3 = (cnd vdoc l).tm from at4_take l 3 (by decide)] at N3
    simp only [show at4 (l.take 44) 4 = (cnd vdoc l).ty from at4_take l 4 (by decide)] at N4
    simp only [show at4 (l.take 44) 5 = (cnd vdoc l).ch from at4_take l 5 (by decide)] at N5
    have VO : Hid ((cnd vdoc l).v = vdoc (l.getD 4 0 : Nat)) := Lib.hid rfl
    have RQ := Lib.hid (fun W (hb : Below w.heap.size w W) => RH.below hb)
    have C4 := Lib.hid c4
    have EQ := Lib.hid (fun (hk : hd.okB (cnd vdoc l) = true) => strN_eq (l := byts (cnd vdoc l)) (m := l.take 44) (byts_bys hk) hbm)
    have EN : Hid (∀ W, Calls Try.prog 10 #[(.agg #[.int .i64 (cnd vdoc l).v, .int .i64 (cnd vdoc l).ut, .int .i64 (cnd vdoc l).sd, .int .i64 (cnd vdoc l).lp, .int .i64 (cnd vdoc l).tm, .int .i64 (cnd vdoc l).ty, .int .i64 (cnd vdoc l).ch])] W fun e w' => ∃ v', e = .returned (.tuple #[v', .bool (hd.okB (cnd vdoc l))]) ∧ Own W.heap.size w' v' (enc (cnd vdoc l)) ∧ Below W.heap.size W w') := Lib.hid (fun W => encode_at (cnd vdoc l) W)
    have HD : Hid (dec vdoc l = if isB vdoc l = true then cnd vdoc l else zero) := Lib.hid rfl
    have HI : Hid (isB vdoc l = (hd.okB (cnd vdoc l) && decide (byts (cnd vdoc l) = l.take 44))) := Lib.hid (by unfold isB; rw [decide_eq_true (by omega : 44 ≤ l.length)]; rfl)
    have Q : Hid (∀ w' h k, h = dec vdoc l → k = isB vdoc l → Below w.heap.size w w' → DecTold vdoc l w (.returned (.tuple #[.agg (hcs h), .bool k])) w') := Lib.hid fun w' h k e1 e2 hb => ⟨by rw [e1, e2], hb⟩
    clear h hr hz hb hc hc44 RH RT c4 hl44 hbm
    generalize dec vdoc l = D at *
    generalize isB vdoc l = I at *
    generalize cnd vdoc l = X at *
    generalize (l.take 44).drop 20 = m20 at *
    generalize (l.take 44).drop 24 = m24 at *
    generalize (l.take 44).drop 28 = m28 at *
    generalize (l.take 44).drop 32 = m32 at *
    generalize (l.take 44).drop 36 = m36 at *
    generalize (l.take 44).drop 40 = m40 at *
    generalize (l.take 44).drop 44 = m44 at *
    generalize l.take 44 = m at *
    generalize l.getD 4 0 = x4 at *
    generalize hL : l.length = L at *
    clear hL
    by_cases hx : 48 < x4
    · have hv : X.v = (x4 : Int) - 48 := by rw [VO.out]; unfold vdoc; rw [if_pos (by omega)]
      rw [hv] at EN
      have HX : Hid (hcs X = #[.int .i64 ((x4 : Int) - 48), .int .i64 X.ut, .int .i64 X.sd, .int .i64 X.lp, .int .i64 X.tm, .int .i64 X.ty, .int .i64 X.ch]) := Lib.hid (by unfold hcs; rw [hv])
      have tx : decide ((48 : Int) < (x4 : Int)) = true := by simp only [decide_eq_true_eq]; omega
      clear hv VO
      by_cases hk : hd.okB X = true
      · have HK : Hid (hd.okB X = true) := Lib.hid hk
        have EQ2 := EQ.out hk
        rw [hk] at EN
        by_cases hm : byts X = m
        · have e1 : D = X := by rw [HD.out, if_pos (by rw [HI.out, hk, decide_eq_true hm]; rfl)]
          have e2 : I = true := by rw [HI.out, hk, decide_eq_true hm]; rfl
          have Q2 := Lib.hid (fun w' => Q.out w' X true e1.symm e2.symm)
          rw [decide_eq_true hm] at EQ2
          clear e1 e2 hm hk EQ HD HI Q
          go_enter Try.func12, Try.ntmps12
          go_wp2_with (first
          | (go_at_call 24; (with_reducible refine (OP.out _ hw0.out).mono ?_); rintro e w1 ⟨g, rfl, r1, hb1⟩; have HA1 := Lib.hid hb1; have R1 := Lib.hid r1; clear r1 hb1)
          | (go_at_call 25; (with_reducible refine (N0.out _ _ _ _ R1.out).mono ?_); rintro e w2 ⟨rfl, r2, k2⟩; have HA2 := Lib.hid (k2.to_below HA1.out R1.out.1 HA1.out.size); have R2 := Lib.hid r2; clear r2 k2 HA1 R1)
          | (go_at_call 25; (with_reducible refine (N1.out _ _ _ _ R2.out).mono ?_); rintro e w3 ⟨rfl, r3, k3⟩; have HA3 := Lib.hid (k3.to_below HA2.out R2.out.1 HA2.out.size); have R3 := Lib.hid r3; clear r3 k3 HA2 R2)
          | (go_at_call 25; (with_reducible refine (N2.out _ _ _ _ R3.out).mono ?_); rintro e w4 ⟨rfl, r4, k4⟩; have HA4 := Lib.hid (k4.to_below HA3.out R3.out.1 HA3.out.size); have R4 := Lib.hid r4; clear r4 k4 HA3 R3)
          | (go_at_call 25; (with_reducible refine (N3.out _ _ _ _ R4.out).mono ?_); rintro e w5 ⟨rfl, r5, k5⟩; have HA5 := Lib.hid (k5.to_below HA4.out R4.out.1 HA4.out.size); have R5 := Lib.hid r5; clear r5 k5 HA4 R4)
          | (go_at_call 25; (with_reducible refine (N4.out _ _ _ _ R5.out).mono ?_); rintro e w6 ⟨rfl, r6, k6⟩; have HA6 := Lib.hid (k6.to_below HA5.out R5.out.1 HA5.out.size); have R6 := Lib.hid r6; clear r6 k6 HA5 R5)
          | (go_at_call 25; (with_reducible refine (N5.out _ _ _ _ R6.out).mono ?_); rintro e w7 ⟨rfl, r7, k7⟩; have HA7 := Lib.hid (k7.to_below HA6.out R6.out.1 HA6.out.size); have R7 := Lib.hid r7; have hbx := bal (btr hw0.out HA7.out) (.cells #[.int .i64 1, .int .i64 X.ut, .int .i64 X.sd, .int .i64 X.lp, .int .i64 X.tm, .int .i64 X.ty, .int .i64 X.ch] 23); have c4 := C4.out _ hbx; have c4' := C4.out _ (btr hw0.out HA7.out); have hlt := World.block_lt_of_cell? w7 _ c4'; clear hbx; clear r7 k7 HA6 R6)
          | (go_at_call 10; (with_reducible refine (EN.out _).mono ?_); rintro e w8 ⟨v8, rfl, ho8, hb8⟩; have HO8 := Lib.hid ho8; have H8 := Lib.hid (kept (hp_new w7 _) hb8); have HA8 := Lib.hid (btr (bal HA7.out _) hb8); have HB8 := Lib.hid (btr hw0.out HA8.out); have BX8 := Lib.hid (kept box.out HA8.out); have RQ8 := Lib.hid (RQ.out _ HB8.out); have d0 := row_cell H8.out 0; have d1 := row_cell H8.out 1; have d2 := row_cell H8.out 2; have d3 := row_cell H8.out 3; have d4 := row_cell H8.out 4; have d5 := row_cell H8.out 5; have d6 := row_cell H8.out 6; obtain ⟨A8, n8, c8, rfl⟩ := own_slice ho8; clear ho8 hb8 HA7 R7 c4 c4' hlt))
          have s1 := str_drew (own_by HO8.out).rd
          have s2 := str_drew RQ8.out
          rw [enc_yes HK.out] at s1
          generalize strN (byts X) = sx at *
          generalize strN m = sm at *
          go_quiet (fail)
          go_wp2_with (refine wpList_store_row rfl 23 (.tmp 2) (.tmp 54) rfl w.heap.size (hcs X) rfl (by rw [HX.out]; rfl) 23 _ BX8.out szH rfl (hcs_one _) ?_)
          refine end_pair Try.results12 _ _ w.heap.size _ (hcs X) _ _ rfl rfl (setRow_heap _ _ _ _ _ _ BX8.out) Try.underlying23 szH rfl ?_
          exact Q2.out _ (bel_setRow (bel_drewN HB8.out _) (Nat.le_refl _) _)
        · have e1 : D = zero := by rw [HD.out, if_neg (by rw [HI.out, hk, decide_eq_false hm]; decide)]
          have e2 : I = false := by rw [HI.out, hk, decide_eq_false hm]; rfl
          have Q2 := Lib.hid (fun w' => Q.out w' zero false e1.symm e2.symm)
          rw [decide_eq_false hm] at EQ2
          clear e1 e2 hm hk EQ HD HI Q
          go_enter Try.func12, Try.ntmps12
          go_wp2_with (first
          | (go_at_call 24; (with_reducible refine (OP.out _ hw0.out).mono ?_); rintro e w1 ⟨g, rfl, r1, hb1⟩; have HA1 := Lib.hid hb1; have R1 := Lib.hid r1; clear r1 hb1)
          | (go_at_call 25; (with_reducible refine (N0.out _ _ _ _ R1.out).mono ?_); rintro e w2 ⟨rfl, r2, k2⟩; have HA2 := Lib.hid (k2.to_below HA1.out R1.out.1 HA1.out.size); have R2 := Lib.hid r2; clear r2 k2 HA1 R1)
          | (go_at_call 25; (with_reducible refine (N1.out _ _ _ _ R2.out).mono ?_); rintro e w3 ⟨rfl, r3, k3⟩; have HA3 := Lib.hid (k3.to_below HA2.out R2.out.1 HA2.out.size); have R3 := Lib.hid r3; clear r3 k3 HA2 R2)
          | (go_at_call 25; (with_reducible refine (N2.out _ _ _ _ R3.out).mono ?_); rintro e w4 ⟨rfl, r4, k4⟩; have HA4 := Lib.hid (k4.to_below HA3.out R3.out.1 HA3.out.size); have R4 := Lib.hid r4; clear r4 k4 HA3 R3)
          | (go_at_call 25; (with_reducible refine (N3.out _ _ _ _ R4.out).mono ?_); rintro e w5 ⟨rfl, r5, k5⟩; have HA5 := Lib.hid (k5.to_below HA4.out R4.out.1 HA4.out.size); have R5 := Lib.hid r5; clear r5 k5 HA4 R4)
          | (go_at_call 25; (with_reducible refine (N4.out _ _ _ _ R5.out).mono ?_); rintro e w6 ⟨rfl, r6, k6⟩; have HA6 := Lib.hid (k6.to_below HA5.out R5.out.1 HA5.out.size); have R6 := Lib.hid r6; clear r6 k6 HA5 R5)
          | (go_at_call 25; (with_reducible refine (N5.out _ _ _ _ R6.out).mono ?_); rintro e w7 ⟨rfl, r7, k7⟩; have HA7 := Lib.hid (k7.to_below HA6.out R6.out.1 HA6.out.size); have R7 := Lib.hid r7; have hbx := bal (btr hw0.out HA7.out) (.cells #[.int .i64 1, .int .i64 X.ut, .int .i64 X.sd, .int .i64 X.lp, .int .i64 X.tm, .int .i64 X.ty, .int .i64 X.ch] 23); have c4 := C4.out _ hbx; have c4' := C4.out _ (btr hw0.out HA7.out); have hlt := World.block_lt_of_cell? w7 _ c4'; clear hbx; clear r7 k7 HA6 R6)
          | (go_at_call 10; (with_reducible refine (EN.out _).mono ?_); rintro e w8 ⟨v8, rfl, ho8, hb8⟩; have HO8 := Lib.hid ho8; have H8 := Lib.hid (kept (hp_new w7 _) hb8); have HA8 := Lib.hid (btr (bal HA7.out _) hb8); have HB8 := Lib.hid (btr hw0.out HA8.out); have BX8 := Lib.hid (kept box.out HA8.out); have RQ8 := Lib.hid (RQ.out _ HB8.out); have d0 := row_cell H8.out 0; have d1 := row_cell H8.out 1; have d2 := row_cell H8.out 2; have d3 := row_cell H8.out 3; have d4 := row_cell H8.out 4; have d5 := row_cell H8.out 5; have d6 := row_cell H8.out 6; obtain ⟨A8, n8, c8, rfl⟩ := own_slice ho8; clear ho8 hb8 HA7 R7 c4 c4' hlt))
          have s1 := str_drew (own_by HO8.out).rd
          have s2 := str_drew RQ8.out
          rw [enc_yes HK.out] at s1
          generalize strN (byts X) = sx at *
          generalize strN m = sm at *
          go_quiet (fail)
          go_wp2_with (refine wpList_store_row rfl 23 (.tmp 2) (.tmp 53) rfl w.heap.size (hcs zero) rfl rfl 23 _ BX8.out szH rfl (hcs_one _) ?_)
          refine end_pair Try.results12 _ _ w.heap.size _ (hcs zero) _ _ rfl rfl (setRow_heap _ _ _ _ _ _ BX8.out) Try.underlying23 szH rfl ?_
          exact Q2.out _ (bel_setRow (bel_drewN HB8.out _) (Nat.le_refl _) _)
      · have hk' : hd.okB X = false := by simpa using hk
        have e1 : D = zero := by rw [HD.out, if_neg (by rw [HI.out, hk']; simp)]
        have e2 : I = false := by rw [HI.out, hk']; rfl
        have Q2 := Lib.hid (fun w' => Q.out w' zero false e1.symm e2.symm)
        rw [hk'] at EN
        clear e1 e2 hk hk' EQ HD HI Q
        go_enter Try.func12, Try.ntmps12
        go_wp2_with (first
          | (go_at_call 24; (with_reducible refine (OP.out _ hw0.out).mono ?_); rintro e w1 ⟨g, rfl, r1, hb1⟩; have HA1 := Lib.hid hb1; have R1 := Lib.hid r1; clear r1 hb1)
          | (go_at_call 25; (with_reducible refine (N0.out _ _ _ _ R1.out).mono ?_); rintro e w2 ⟨rfl, r2, k2⟩; have HA2 := Lib.hid (k2.to_below HA1.out R1.out.1 HA1.out.size); have R2 := Lib.hid r2; clear r2 k2 HA1 R1)
          | (go_at_call 25; (with_reducible refine (N1.out _ _ _ _ R2.out).mono ?_); rintro e w3 ⟨rfl, r3, k3⟩; have HA3 := Lib.hid (k3.to_below HA2.out R2.out.1 HA2.out.size); have R3 := Lib.hid r3; clear r3 k3 HA2 R2)
          | (go_at_call 25; (with_reducible refine (N2.out _ _ _ _ R3.out).mono ?_); rintro e w4 ⟨rfl, r4, k4⟩; have HA4 := Lib.hid (k4.to_below HA3.out R3.out.1 HA3.out.size); have R4 := Lib.hid r4; clear r4 k4 HA3 R3)
          | (go_at_call 25; (with_reducible refine (N3.out _ _ _ _ R4.out).mono ?_); rintro e w5 ⟨rfl, r5, k5⟩; have HA5 := Lib.hid (k5.to_below HA4.out R4.out.1 HA4.out.size); have R5 := Lib.hid r5; clear r5 k5 HA4 R4)
          | (go_at_call 25; (with_reducible refine (N4.out _ _ _ _ R5.out).mono ?_); rintro e w6 ⟨rfl, r6, k6⟩; have HA6 := Lib.hid (k6.to_below HA5.out R5.out.1 HA5.out.size); have R6 := Lib.hid r6; clear r6 k6 HA5 R5)
          | (go_at_call 25; (with_reducible refine (N5.out _ _ _ _ R6.out).mono ?_); rintro e w7 ⟨rfl, r7, k7⟩; have HA7 := Lib.hid (k7.to_below HA6.out R6.out.1 HA6.out.size); have R7 := Lib.hid r7; have hbx := bal (btr hw0.out HA7.out) (.cells #[.int .i64 1, .int .i64 X.ut, .int .i64 X.sd, .int .i64 X.lp, .int .i64 X.tm, .int .i64 X.ty, .int .i64 X.ch] 23); have c4 := C4.out _ hbx; have c4' := C4.out _ (btr hw0.out HA7.out); have hlt := World.block_lt_of_cell? w7 _ c4'; clear hbx; clear r7 k7 HA6 R6)
          | (go_at_call 10; (with_reducible refine (EN.out _).mono ?_); rintro e w8 ⟨v8, rfl, ho8, hb8⟩; have HO8 := Lib.hid ho8; have H8 := Lib.hid (kept (hp_new w7 _) hb8); have HA8 := Lib.hid (btr (bal HA7.out _) hb8); have HB8 := Lib.hid (btr hw0.out HA8.out); have BX8 := Lib.hid (kept box.out HA8.out); have RQ8 := Lib.hid (RQ.out _ HB8.out); have d0 := row_cell H8.out 0; have d1 := row_cell H8.out 1; have d2 := row_cell H8.out 2; have d3 := row_cell H8.out 3; have d4 := row_cell H8.out 4; have d5 := row_cell H8.out 5; have d6 := row_cell H8.out 6; obtain ⟨A8, n8, c8, rfl⟩ := own_slice ho8; clear ho8 hb8 HA7 R7 c4 c4' hlt))
        go_quiet (fail)
        go_wp2_with (refine wpList_store_row rfl 23 (.tmp 2) (.tmp 53) rfl w.heap.size (hcs zero) rfl rfl 23 _ BX8.out szH rfl (hcs_one _) ?_)
        refine end_pair Try.results12 _ _ w.heap.size _ (hcs zero) _ _ rfl rfl (setRow_heap _ _ _ _ _ _ BX8.out) Try.underlying23 szH rfl ?_
        exact Q2.out _ (bel_setRow (bel_drewN HB8.out _) (Nat.le_refl _) _)
    · have hv : X.v = 1 := by rw [VO.out]; unfold vdoc; rw [if_neg (by omega)]
      rw [hv] at EN
      have HX : Hid (hcs X = #[.int .i64 1, .int .i64 X.ut, .int .i64 X.sd, .int .i64 X.lp, .int .i64 X.tm, .int .i64 X.ty, .int .i64 X.ch]) := Lib.hid (by unfold hcs; rw [hv])
      have tx : decide ((48 : Int) < (x4 : Int)) = false := by simp only [decide_eq_false_iff_not]; omega
      clear hv VO
      by_cases hk : hd.okB X = true
      · have HK : Hid (hd.okB X = true) := Lib.hid hk
        have EQ2 := EQ.out hk
        rw [hk] at EN
        by_cases hm : byts X = m
        · have e1 : D = X := by rw [HD.out, if_pos (by rw [HI.out, hk, decide_eq_true hm]; rfl)]
          have e2 : I = true := by rw [HI.out, hk, decide_eq_true hm]; rfl
          have Q2 := Lib.hid (fun w' => Q.out w' X true e1.symm e2.symm)
          rw [decide_eq_true hm] at EQ2
          clear e1 e2 hm hk EQ HD HI Q
          go_enter Try.func12, Try.ntmps12
          go_wp2_with (first
          | (go_at_call 24; (with_reducible refine (OP.out _ hw0.out).mono ?_); rintro e w1 ⟨g, rfl, r1, hb1⟩; have HA1 := Lib.hid hb1; have R1 := Lib.hid r1; clear r1 hb1)
          | (go_at_call 25; (with_reducible refine (N0.out _ _ _ _ R1.out).mono ?_); rintro e w2 ⟨rfl, r2, k2⟩; have HA2 := Lib.hid (k2.to_below HA1.out R1.out.1 HA1.out.size); have R2 := Lib.hid r2; clear r2 k2 HA1 R1)
          | (go_at_call 25; (with_reducible refine (N1.out _ _ _ _ R2.out).mono ?_); rintro e w3 ⟨rfl, r3, k3⟩; have HA3 := Lib.hid (k3.to_below HA2.out R2.out.1 HA2.out.size); have R3 := Lib.hid r3; clear r3 k3 HA2 R2)
          | (go_at_call 25; (with_reducible refine (N2.out _ _ _ _ R3.out).mono ?_); rintro e w4 ⟨rfl, r4, k4⟩; have HA4 := Lib.hid (k4.to_below HA3.out R3.out.1 HA3.out.size); have R4 := Lib.hid r4; clear r4 k4 HA3 R3)
          | (go_at_call 25; (with_reducible refine (N3.out _ _ _ _ R4.out).mono ?_); rintro e w5 ⟨rfl, r5, k5⟩; have HA5 := Lib.hid (k5.to_below HA4.out R4.out.1 HA4.out.size); have R5 := Lib.hid r5; clear r5 k5 HA4 R4)
          | (go_at_call 25; (with_reducible refine (N4.out _ _ _ _ R5.out).mono ?_); rintro e w6 ⟨rfl, r6, k6⟩; have HA6 := Lib.hid (k6.to_below HA5.out R5.out.1 HA5.out.size); have R6 := Lib.hid r6; clear r6 k6 HA5 R5)
          | (go_at_call 25; (with_reducible refine (N5.out _ _ _ _ R6.out).mono ?_); rintro e w7 ⟨rfl, r7, k7⟩; have HA7 := Lib.hid (k7.to_below HA6.out R6.out.1 HA6.out.size); have R7 := Lib.hid r7; have hbx := bal (btr hw0.out HA7.out) (.cells #[.int .i64 1, .int .i64 X.ut, .int .i64 X.sd, .int .i64 X.lp, .int .i64 X.tm, .int .i64 X.ty, .int .i64 X.ch] 23); have c4 := C4.out _ hbx; have c4' := C4.out _ (btr hw0.out HA7.out); have hlt := World.block_lt_of_cell? w7 _ c4'; clear hbx; clear r7 k7 HA6 R6)
          | (go_at_call 10; (with_reducible refine (EN.out _).mono ?_); rintro e w8 ⟨v8, rfl, ho8, hb8⟩; have HO8 := Lib.hid ho8; have H8 := Lib.hid (kept (hp_new w7 _) hb8); have HA8 := Lib.hid (btr (bal HA7.out _) hb8); have HB8 := Lib.hid (btr hw0.out HA8.out); have BX8 := Lib.hid (kept box.out HA8.out); have RQ8 := Lib.hid (RQ.out _ HB8.out); have d0 := row_cell H8.out 0; have d1 := row_cell H8.out 1; have d2 := row_cell H8.out 2; have d3 := row_cell H8.out 3; have d4 := row_cell H8.out 4; have d5 := row_cell H8.out 5; have d6 := row_cell H8.out 6; obtain ⟨A8, n8, c8, rfl⟩ := own_slice ho8; clear ho8 hb8 HA7 R7 c4 c4' hlt))
          have s1 := str_drew (own_by HO8.out).rd
          have s2 := str_drew RQ8.out
          rw [enc_yes HK.out] at s1
          generalize strN (byts X) = sx at *
          generalize strN m = sm at *
          go_quiet (fail)
          go_wp2_with (refine wpList_store_row rfl 23 (.tmp 2) (.tmp 54) rfl w.heap.size (hcs X) rfl (by rw [HX.out]; rfl) 23 _ BX8.out szH rfl (hcs_one _) ?_)
          refine end_pair Try.results12 _ _ w.heap.size _ (hcs X) _ _ rfl rfl (setRow_heap _ _ _ _ _ _ BX8.out) Try.underlying23 szH rfl ?_
          exact Q2.out _ (bel_setRow (bel_drewN HB8.out _) (Nat.le_refl _) _)
        · have e1 : D = zero := by rw [HD.out, if_neg (by rw [HI.out, hk, decide_eq_false hm]; decide)]
          have e2 : I = false := by rw [HI.out, hk, decide_eq_false hm]; rfl
          have Q2 := Lib.hid (fun w' => Q.out w' zero false e1.symm e2.symm)
          rw [decide_eq_false hm] at EQ2
          clear e1 e2 hm hk EQ HD HI Q
          go_enter Try.func12, Try.ntmps12
          go_wp2_with (first
          | (go_at_call 24; (with_reducible refine (OP.out _ hw0.out).mono ?_); rintro e w1 ⟨g, rfl, r1, hb1⟩; have HA1 := Lib.hid hb1; have R1 := Lib.hid r1; clear r1 hb1)
          | (go_at_call 25; (with_reducible refine (N0.out _ _ _ _ R1.out).mono ?_); rintro e w2 ⟨rfl, r2, k2⟩; have HA2 := Lib.hid (k2.to_below HA1.out R1.out.1 HA1.out.size); have R2 := Lib.hid r2; clear r2 k2 HA1 R1)
          | (go_at_call 25; (with_reducible refine (N1.out _ _ _ _ R2.out).mono ?_); rintro e w3 ⟨rfl, r3, k3⟩; have HA3 := Lib.hid (k3.to_below HA2.out R2.out.1 HA2.out.size); have R3 := Lib.hid r3; clear r3 k3 HA2 R2)
          | (go_at_call 25; (with_reducible refine (N2.out _ _ _ _ R3.out).mono ?_); rintro e w4 ⟨rfl, r4, k4⟩; have HA4 := Lib.hid (k4.to_below HA3.out R3.out.1 HA3.out.size); have R4 := Lib.hid r4; clear r4 k4 HA3 R3)
          | (go_at_call 25; (with_reducible refine (N3.out _ _ _ _ R4.out).mono ?_); rintro e w5 ⟨rfl, r5, k5⟩; have HA5 := Lib.hid (k5.to_below HA4.out R4.out.1 HA4.out.size); have R5 := Lib.hid r5; clear r5 k5 HA4 R4)
          | (go_at_call 25; (with_reducible refine (N4.out _ _ _ _ R5.out).mono ?_); rintro e w6 ⟨rfl, r6, k6⟩; have HA6 := Lib.hid (k6.to_below HA5.out R5.out.1 HA5.out.size); have R6 := Lib.hid r6; clear r6 k6 HA5 R5)
          | (go_at_call 25; (with_reducible refine (N5.out _ _ _ _ R6.out).mono ?_); rintro e w7 ⟨rfl, r7, k7⟩; have HA7 := Lib.hid (k7.to_below HA6.out R6.out.1 HA6.out.size); have R7 := Lib.hid r7; have hbx := bal (btr hw0.out HA7.out) (.cells #[.int .i64 1, .int .i64 X.ut, .int .i64 X.sd, .int .i64 X.lp, .int .i64 X.tm, .int .i64 X.ty, .int .i64 X.ch] 23); have c4 := C4.out _ hbx; have c4' := C4.out _ (btr hw0.out HA7.out); have hlt := World.block_lt_of_cell? w7 _ c4'; clear hbx; clear r7 k7 HA6 R6)
          | (go_at_call 10; (with_reducible refine (EN.out _).mono ?_); rintro e w8 ⟨v8, rfl, ho8, hb8⟩; have HO8 := Lib.hid ho8; have H8 := Lib.hid (kept (hp_new w7 _) hb8); have HA8 := Lib.hid (btr (bal HA7.out _) hb8); have HB8 := Lib.hid (btr hw0.out HA8.out); have BX8 := Lib.hid (kept box.out HA8.out); have RQ8 := Lib.hid (RQ.out _ HB8.out); have d0 := row_cell H8.out 0; have d1 := row_cell H8.out 1; have d2 := row_cell H8.out 2; have d3 := row_cell H8.out 3; have d4 := row_cell H8.out 4; have d5 := row_cell H8.out 5; have d6 := row_cell H8.out 6; obtain ⟨A8, n8, c8, rfl⟩ := own_slice ho8; clear ho8 hb8 HA7 R7 c4 c4' hlt))
          have s1 := str_drew (own_by HO8.out).rd
          have s2 := str_drew RQ8.out
          rw [enc_yes HK.out] at s1
          generalize strN (byts X) = sx at *
          generalize strN m = sm at *
          go_quiet (fail)
          go_wp2_with (refine wpList_store_row rfl 23 (.tmp 2) (.tmp 53) rfl w.heap.size (hcs zero) rfl rfl 23 _ BX8.out szH rfl (hcs_one _) ?_)
          refine end_pair Try.results12 _ _ w.heap.size _ (hcs zero) _ _ rfl rfl (setRow_heap _ _ _ _ _ _ BX8.out) Try.underlying23 szH rfl ?_
          exact Q2.out _ (bel_setRow (bel_drewN HB8.out _) (Nat.le_refl _) _)
      · have hk' : hd.okB X = false := by simpa using hk
        have e1 : D = zero := by rw [HD.out, if_neg (by rw [HI.out, hk']; simp)]
        have e2 : I = false := by rw [HI.out, hk']; rfl
        have Q2 := Lib.hid (fun w' => Q.out w' zero false e1.symm e2.symm)
        rw [hk'] at EN
        clear e1 e2 hk hk' EQ HD HI Q
        go_enter Try.func12, Try.ntmps12
        go_wp2_with (first
          | (go_at_call 24; (with_reducible refine (OP.out _ hw0.out).mono ?_); rintro e w1 ⟨g, rfl, r1, hb1⟩; have HA1 := Lib.hid hb1; have R1 := Lib.hid r1; clear r1 hb1)
          | (go_at_call 25; (with_reducible refine (N0.out _ _ _ _ R1.out).mono ?_); rintro e w2 ⟨rfl, r2, k2⟩; have HA2 := Lib.hid (k2.to_below HA1.out R1.out.1 HA1.out.size); have R2 := Lib.hid r2; clear r2 k2 HA1 R1)
          | (go_at_call 25; (with_reducible refine (N1.out _ _ _ _ R2.out).mono ?_); rintro e w3 ⟨rfl, r3, k3⟩; have HA3 := Lib.hid (k3.to_below HA2.out R2.out.1 HA2.out.size); have R3 := Lib.hid r3; clear r3 k3 HA2 R2)
          | (go_at_call 25; (with_reducible refine (N2.out _ _ _ _ R3.out).mono ?_); rintro e w4 ⟨rfl, r4, k4⟩; have HA4 := Lib.hid (k4.to_below HA3.out R3.out.1 HA3.out.size); have R4 := Lib.hid r4; clear r4 k4 HA3 R3)
          | (go_at_call 25; (with_reducible refine (N3.out _ _ _ _ R4.out).mono ?_); rintro e w5 ⟨rfl, r5, k5⟩; have HA5 := Lib.hid (k5.to_below HA4.out R4.out.1 HA4.out.size); have R5 := Lib.hid r5; clear r5 k5 HA4 R4)
          | (go_at_call 25; (with_reducible refine (N4.out _ _ _ _ R5.out).mono ?_); rintro e w6 ⟨rfl, r6, k6⟩; have HA6 := Lib.hid (k6.to_below HA5.out R5.out.1 HA5.out.size); have R6 := Lib.hid r6; clear r6 k6 HA5 R5)
          | (go_at_call 25; (with_reducible refine (N5.out _ _ _ _ R6.out).mono ?_); rintro e w7 ⟨rfl, r7, k7⟩; have HA7 := Lib.hid (k7.to_below HA6.out R6.out.1 HA6.out.size); have R7 := Lib.hid r7; have hbx := bal (btr hw0.out HA7.out) (.cells #[.int .i64 1, .int .i64 X.ut, .int .i64 X.sd, .int .i64 X.lp, .int .i64 X.tm, .int .i64 X.ty, .int .i64 X.ch] 23); have c4 := C4.out _ hbx; have c4' := C4.out _ (btr hw0.out HA7.out); have hlt := World.block_lt_of_cell? w7 _ c4'; clear hbx; clear r7 k7 HA6 R6)
          | (go_at_call 10; (with_reducible refine (EN.out _).mono ?_); rintro e w8 ⟨v8, rfl, ho8, hb8⟩; have HO8 := Lib.hid ho8; have H8 := Lib.hid (kept (hp_new w7 _) hb8); have HA8 := Lib.hid (btr (bal HA7.out _) hb8); have HB8 := Lib.hid (btr hw0.out HA8.out); have BX8 := Lib.hid (kept box.out HA8.out); have RQ8 := Lib.hid (RQ.out _ HB8.out); have d0 := row_cell H8.out 0; have d1 := row_cell H8.out 1; have d2 := row_cell H8.out 2; have d3 := row_cell H8.out 3; have d4 := row_cell H8.out 4; have d5 := row_cell H8.out 5; have d6 := row_cell H8.out 6; obtain ⟨A8, n8, c8, rfl⟩ := own_slice ho8; clear ho8 hb8 HA7 R7 c4 c4' hlt))
        go_quiet (fail)
        go_wp2_with (refine wpList_store_row rfl 23 (.tmp 2) (.tmp 53) rfl w.heap.size (hcs zero) rfl rfl 23 _ BX8.out szH rfl (hcs_one _) ?_)
        refine end_pair Try.results12 _ _ w.heap.size _ (hcs zero) _ _ rfl rfl (setRow_heap _ _ _ _ _ _ BX8.out) Try.underlying23 szH rfl ?_
        exact Q2.out _ (bel_setRow (bel_drewN HB8.out _) (Nat.le_refl _) _)
end Go.Proofs.Ytkbpmopnphcfjaa.ref15
