/-
  What bytes.Equal and package head's Decode answer. Condition: the slices that are handed in read as bytes.
-/
import Derived.Test.YtkbpmopnphcfjaaHeadEnc
import Derived.Test.YtkbpmopnphcfjaaOctWalk
namespace Go.Proofs.Ytkbpmopnphcfjaa.head
open Go.ChangeShapes Go.WideShapes Go.ChangeAt Go.RowKit
open om mem oct hd
set_option linter.unusedVariables false
set_option maxRecDepth 100000

theorem strN_eq {l m : List Nat} (hl : Bys l) (hm : Bys m) : ((strN l).toList == (strN m).toList) = decide (l = m) := by
  rw [beq_str, Bool.eq_iff_iff]
  simp only [decide_eq_true_eq]
  exact ⟨strN_inj hl hm, fun e => by rw [e]⟩
set_option maxHeartbeats 1000000 in
theorem equal_at (x y : Value) (l m : List Nat) (w : World) (hx : RdW w x l) (hy : RdW w y m) (hl : Bys l) (hm : Bys m) : Calls Try.prog 23 #[x, y] w fun e w' => e = .returned (.bool (decide (l = m))) ∧ w = w' := by
  have q1 := str_of hx
  have q2 := str_of hy
  have E := Lib.hid (strN_eq hl hm)
  generalize strN l = s at *
  generalize strN m = t at *
  clear hx hy
  go_enter Try.func23, Try.ntmps23
  go_wp2
  go_ret
  exact ⟨ret_b (by rw [← E.out]), rfl⟩
theorem RdW.tail {W : World} {A : Option Addr} {l : List Nat} {c : Nat} (h : RdW W (.slice A l.length c) l) (f : Nat) (hf : f ≤ l.length) : RdW W (.slice (tlA A c f) (l.length - f) (c - f)) (l.drop f) := by
  obtain ⟨A', cap, e, hc, hz, hr⟩ := h
  cases e
  have hl : (l.drop f).length = l.length - f := List.length_drop
  refine ⟨tlA A c f, c - f, by rw [hl], by rw [hl]; omega, fun e => ?_, fun hne => ?_⟩
  · cases A with
    | none => have := hz rfl; omega
    | some a => unfold tlA at e; split at e <;> cases e
  · have hp : 0 < l.length - f := by rw [← hl]; exact List.length_pos_iff.2 hne
    obtain ⟨b, o, rfl, hcell⟩ := hr (List.ne_nil_of_length_pos (by omega))
    refine ⟨b, o + f, ?_, fun k hk => ?_⟩
    · unfold tlA
      rw [if_neg (by omega)]
      simp [Addr.add]
    · rw [hl] at hk
      rw [List.getElem_drop, show o + f + k = o + (f + k) by omega]
      exact hcell (f + k) (by omega)
/-- one of the six numbers. -/
theorem num_one (m : List Nat) (hm : Bys m) (hl : m.length = 44) (j : Nat) (hj : j < 6) (k : Nat) (hk : k = 20 + 4 * j) (k' : Nat) (hk' : k' = 20 + 4 * (j + 1)) (lo hi : Nat) (W : World) (g : Nat) (h : Rdr 52 lo hi W g (m.drop k) false) :
    Calls Try.prog 22 #[.pointer (some ⟨g, 0, none⟩), .int .i64 4] W fun e w' => e = .returned (.int .i64 (at4 m j)) ∧ Rdr 52 lo hi w' g (m.drop k') false ∧ Keep g W w' := by
  subst hk hk'
  have hok : okB 4 (m.drop (20 + 4 * j)) = true := by rw [oct.ok_iff, List.length_drop]; omega
  refine (num_at lo hi W g _ false 4 h ⟨by decide, by decide⟩ (by rw [List.length_drop]; omega) (hm.drop _)).mono ?_
  rintro e w' ⟨rfl, hr, hk⟩
  rw [nz_yes (by unfold Sz; omega)] at hr ⊢
  rw [rst_yes hok, fl_yes hok, List.drop_drop] at hr
  rw [pre_yes hok]
  exact ⟨rfl, hr, hk⟩
/-- 'return h, ok', h a struct in the result's row. -/
theorem end_pair {fn : Func} {R : Ending → World → Prop} {p q : Tmp} {ty : TypeId} (hr : fn.results = #[.cell p ty, .tmp q]) (a : Act) (w : World) (g : Nat) (t : TypeId) (c : Array Value) (fs : Array Field) (v : Value)
    (hp : a.tmps.getD p undef = .pointer (some ⟨g, 0, none⟩)) (hq : a.tmps.getD q undef = v) (hg : w.heap[g]? = some (.cells c t (0, 0))) (hu : Try.prog.underlying ty = some (.struct fs))
    (hi : (Try.prog.info? ty).map (·.size) = some c.size) (hdf : a.defers = []) (h : R (.returned (.tuple #[.agg c, v])) w) : bodyPost Try.prog fn R .ret a w := by
  refine bodyPost_ret (v := .tuple #[.agg c, v]) ?_ hdf h
  have hp' : a.tmps[p]?.getD undef = .pointer (some ⟨g, 0, none⟩) := by simpa using hp
  have hq' : a.tmps[q]?.getD undef = v := by simpa using hq
  simp [results, hr, hp', hq', asAddr, run_loadVar_row w g t ty c (0, 0) _ hg hu rfl hi]
/-- the cells of a head. -/
def hcs (h : Hd) : Array Value := #[.int .i64 h.v, .int .i64 h.ut, .int .i64 h.sd, .int .i64 h.lp, .int .i64 h.tm, .int .i64 h.ty, .int .i64 h.ch]
theorem hcs_one (h : Hd) : (hcs h).all (·.oneCell') = true := by simp [hcs, Value.oneCell']
theorem szH : (Try.prog.info? 23).map (·.size) = some 7 := by kernel_rfl
def DecTold (f : Int → Int) (l : List Nat) (w : World) (e : Ending) (w' : World) : Prop := e = .returned (.tuple #[.agg (hcs (dec f l)), .bool (isB f l)]) ∧ Below w.heap.size w w'
theorem at4_take (l : List Nat) (k : Nat) (hk : k < 6) : at4 (l.take 44) k = at4 l k := by
  unfold at4
  rw [List.drop_take, List.take_take, Nat.min_eq_left (by omega)]
theorem four_take (l : List Nat) : (l.take 44).getD 4 0 = l.getD 4 0 := by
  simp [List.getD]
theorem cnd_take (f : Int → Int) (l : List Nat) : cnd f (l.take 44) = cnd f l := by
  unfold cnd
  rw [four_take, at4_take l 0 (by decide), at4_take l 1 (by decide), at4_take l 2 (by decide), at4_take l 3 (by decide), at4_take l 4 (by decide), at4_take l 5 (by decide)]
theorem parts {w : World} {A : Option Addr} {l : List Nat} {c : Nat} (h : RdW w (.slice A l.length c) l) (h44 : 44 ≤ l.length) :
    RdW w (.slice A 44 c) (l.take 44) ∧ RdW w (.slice (tlA A c 20) 24 (c - 20)) ((l.take 44).drop 20) ∧ 44 ≤ c ∧ ∃ b o, A = some ⟨b, o, none⟩ ∧ ∀ W, Below w.heap.size w W → W.cell? ⟨b, o + 4, none⟩ = some (.int .u8 (l.getD 4 0 : Nat)) := by
  have hl : (l.take 44).length = 44 := by rw [List.length_take]; omega
  have h1 := h.head 44 h44
  have h2 := RdW.tail (l := l.take 44) (by rw [hl]; exact h1) 20 (by omega)
  rw [hl] at h2
  obtain ⟨A', c', e, hc, _, hr⟩ := h
  cases e
  obtain ⟨b, o, rfl, hcell⟩ := hr (List.ne_nil_of_length_pos (by omega))
  have h4 := hcell 4 (by omega)
  refine ⟨h1, h2, by omega, b, o, rfl, fun W hb => ?_⟩
  rw [(hb.cell (p := ⟨b, o + 4, none⟩) (World.block_lt_of_cell? w _ h4)).trans h4]
  have h5 : 4 < l.length := by omega
  simp [List.getD, h5]
set_option maxHeartbeats 8000000 in
theorem decode_at (l : List Nat) (v : Value) (w : World) (h : RdW w v l) (hb : Bys l) (hn : l.length ≤ 9223372036854775807) : Calls Try.prog 11 #[v] w (DecTold vof l w) := by
  obtain ⟨A, c, rfl, hc, hz, hr⟩ := id h
  by_cases h44 : l.length < 44
  · have Q : Hid (∀ w', Below w.heap.size w w' → DecTold vof l w (.returned (.tuple #[.agg (hcs zero), .bool false])) w') := Lib.hid fun w' hb => ⟨by rw [is_short h44, dec_no (is_short h44)], hb⟩
    clear h hr hz hb
    go_enter Try.func11, Try.ntmps11
    go_wp2_with (refine wpList_store_row rfl 23 (.tmp 2) (.tmp 11) rfl w.heap.size (hcs zero) rfl rfl 23 _ (hp_new w _) szH rfl (hcs_one _) ?_)
    refine end_pair Try.results11 _ _ w.heap.size _ (hcs zero) _ _ rfl rfl (setRow_heap _ _ _ _ _ _ (hp_new w _)) Try.underlying23 szH rfl ?_
    exact Q.out _ (bel_setRow (bal (Below.refl _ _) _) (Nat.le_refl _) _)
  · obtain ⟨RH, RT, hc44, b, o, rfl, c4⟩ := parts h (by omega)
    have hb4 : l.getD 4 0 < 256 := by
      have h5 : 4 < l.length := by omega
      simp only [List.getD, List.getElem?_eq_getElem h5, Option.getD_some]
      exact hb _ (List.getElem_mem h5)
    have hl44 : (l.take 44).length = 44 := by rw [List.length_take]; omega
    have hbm : Bys (l.take 44) := hb.take 44
    -- the memory ahead of the first call
    have hw0 : Hid (Below w.heap.size w (w.alloc (.cells #[.int .i64 0, .int .i64 0, .int .i64 0, .int .i64 0, .int .i64 0, .int .i64 0, .int .i64 0] 23))) := Lib.hid (bal (Below.refl w.heap.size w) _)
    have box : Hid ((w.alloc (.cells #[.int .i64 0, .int .i64 0, .int .i64 0, .int .i64 0, .int .i64 0, .int .i64 0, .int .i64 0] 23)).heap[w.heap.size]? = some (.cells #[.int .i64 0, .int .i64 0, .int .i64 0, .int .i64 0, .int .i64 0, .int .i64 0, .int .i64 0] 23)) := Lib.hid (hp_new w _)
    have q1 := fun W => cutH (some ⟨b, o, none⟩) l.length c 44 44 rfl hc44 W
    have q2 : ∀ W, (Instr.slice 24 (.slice (some ⟨b, o, none⟩) 44 c) (some (.int .i64 20)) none none).run Try.prog W = .ok (.slice (tlA (some ⟨b, o, none⟩) c 20) 24 (c - 20)) W := fun W => cutT (some ⟨b, o, none⟩) 44 c 20 20 rfl (by omega) W
    have OP := Lib.hid (fun W (hb : Below w.heap.size w W) => open_at _ _ W (RT.below hb) (by rw [List.length_drop]; omega))
    have N0 := Lib.hid (num_one (l.take 44) hbm hl44 0 (by decide) 20 rfl 24 rfl)
    have N1 := Lib.hid (num_one (l.take 44) hbm hl44 1 (by decide) 24 rfl 28 rfl)
    have N2 := Lib.hid (num_one (l.take 44) hbm hl44 2 (by decide) 28 rfl 32 rfl)
    have N3 := Lib.hid (num_one (l.take 44) hbm hl44 3 (by decide) 32 rfl 36 rfl)
    have N4 := Lib.hid (num_one (l.take 44) hbm hl44 4 (by decide) 36 rfl 40 rfl)
    have N5 := Lib.hid (num_one (l.take 44) hbm hl44 5 (by decide) 40 rfl 44 rfl)
    simp only [show at4 (l.take 44) 0 = (cnd vof l).ut from at4_take l 0 (by decide)] at N0
    simp only [show at4 (l.take 44) 1 = (cnd vof l).sd from at4_take l 1 (by decide)] at N1
    simp only [show at4 (l.take 44) 2 = (cnd vof l).lp from at4_take l 2 (by decide)] at N2
    simp only [show at4 (l.take 44) 3 = (cnd vof l).tm from at4_take l 3 (by decide)] at N3
    simp only [show at4 (l.take 44) 4 = (cnd vof l).ty from at4_take l 4 (by decide)] at N4
    simp only [show at4 (l.take 44) 5 = (cnd vof l).ch from at4_take l 5 (by decide)] at N5
    have VO : Hid (∀ W, Calls Try.prog 21 #[.int .u8 (l.getD 4 0 : Nat)] W fun e w' => e = .returned (.int .i64 (cnd vof l).v) ∧ W = w') := Lib.hid (fun W => vof_at (l.getD 4 0) hb4 W)
    have RQ := Lib.hid (fun W (hb : Below w.heap.size w W) => RH.below hb)
    have C4 := Lib.hid c4
    have EQ := Lib.hid (fun W x y (hk : hd.okB (cnd vof l) = true) (hx : RdW W x (enc (cnd vof l))) (hy : RdW W y (l.take 44)) => equal_at x y (byts (cnd vof l)) _ W (by rw [← enc_yes hk]; exact hx) hy (byts_bys hk) hbm)
    have EN : Hid (∀ W, Calls Try.prog 9 #[(.agg #[.int .i64 (cnd vof l).v, .int .i64 (cnd vof l).ut, .int .i64 (cnd vof l).sd, .int .i64 (cnd vof l).lp, .int .i64 (cnd vof l).tm, .int .i64 (cnd vof l).ty, .int .i64 (cnd vof l).ch])] W fun e w' => ∃ v', e = .returned (.tuple #[v', .bool (hd.okB (cnd vof l))]) ∧ Own W.heap.size w' v' (enc (cnd vof l)) ∧ Below W.heap.size W w') := Lib.hid (fun W => encode_at (cnd vof l) W)
    have HD : Hid (dec vof l = if isB vof l = true then cnd vof l else zero) := Lib.hid rfl
    have HI : Hid (isB vof l = (hd.okB (cnd vof l) && decide (byts (cnd vof l) = l.take 44))) := Lib.hid (by unfold isB; rw [decide_eq_true (by omega : 44 ≤ l.length)]; rfl)
    have Q : Hid (∀ w' h k, h = dec vof l → k = isB vof l → Below w.heap.size w w' → DecTold vof l w (.returned (.tuple #[.agg (hcs h), .bool k])) w') := Lib.hid fun w' h k e1 e2 hb => ⟨by rw [e1, e2], hb⟩
    clear h hr hz hb hc hc44 RH RT c4 hb4 hl44 hbm
    generalize dec vof l = D at *
    generalize isB vof l = I at *
    generalize cnd vof l = X at *
    generalize (l.take 44).drop 20 = m20 at *
    generalize (l.take 44).drop 24 = m24 at *
    generalize (l.take 44).drop 28 = m28 at *
    generalize (l.take 44).drop 32 = m32 at *
    generalize (l.take 44).drop 36 = m36 at *
    generalize (l.take 44).drop 40 = m40 at *
    generalize (l.take 44).drop 44 = m44 at *
    generalize l.take 44 = m at *
    generalize l.getD 4 0 = x4 at *
    generalize hL : l.length = L at *
    clear hL
    by_cases hk : hd.okB X = true
    · have EQ2 := Lib.hid (fun W x y hx hy => EQ.out W x y hk hx hy)
      have HE : Hid (hd.okB X = true) := hk
      by_cases hm : byts X = m
      · have e1 : D = X := by rw [HD.out, if_pos (by rw [HI.out, hk, decide_eq_true hm]; rfl)]
        have e2 : I = true := by rw [HI.out, hk, decide_eq_true hm]; rfl
        have Q2 := Lib.hid (fun w' => Q.out w' X true e1.symm e2.symm)
        rw [hk] at EN
        rw [decide_eq_true hm] at EQ2
        clear e1 e2 hm hk EQ HD HI Q
        go_enter Try.func11, Try.ntmps11
        go_wp2_with (first
          | (go_at_call 20; (with_reducible refine (OP.out _ hw0.out).mono ?_); rintro e w1 ⟨g, rfl, r1, hb1⟩; have HA1 := Lib.hid hb1; have R1 := Lib.hid r1; have c4 := C4.out _ (btr hw0.out hb1); clear r1 hb1)
          | (go_at_call 21; (with_reducible refine (VO.out _).mono ?_); rintro e w' ⟨rfl, rfl⟩)
          | (go_at_call 22; (with_reducible refine (N0.out _ _ _ _ R1.out).mono ?_); rintro e w2 ⟨rfl, r2, k2⟩; have HA2 := Lib.hid (k2.to_below HA1.out R1.out.1 HA1.out.size); have R2 := Lib.hid r2; clear r2 k2 HA1 R1)
          | (go_at_call 22; (with_reducible refine (N1.out _ _ _ _ R2.out).mono ?_); rintro e w3 ⟨rfl, r3, k3⟩; have HA3 := Lib.hid (k3.to_below HA2.out R2.out.1 HA2.out.size); have R3 := Lib.hid r3; clear r3 k3 HA2 R2)
          | (go_at_call 22; (with_reducible refine (N2.out _ _ _ _ R3.out).mono ?_); rintro e w4 ⟨rfl, r4, k4⟩; have HA4 := Lib.hid (k4.to_below HA3.out R3.out.1 HA3.out.size); have R4 := Lib.hid r4; clear r4 k4 HA3 R3)
          | (go_at_call 22; (with_reducible refine (N3.out _ _ _ _ R4.out).mono ?_); rintro e w5 ⟨rfl, r5, k5⟩; have HA5 := Lib.hid (k5.to_below HA4.out R4.out.1 HA4.out.size); have R5 := Lib.hid r5; clear r5 k5 HA4 R4)
          | (go_at_call 22; (with_reducible refine (N4.out _ _ _ _ R5.out).mono ?_); rintro e w6 ⟨rfl, r6, k6⟩; have HA6 := Lib.hid (k6.to_below HA5.out R5.out.1 HA5.out.size); have R6 := Lib.hid r6; clear r6 k6 HA5 R5)
          | (go_at_call 22; (with_reducible refine (N5.out _ _ _ _ R6.out).mono ?_); rintro e w7 ⟨rfl, r7, k7⟩; have HA7 := Lib.hid (k7.to_below HA6.out R6.out.1 HA6.out.size); have R7 := Lib.hid r7; clear r7 k7 HA6 R6)
          | (go_at_call 9; (with_reducible refine (EN.out _).mono ?_); rintro e w8 ⟨v8, rfl, ho8, hb8⟩; have HO8 := Lib.hid ho8; have H8 := Lib.hid (kept (hp_new w7 _) hb8); have HA8 := Lib.hid (btr (bal HA7.out _) hb8); have HB8 := Lib.hid (btr hw0.out HA8.out); have BX8 := Lib.hid (kept box.out HA8.out); have RQ8 := Lib.hid (RQ.out _ HB8.out); have d0 := row_cell H8.out 0; have d1 := row_cell H8.out 1; have d2 := row_cell H8.out 2; have d3 := row_cell H8.out 3; have d4 := row_cell H8.out 4; have d5 := row_cell H8.out 5; have d6 := row_cell H8.out 6; clear ho8 hb8 HA7 R7)
          | (go_at_call 23; (with_reducible refine (EQ2.out _ _ _ (own_by HO8.out).rd RQ8.out).mono ?_); rintro e w9 ⟨rfl, rfl⟩)
          | (refine wpList_store_row rfl 23 (.tmp 2) (.tmp 48) rfl w.heap.size (hcs X) rfl rfl 23 _ BX8.out szH rfl (hcs_one _) ?_))
        refine end_pair Try.results11 _ _ w.heap.size _ (hcs X) _ _ rfl rfl (setRow_heap _ _ _ _ _ _ BX8.out) Try.underlying23 szH rfl ?_
        exact Q2.out _ (bel_setRow HB8.out (Nat.le_refl _) _)
      · have e1 : D = zero := by rw [HD.out, if_neg (by rw [HI.out, hk, decide_eq_false hm]; decide)]
        have e2 : I = false := by rw [HI.out, hk, decide_eq_false hm]; rfl
        have Q2 := Lib.hid (fun w' => Q.out w' zero false e1.symm e2.symm)
        rw [hk] at EN
        rw [decide_eq_false hm] at EQ2
        clear e1 e2 hm hk EQ HD HI Q
        go_enter Try.func11, Try.ntmps11
        go_wp2_with (first
          | (go_at_call 20; (with_reducible refine (OP.out _ hw0.out).mono ?_); rintro e w1 ⟨g, rfl, r1, hb1⟩; have HA1 := Lib.hid hb1; have R1 := Lib.hid r1; have c4 := C4.out _ (btr hw0.out hb1); clear r1 hb1)
          | (go_at_call 21; (with_reducible refine (VO.out _).mono ?_); rintro e w' ⟨rfl, rfl⟩)
          | (go_at_call 22; (with_reducible refine (N0.out _ _ _ _ R1.out).mono ?_); rintro e w2 ⟨rfl, r2, k2⟩; have HA2 := Lib.hid (k2.to_below HA1.out R1.out.1 HA1.out.size); have R2 := Lib.hid r2; clear r2 k2 HA1 R1)
          | (go_at_call 22; (with_reducible refine (N1.out _ _ _ _ R2.out).mono ?_); rintro e w3 ⟨rfl, r3, k3⟩; have HA3 := Lib.hid (k3.to_below HA2.out R2.out.1 HA2.out.size); have R3 := Lib.hid r3; clear r3 k3 HA2 R2)
          | (go_at_call 22; (with_reducible refine (N2.out _ _ _ _ R3.out).mono ?_); rintro e w4 ⟨rfl, r4, k4⟩; have HA4 := Lib.hid (k4.to_below HA3.out R3.out.1 HA3.out.size); have R4 := Lib.hid r4; clear r4 k4 HA3 R3)
          | (go_at_call 22; (with_reducible refine (N3.out _ _ _ _ R4.out).mono ?_); rintro e w5 ⟨rfl, r5, k5⟩; have HA5 := Lib.hid (k5.to_below HA4.out R4.out.1 HA4.out.size); have R5 := Lib.hid r5; clear r5 k5 HA4 R4)
          | (go_at_call 22; (with_reducible refine (N4.out _ _ _ _ R5.out).mono ?_); rintro e w6 ⟨rfl, r6, k6⟩; have HA6 := Lib.hid (k6.to_below HA5.out R5.out.1 HA5.out.size); have R6 := Lib.hid r6; clear r6 k6 HA5 R5)
          | (go_at_call 22; (with_reducible refine (N5.out _ _ _ _ R6.out).mono ?_); rintro e w7 ⟨rfl, r7, k7⟩; have HA7 := Lib.hid (k7.to_below HA6.out R6.out.1 HA6.out.size); have R7 := Lib.hid r7; clear r7 k7 HA6 R6)
          | (go_at_call 9; (with_reducible refine (EN.out _).mono ?_); rintro e w8 ⟨v8, rfl, ho8, hb8⟩; have HO8 := Lib.hid ho8; have H8 := Lib.hid (kept (hp_new w7 _) hb8); have HA8 := Lib.hid (btr (bal HA7.out _) hb8); have HB8 := Lib.hid (btr hw0.out HA8.out); have BX8 := Lib.hid (kept box.out HA8.out); have RQ8 := Lib.hid (RQ.out _ HB8.out); have d0 := row_cell H8.out 0; have d1 := row_cell H8.out 1; have d2 := row_cell H8.out 2; have d3 := row_cell H8.out 3; have d4 := row_cell H8.out 4; have d5 := row_cell H8.out 5; have d6 := row_cell H8.out 6; clear ho8 hb8 HA7 R7)
          | (go_at_call 23; (with_reducible refine (EQ2.out _ _ _ (own_by HO8.out).rd RQ8.out).mono ?_); rintro e w9 ⟨rfl, rfl⟩)
          | (refine wpList_store_row rfl 23 (.tmp 2) (.tmp 47) rfl w.heap.size (hcs zero) rfl rfl 23 _ BX8.out szH rfl (hcs_one _) ?_))
        refine end_pair Try.results11 _ _ w.heap.size _ (hcs zero) _ _ rfl rfl (setRow_heap _ _ _ _ _ _ BX8.out) Try.underlying23 szH rfl ?_
        exact Q2.out _ (bel_setRow HB8.out (Nat.le_refl _) _)
    · have hk' : hd.okB X = false := by simpa using hk
      have e1 : D = zero := by rw [HD.out, if_neg (by rw [HI.out, hk']; simp)]
      have e2 : I = false := by rw [HI.out, hk']; rfl
      have Q2 := Lib.hid (fun w' => Q.out w' zero false e1.symm e2.symm)
      rw [hk'] at EN
      clear e1 e2 hk hk' EQ HD HI Q
      go_enter Try.func11, Try.ntmps11
      go_wp2_with (first
        | (go_at_call 20; (with_reducible refine (OP.out _ hw0.out).mono ?_); rintro e w1 ⟨g, rfl, r1, hb1⟩; have HA1 := Lib.hid hb1; have R1 := Lib.hid r1; have c4 := C4.out _ (btr hw0.out hb1); clear r1 hb1)
        | (go_at_call 21; (with_reducible refine (VO.out _).mono ?_); rintro e w' ⟨rfl, rfl⟩)
        | (go_at_call 22; (with_reducible refine (N0.out _ _ _ _ R1.out).mono ?_); rintro e w2 ⟨rfl, r2, k2⟩; have HA2 := Lib.hid (k2.to_below HA1.out R1.out.1 HA1.out.size); have R2 := Lib.hid r2; clear r2 k2 HA1 R1)
        | (go_at_call 22; (with_reducible refine (N1.out _ _ _ _ R2.out).mono ?_); rintro e w3 ⟨rfl, r3, k3⟩; have HA3 := Lib.hid (k3.to_below HA2.out R2.out.1 HA2.out.size); have R3 := Lib.hid r3; clear r3 k3 HA2 R2)
        | (go_at_call 22; (with_reducible refine (N2.out _ _ _ _ R3.out).mono ?_); rintro e w4 ⟨rfl, r4, k4⟩; have HA4 := Lib.hid (k4.to_below HA3.out R3.out.1 HA3.out.size); have R4 := Lib.hid r4; clear r4 k4 HA3 R3)
        | (go_at_call 22; (with_reducible refine (N3.out _ _ _ _ R4.out).mono ?_); rintro e w5 ⟨rfl, r5, k5⟩; have HA5 := Lib.hid (k5.to_below HA4.out R4.out.1 HA4.out.size); have R5 := Lib.hid r5; clear r5 k5 HA4 R4)
        | (go_at_call 22; (with_reducible refine (N4.out _ _ _ _ R5.out).mono ?_); rintro e w6 ⟨rfl, r6, k6⟩; have HA6 := Lib.hid (k6.to_below HA5.out R5.out.1 HA5.out.size); have R6 := Lib.hid r6; clear r6 k6 HA5 R5)
        | (go_at_call 22; (with_reducible refine (N5.out _ _ _ _ R6.out).mono ?_); rintro e w7 ⟨rfl, r7, k7⟩; have HA7 := Lib.hid (k7.to_below HA6.out R6.out.1 HA6.out.size); have R7 := Lib.hid r7; clear r7 k7 HA6 R6)
        | (go_at_call 9; (with_reducible refine (EN.out _).mono ?_); rintro e w8 ⟨v8, rfl, ho8, hb8⟩; have HO8 := Lib.hid ho8; have H8 := Lib.hid (kept (hp_new w7 _) hb8); have HA8 := Lib.hid (btr (bal HA7.out _) hb8); have HB8 := Lib.hid (btr hw0.out HA8.out); have BX8 := Lib.hid (kept box.out HA8.out); have RQ8 := Lib.hid (RQ.out _ HB8.out); have d0 := row_cell H8.out 0; have d1 := row_cell H8.out 1; have d2 := row_cell H8.out 2; have d3 := row_cell H8.out 3; have d4 := row_cell H8.out 4; have d5 := row_cell H8.out 5; have d6 := row_cell H8.out 6; clear ho8 hb8 HA7 R7)
        | (refine wpList_store_row rfl 23 (.tmp 2) (.tmp 47) rfl w.heap.size (hcs zero) rfl rfl 23 _ BX8.out szH rfl (hcs_one _) ?_))
      refine end_pair Try.results11 _ _ w.heap.size _ (hcs zero) _ _ rfl rfl (setRow_heap _ _ _ _ _ _ BX8.out) Try.underlying23 szH rfl ?_
      exact Q2.out _ (bel_setRow HB8.out (Nat.le_refl _) _)
end Go.Proofs.Ytkbpmopnphcfjaa.head
