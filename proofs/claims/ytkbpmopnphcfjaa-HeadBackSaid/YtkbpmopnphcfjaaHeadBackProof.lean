/-
  HeadBack: heads and their bytes are each other's, whatever follows, for any head and any bytes. No condition.
-/
import Derived.Test.YtkbpmopnphcfjaaHeadUse
import Derived.BigQuiet
namespace Go.Proofs.Ytkbpmopnphcfjaa.headBack
open Go.ChangeShapes Go.WideShapes Go.ChangeAt Go.RowKit
open om mem oct hd head
set_option linter.unusedVariables false
set_option maxRecDepth 100000

theorem to_old {h : Hd} {w W : World} (hb : Below (w.alloc (.cells #[.int .i64 h.v, .int .i64 h.ut, .int .i64 h.sd, .int .i64 h.lp, .int .i64 h.tm, .int .i64 h.ty, .int .i64 h.ch] 23)).heap.size (w.alloc (.cells #[.int .i64 h.v, .int .i64 h.ut, .int .i64 h.sd, .int .i64 h.lp, .int .i64 h.tm, .int .i64 h.ty, .int .i64 h.ch] 23)) W) : Below w.heap.size w W := btr (bal (Below.refl _ _) _) hb
set_option maxHeartbeats 8000000 in
theorem walk (w : World) (h : Hd) (hbd : Bd h) (l : List Nat) (bv : Value) (hl : RdW w bv l) (hby : Bys l) (hn : l.length ≤ 9223372036854775807) : Calls Try.prog 4 #[(.agg #[.int .i64 h.v, .int .i64 h.ut, .int .i64 h.sd, .int .i64 h.lp, .int .i64 h.tm, .int .i64 h.ty, .int .i64 h.ch]), bv] w fun e w' => e = .returned (.bool true) ∧ Below w.heap.size w w' := by
  have SM := Lib.hid (fun W => small_at W)
  have T := box_tells h w
  have TO := Lib.hid (fun W hb => to_old (h := h) (w := w) (W := W) hb)
  obtain ⟨A, cp, rfl, hc, hz, hr⟩ := id hl
  have HL := Lib.hid (fun W (hb : Below w.heap.size w W) => hl.below hb)
  clear hbd hz hr
  by_cases hbig : 500 < l.length
  · clear hl hby
    generalize l.length = L at *
    go_enter Try.func4, Try.ntmps4
    go_wp2_with (go_at_call 8; (with_reducible refine (SM.out _).mono ?_); rintro e w1 ⟨rfl, hb1⟩; have HA1 := Lib.hid hb1; clear hb1)
    go_ret
    exact ⟨rfl, TO.out _ HA1.out⟩
  have hsm : l.length ≤ 500 := by omega
  clear hbig hn
  by_cases hok : hd.okB h = true
  · have EN := Lib.hid (fun W => enc_right hok W)
    have RI := Lib.hid (fun W => right_at h W)
    rw [hok] at RI
    have DA : Hid (∀ W v, RdW W v (byts h ++ l) → Calls Try.prog 11 #[v] W fun e w' => e = .returned (.tuple #[(.agg #[.int .i64 h.v, .int .i64 h.ut, .int .i64 h.sd, .int .i64 h.lp, .int .i64 h.tm, .int .i64 h.ty, .int .i64 h.ch]), .bool true]) ∧ Below W.heap.size W w') := Lib.hid fun W v hv => by
      have := dec_is (is_byts hok l).1 v W hv ((byts_bys hok).app hby) (by rw [List.length_append, byts_len]; omega)
      rw [(is_byts hok l).2] at this
      exact this
    have BL : Hid ((byts h).length + l.length < 8000000000000) := Lib.hid (by rw [byts_len]; omega)
    have EH : ∀ W, (Op.equalIn 10000 23 (.agg #[.int .i64 h.v, .int .i64 h.ut, .int .i64 h.sd, .int .i64 h.lp, .int .i64 h.tm, .int .i64 h.ty, .int .i64 h.ch]) (.agg #[.int .i64 h.v, .int .i64 h.ut, .int .i64 h.sd, .int .i64 h.lp, .int .i64 h.tm, .int .i64 h.ty, .int .i64 h.ch])).run Try.prog W = .ok true W := fun W => by have := eqH h h W; rw [hdb_self] at this; exact this
    clear hok
    generalize byts h = bh at *
    by_cases hi : isB vof l = true
    · have hX : Heads (cnd vof l) l := (is_iff vof_vb).1 ⟨hi, rfl⟩
      have DB := Lib.hid (fun W v hv => dec_is hi v W hv hby (by omega))
      have e0 : dec vof l = cnd vof l := dec_yes hi
      rw [e0] at DB
      obtain ⟨xok, xby⟩ := hX
      have h44 : 44 ≤ l.length := by have := congrArg List.length xby; rw [byts_len, List.length_take] at this; omega
      have g44 : decide ((44 : Int) ≤ (l.length : Int)) = true := by simp only [decide_eq_true_eq]; omega
      have EX := Lib.hid (fun W => enc_right xok W)
      have RX := Lib.hid (fun W => right_at (cnd vof l) W)
      rw [xok] at RX
      rw [xby] at EX
      have SL : ∀ W, (Instr.slice 24 (.slice A l.length cp) none (some (.int .i64 44)) none).run Try.prog W = .ok (.slice A 44 cp) W := fun W => cutH A l.length cp 44 44 rfl (by omega) W
      have H44 := Lib.hid (fun W (hb : Below w.heap.size w W) => (hl.below hb).head 44 h44)
      clear e0 xok xby hi hl hby
      generalize cnd vof l = X at *
      generalize l.take 44 = m at *
      go_enter Try.func4, Try.ntmps4
      go_wp2_with (first
        | (go_at_call 8; (with_reducible refine (SM.out _).mono ?_); rintro e w1 ⟨rfl, hb1⟩; have HA1 := Lib.hid hb1; obtain ⟨c0, c1, c2, c3, c4, c5, c6, hb2, hs1⟩ := T.out _ hb1; clear hb1)
        | (go_at_call 9; first
            | ((with_reducible refine (EN.out _).mono ?_); rintro e w2 ⟨ga, ca, rfl, hca, hoa, hb⟩; have B12 := Lib.hid hb; have HA2 := Lib.hid (btr HA1.out hb); have OA := Lib.hid hoa; clear c0 c1 c2 c3 c4 c5 c6 hb2 hs1; obtain ⟨c0, c1, c2, c3, c4, c5, c6, hb2, hs1⟩ := T.out _ HA2.out; clear hoa hb EN)
            | ((with_reducible refine (EX.out _).mono ?_); rintro e w7 ⟨gx, cx, rfl, hcx, hox, hb⟩; have HA7 := Lib.hid (btr (bal HA6.out _) hb); have OX := Lib.hid hox; have BX := Lib.hid (kept (hp_new w6 _) hb); clear hox hb hcx))
        | (go_at_call 13; (with_reducible refine (RI.out _).mono ?_); rintro e w3 ⟨rfl, hb⟩; have HA3 := Lib.hid (btr HA2.out hb); have B13 := Lib.hid (btr B12.out hb); have OA3 := Lib.hid (own_kept OA.out hb); clear c0 c1 c2 c3 c4 c5 c6 hb2 hs1; obtain ⟨c0, c1, c2, c3, c4, c5, c6, hb2, hs1⟩ := T.out _ HA3.out; clear hb RI)
        | (at_builtin; refine app_any rfl _ _ rfl w1.heap.size w3 (.slice (some ⟨ga, 0, none⟩) 44 ca) (.slice A l.length cp) bh l rfl rfl OA3.out (HL.out _ (TO.out _ HA3.out)) BL.out B13.out.size ?_; intro v4 w4 ho4 hg4; have O4 := Lib.hid ho4; have HA4 := Lib.hid (btr HA1.out (own_below OA3.out B13.out B13.out.size hg4)); clear c0 c1 c2 c3 c4 c5 c6 hb2 hs1; obtain ⟨c0, c1, c2, c3, c4, c5, c6, hb2, hs1⟩ := T.out _ HA4.out; clear ho4 hg4)
        | (go_at_call 11; first
            | ((with_reducible refine (DA.out _ _ (own_by O4.out).rd).mono ?_); rintro e w5 ⟨rfl, hb⟩; have HA5 := Lib.hid (btr HA4.out hb); clear c0 c1 c2 c3 c4 c5 c6 hb2 hs1; obtain ⟨c0, c1, c2, c3, c4, c5, c6, hb2, hs1⟩ := T.out _ HA5.out; clear hb O4 HA4 DA)
            | ((with_reducible refine (DB.out _ _ (HL.out _ (TO.out _ (bal HA5.out _)))).mono ?_); rintro e w6 ⟨rfl, hb⟩; have HA6 := Lib.hid (btr (bal HA5.out _) hb); clear c0 c1 c2 c3 c4 c5 c6 hb2 hs1; clear hb DB)))
      have d0 := row_cell BX.out 0
      have d1 := row_cell BX.out 1
      have d2 := row_cell BX.out 2
      have d3 := row_cell BX.out 3
      have d4 := row_cell BX.out 4
      have d5 := row_cell BX.out 5
      have d6 := row_cell BX.out 6
      have HB7 := Lib.hid (TO.out _ HA7.out)
      have cq0 := fun d' os => cell_regrown (w := w7) d0 d' os
      have cq1 := fun d' os => cell_regrown (w := w7) d1 d' os
      have cq2 := fun d' os => cell_regrown (w := w7) d2 d' os
      have cq3 := fun d' os => cell_regrown (w := w7) d3 d' os
      have cq4 := fun d' os => cell_regrown (w := w7) d4 d' os
      have cq5 := fun d' os => cell_regrown (w := w7) d5 d' os
      have cq6 := fun d' os => cell_regrown (w := w7) d6 d' os
      have XQ0 := Lib.hid (fun d' os => below_of RX.out w7 d' os)
      have s1 := fun d' os => str_of ((own_by OX.out).rd.below (below_regrown w7 d' os))
      have s2 := fun d' os => str_of ((H44.out _ HB7.out).below (below_regrown w7 d' os))
      refine wp_region_quiet_below (by kernel_rfl) (by kernel_rfl) ?_
      repeat (first
        | quiet_step ((go_at_call 13; with_reducible exact XQ0.out _ _))
        | (refine qconv rfl 24 9 (.tmp 85) rfl (.string (strN m)) (fun W hW => ?_) ?_; (next => obtain ⟨⟨dq, osq⟩, rfl⟩ := hW; exact s1 dq osq))
        | (refine qconv rfl 24 9 (.tmp 88) rfl (.string (strN m)) (fun W hW => ?_) ?_; (next => obtain ⟨⟨dq, osq⟩, rfl⟩ := hW; exact s2 dq osq)))
      refine wpQuiet_nil ?_
      intro _ hw'
      obtain ⟨⟨dq, osq⟩, hw''⟩ := hw'
      subst hw''
      go_wp2
      go_ret
      exact ⟨by first | rfl | simp, btr HB7.out (below_regrown _ dq osq)⟩
    · have hi' : isB vof l = false := by simpa using hi
      have DB := Lib.hid (fun W v hv => dec_not hi' v W hv hby (by omega))
      have EZ := eqZ
      clear hi hi' hl hby
      go_enter Try.func4, Try.ntmps4
      go_wp2_with (first
        | (go_at_call 8; (with_reducible refine (SM.out _).mono ?_); rintro e w1 ⟨rfl, hb1⟩; have HA1 := Lib.hid hb1; obtain ⟨c0, c1, c2, c3, c4, c5, c6, hb2, hs1⟩ := T.out _ hb1; clear hb1)
        | (go_at_call 9; first
            | ((with_reducible refine (EN.out _).mono ?_); rintro e w2 ⟨ga, ca, rfl, hca, hoa, hb⟩; have B12 := Lib.hid hb; have HA2 := Lib.hid (btr HA1.out hb); have OA := Lib.hid hoa; clear c0 c1 c2 c3 c4 c5 c6 hb2 hs1; obtain ⟨c0, c1, c2, c3, c4, c5, c6, hb2, hs1⟩ := T.out _ HA2.out; clear hoa hb EN))
        | (go_at_call 13; (with_reducible refine (RI.out _).mono ?_); rintro e w3 ⟨rfl, hb⟩; have HA3 := Lib.hid (btr HA2.out hb); have B13 := Lib.hid (btr B12.out hb); have OA3 := Lib.hid (own_kept OA.out hb); clear c0 c1 c2 c3 c4 c5 c6 hb2 hs1; obtain ⟨c0, c1, c2, c3, c4, c5, c6, hb2, hs1⟩ := T.out _ HA3.out; clear hb RI)
        | (at_builtin; refine app_any rfl _ _ rfl w1.heap.size w3 (.slice (some ⟨ga, 0, none⟩) 44 ca) (.slice A l.length cp) bh l rfl rfl OA3.out (HL.out _ (TO.out _ HA3.out)) BL.out B13.out.size ?_; intro v4 w4 ho4 hg4; have O4 := Lib.hid ho4; have HA4 := Lib.hid (btr HA1.out (own_below OA3.out B13.out B13.out.size hg4)); clear c0 c1 c2 c3 c4 c5 c6 hb2 hs1; obtain ⟨c0, c1, c2, c3, c4, c5, c6, hb2, hs1⟩ := T.out _ HA4.out; clear ho4 hg4)
        | (go_at_call 11; first
            | ((with_reducible refine (DA.out _ _ (own_by O4.out).rd).mono ?_); rintro e w5 ⟨rfl, hb⟩; have HA5 := Lib.hid (btr HA4.out hb); clear c0 c1 c2 c3 c4 c5 c6 hb2 hs1; obtain ⟨c0, c1, c2, c3, c4, c5, c6, hb2, hs1⟩ := T.out _ HA5.out; clear hb O4 HA4 DA)
            | ((with_reducible refine (DB.out _ _ (HL.out _ (TO.out _ (bal HA5.out _)))).mono ?_); rintro e w6 ⟨rfl, hb⟩; have HA6 := Lib.hid (btr (bal HA5.out _) hb); clear c0 c1 c2 c3 c4 c5 c6 hb2 hs1; clear hb DB)))
      go_ret
      exact ⟨rfl, TO.out _ (bal HA6.out _)⟩
  · have hok' : hd.okB h = false := by simpa using hok
    have EN := Lib.hid (fun W => enc_wrong hok' W)
    have RI := Lib.hid (fun W => right_at h W)
    rw [hok'] at RI
    clear hok hok'
    by_cases hi : isB vof l = true
    · have hX : Heads (cnd vof l) l := (is_iff vof_vb).1 ⟨hi, rfl⟩
      have DB := Lib.hid (fun W v hv => dec_is hi v W hv hby (by omega))
      have e0 : dec vof l = cnd vof l := dec_yes hi
      rw [e0] at DB
      obtain ⟨xok, xby⟩ := hX
      have h44 : 44 ≤ l.length := by have := congrArg List.length xby; rw [byts_len, List.length_take] at this; omega
      have g44 : decide ((44 : Int) ≤ (l.length : Int)) = true := by simp only [decide_eq_true_eq]; omega
      have EX := Lib.hid (fun W => enc_right xok W)
      have RX := Lib.hid (fun W => right_at (cnd vof l) W)
      rw [xok] at RX
      rw [xby] at EX
      have SL : ∀ W, (Instr.slice 24 (.slice A l.length cp) none (some (.int .i64 44)) none).run Try.prog W = .ok (.slice A 44 cp) W := fun W => cutH A l.length cp 44 44 rfl (by omega) W
      have H44 := Lib.hid (fun W (hb : Below w.heap.size w W) => (hl.below hb).head 44 h44)
      clear e0 xok xby hi hl hby
      generalize cnd vof l = X at *
      generalize l.take 44 = m at *
      go_enter Try.func4, Try.ntmps4
      go_wp2_with (first
        | (go_at_call 8; (with_reducible refine (SM.out _).mono ?_); rintro e w1 ⟨rfl, hb1⟩; have HA1 := Lib.hid hb1; obtain ⟨c0, c1, c2, c3, c4, c5, c6, hb2, hs1⟩ := T.out _ hb1; clear hb1)
        | (go_at_call 9; first
            | ((with_reducible refine (EN.out _).mono ?_); rintro e w2 ⟨Aa, ca, rfl, hoa, hb⟩; have HA2 := Lib.hid (btr HA1.out hb); clear c0 c1 c2 c3 c4 c5 c6 hb2 hs1; obtain ⟨c0, c1, c2, c3, c4, c5, c6, hb2, hs1⟩ := T.out _ HA2.out; clear hoa hb EN)
            | ((with_reducible refine (EX.out _).mono ?_); rintro e w7 ⟨gx, cx, rfl, hcx, hox, hb⟩; have HA7 := Lib.hid (btr (bal HA6.out _) hb); have OX := Lib.hid hox; have BX := Lib.hid (kept (hp_new w6 _) hb); clear hox hb hcx))
        | (go_at_call 13; (with_reducible refine (RI.out _).mono ?_); rintro e w3 ⟨rfl, hb⟩; have HA3 := Lib.hid (btr HA2.out hb); clear c0 c1 c2 c3 c4 c5 c6 hb2 hs1; obtain ⟨c0, c1, c2, c3, c4, c5, c6, hb2, hs1⟩ := T.out _ HA3.out; clear hb RI)
        | (go_at_call 11; first
            | ((with_reducible refine (DB.out _ _ (HL.out _ (TO.out _ HA3.out))).mono ?_); rintro e w6 ⟨rfl, hb⟩; have HA6 := Lib.hid (btr HA3.out hb); clear c0 c1 c2 c3 c4 c5 c6 hb2 hs1; clear hb DB)))
      have d0 := row_cell BX.out 0
      have d1 := row_cell BX.out 1
      have d2 := row_cell BX.out 2
      have d3 := row_cell BX.out 3
      have d4 := row_cell BX.out 4
      have d5 := row_cell BX.out 5
      have d6 := row_cell BX.out 6
      have HB7 := Lib.hid (TO.out _ HA7.out)
      have cq0 := fun d' os => cell_regrown (w := w7) d0 d' os
      have cq1 := fun d' os => cell_regrown (w := w7) d1 d' os
      have cq2 := fun d' os => cell_regrown (w := w7) d2 d' os
      have cq3 := fun d' os => cell_regrown (w := w7) d3 d' os
      have cq4 := fun d' os => cell_regrown (w := w7) d4 d' os
      have cq5 := fun d' os => cell_regrown (w := w7) d5 d' os
      have cq6 := fun d' os => cell_regrown (w := w7) d6 d' os
      have XQ0 := Lib.hid (fun d' os => below_of RX.out w7 d' os)
      have s1 := fun d' os => str_of ((own_by OX.out).rd.below (below_regrown w7 d' os))
      have s2 := fun d' os => str_of ((H44.out _ HB7.out).below (below_regrown w7 d' os))
      refine wp_region_quiet_below (by kernel_rfl) (by kernel_rfl) ?_
      repeat (first
        | quiet_step ((go_at_call 13; with_reducible exact XQ0.out _ _))
        | (refine qconv rfl 24 9 (.tmp 85) rfl (.string (strN m)) (fun W hW => ?_) ?_; (next => obtain ⟨⟨dq, osq⟩, rfl⟩ := hW; exact s1 dq osq))
        | (refine qconv rfl 24 9 (.tmp 88) rfl (.string (strN m)) (fun W hW => ?_) ?_; (next => obtain ⟨⟨dq, osq⟩, rfl⟩ := hW; exact s2 dq osq)))
      refine wpQuiet_nil ?_
      intro _ hw'
      obtain ⟨⟨dq, osq⟩, hw''⟩ := hw'
      subst hw''
      go_wp2
      go_ret
      exact ⟨by first | rfl | simp, btr HB7.out (below_regrown _ dq osq)⟩
    · have hi' : isB vof l = false := by simpa using hi
      have DB := Lib.hid (fun W v hv => dec_not hi' v W hv hby (by omega))
      have EZ := eqZ
      clear hi hi' hl hby
      go_enter Try.func4, Try.ntmps4
      go_wp2_with (first
        | (go_at_call 8; (with_reducible refine (SM.out _).mono ?_); rintro e w1 ⟨rfl, hb1⟩; have HA1 := Lib.hid hb1; obtain ⟨c0, c1, c2, c3, c4, c5, c6, hb2, hs1⟩ := T.out _ hb1; clear hb1)
        | (go_at_call 9; first
            | ((with_reducible refine (EN.out _).mono ?_); rintro e w2 ⟨Aa, ca, rfl, hoa, hb⟩; have HA2 := Lib.hid (btr HA1.out hb); clear c0 c1 c2 c3 c4 c5 c6 hb2 hs1; obtain ⟨c0, c1, c2, c3, c4, c5, c6, hb2, hs1⟩ := T.out _ HA2.out; clear hoa hb EN))
        | (go_at_call 13; (with_reducible refine (RI.out _).mono ?_); rintro e w3 ⟨rfl, hb⟩; have HA3 := Lib.hid (btr HA2.out hb); clear c0 c1 c2 c3 c4 c5 c6 hb2 hs1; obtain ⟨c0, c1, c2, c3, c4, c5, c6, hb2, hs1⟩ := T.out _ HA3.out; clear hb RI)
        | (go_at_call 11; first
            | ((with_reducible refine (DB.out _ _ (HL.out _ (TO.out _ HA3.out))).mono ?_); rintro e w6 ⟨rfl, hb⟩; have HA6 := Lib.hid (btr HA3.out hb); clear c0 c1 c2 c3 c4 c5 c6 hb2 hs1; clear hb DB)))
      go_ret
      exact ⟨rfl, TO.out _ (bal HA6.out _)⟩
set_option maxRecDepth 100000 in
theorem lifted (os : Os) (started : os.Started) (H : Type) (enc : TypeId × Value → H) :
    ReturnsInHanded {} Try.checked os 4 .any (Rows.headBackSpec.pre6 enc Try.prog Try.f4 Rows.headBackRow.domain false) (Rows.headBackSpec.post enc Try.prog Try.f4 false true false false) := by
  refine returnsInHanded_of_change (C := Try.checked) law.own started (by kernel_rfl) Try.func4
    (ChangeSpec.witness6 (enc := enc) (C := Try.checked) false ⟨#[], #[.agg #[.int .i64 0, .int .i64 0, .int .i64 0, .int .i64 0, .int .i64 0, .int .i64 0, .int .i64 0], .slice none 0 0], []⟩ 8 (by kernel_rfl) (by kernel_rfl) (by kernel_rfl) (by kernel_rfl)) ?_
  intro W base args ds gs before hval0 hW hcnd _
  have hval : ∀ (j : Nat) t v, Try.f4.params[j]? = some t → args[j]? = some v → Value.okWide Try.prog W .any base t v := hval0
  have hW' := hW
  obtain ⟨p, q, hA0, hV, rfl, hfz, hnd⟩ := hW
  have hA : DataW.TrodAll enc Try.prog W 0 (fun _ => true) true Try.f4.params.toList args.toList ds p := hA0
  rw [Try.params4] at hA hval
  obtain ⟨v0, vs0, d0, ds0, p0, q0, hargs, rfl, rfl, h0, r0⟩ := trodAll_cons hA
  obtain ⟨v1, vs1, d1, ds1, p1, q1, rfl, rfl, rfl, h1, r1⟩ := trodAll_cons r0
  obtain ⟨rfl, rfl, rfl⟩ := trodAll_nil r1
  obtain rfl : args = #[v0, v1] := by cases args; simp_all
  obtain ⟨rfl, rfl⟩ := trodVars_none hV
  clear hA0 hval0
  obtain ⟨z0_, rfl, b0_⟩ := head.open_head (hval 0 23 v0 rfl rfl) h0
  obtain ⟨l1_, r1_, s1_, u1_⟩ := oct.open_bytes (hval 1 24 v1 rfl rfl) h1
  refine (Calls.mono (R := fun e w' => e = .returned (.bool true) ∧ Below W.heap.size W w') ?_ fun e W' ⟨he, hb⟩ => ?_)
  · exact walk W z0_ b0_ l1_ v1 r1_ s1_ u1_
  · subst he
    exact ⟨_, rfl, law.post law.laidOut (by kernel_rfl) rfl rfl Try.underlying4 rfl hW' hb⟩

theorem over : Rows.headBackRow.holds Try.pinned (OpenSpec.ofChange Rows.headBackSpec) :=
  OpenClaim.holds_of_wide 4 Try.f4 rfl rfl rfl rfl rfl rfl rfl ⟨rfl, rfl, rfl, rfl, rfl⟩ rfl rfl rfl rfl rfl (by kernel_rfl) Try.func4 (by kernel_rfl)
    (of_decide_eq_true (by kernel_rfl)) (by unfold Func.isWrapper; first | (rw [if_pos (by decide +kernel)]; kernel_rfl) | (rw [if_neg (by decide +kernel)]; exact ⟨rfl, rfl⟩))
    (fun os started H enc _ => lifted os started H enc)

theorem proved : Rows.HeadBackSaid := over
end Go.Proofs.Ytkbpmopnphcfjaa.headBack
