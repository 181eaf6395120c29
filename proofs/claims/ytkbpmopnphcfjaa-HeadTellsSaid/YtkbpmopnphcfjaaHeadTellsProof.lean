/-
  HeadTells: which heads are right, their bytes, and what is read are as the document says, for any head, any bytes and any size. No condition.
-/
import Derived.Test.YtkbpmopnphcfjaaRef15Dec
namespace Go.Proofs.Ytkbpmopnphcfjaa.headTells
open Go.ChangeShapes Go.WideShapes Go.ChangeAt Go.RowKit
open om mem oct hd head
set_option linter.unusedVariables false
set_option maxRecDepth 100000

theorem to_old {h : Hd} {w W : World} (hb : Below (w.alloc (.cells #[.int .i64 h.v, .int .i64 h.ut, .int .i64 h.sd, .int .i64 h.lp, .int .i64 h.tm, .int .i64 h.ty, .int .i64 h.ch] 23)).heap.size (w.alloc (.cells #[.int .i64 h.v, .int .i64 h.ut, .int .i64 h.sd, .int .i64 h.lp, .int .i64 h.tm, .int .i64 h.ty, .int .i64 h.ch] 23)) W) : Below w.heap.size w W := btr (bal (Below.refl _ _) _) hb
theorem ref_dec {l : List Nat} (v : Value) (W : World) (h : RdW W v l) (hb : Bys l) (hn : l.length ≤ 9223372036854775807) : Calls Try.prog 12 #[v] W fun e w' => e = .returned (.tuple #[(.agg #[.int .i64 (dec vof l).v, .int .i64 (dec vof l).ut, .int .i64 (dec vof l).sd, .int .i64 (dec vof l).lp, .int .i64 (dec vof l).tm, .int .i64 (dec vof l).ty, .int .i64 (dec vof l).ch]), .bool (isB vof l)]) ∧ Below W.heap.size W w' :=
  (ref15.decode_at l v W h hb hn).mono fun e w' ⟨he, hb⟩ => by
    rw [dec_same, is_same] at he
    exact ⟨he, hb⟩
set_option maxHeartbeats 8000000 in
theorem walk (w : World) (h : Hd) (hbd : Bd h) (l : List Nat) (bv : Value) (hl : RdW w bv l) (hby : Bys l) (hn : l.length ≤ 9223372036854775807) (s : Int) (hs : -9223372036854775808 ≤ s ∧ s ≤ 9223372036854775807) : Calls Try.prog 3 #[(.agg #[.int .i64 h.v, .int .i64 h.ut, .int .i64 h.sd, .int .i64 h.lp, .int .i64 h.tm, .int .i64 h.ty, .int .i64 h.ch]), bv, .int .i64 s] w fun e w' => e = .returned (.bool true) ∧ Below w.heap.size w w' := by
  have SM := Lib.hid (fun W => small_at W)
  have T := box_tells h w
  have TO := Lib.hid (fun W hb => to_old (h := h) (w := w) (W := W) hb)
  obtain ⟨A, cp, rfl, hc, hz, hr⟩ := id hl
  have HL := Lib.hid (fun W (hb : Below w.heap.size w W) => hl.below hb)
  clear hbd hz hr hs
  by_cases hbig : 500 < l.length
  · clear hl hby
    generalize l.length = L at *
    go_enter Try.func3, Try.ntmps3
    go_wp2_with (go_at_call 8; (with_reducible refine (SM.out _).mono ?_); rintro e w1 ⟨rfl, hb1⟩; have HA1 := Lib.hid hb1; clear hb1)
    go_ret
    exact ⟨rfl, TO.out _ HA1.out⟩
  have hsm : l.length ≤ 500 := by omega
  clear hbig hn
  have EN : Hid (∀ W, Calls Try.prog 9 #[(.agg #[.int .i64 h.v, .int .i64 h.ut, .int .i64 h.sd, .int .i64 h.lp, .int .i64 h.tm, .int .i64 h.ty, .int .i64 h.ch])] W fun e w' => ∃ v', e = .returned (.tuple #[v', .bool (hd.okB h)]) ∧ Own W.heap.size w' v' (enc h) ∧ Below W.heap.size W w') := Lib.hid (fun W => encode_at h W)
  have EM : Hid (∀ W, Calls Try.prog 10 #[(.agg #[.int .i64 h.v, .int .i64 h.ut, .int .i64 h.sd, .int .i64 h.lp, .int .i64 h.tm, .int .i64 h.ty, .int .i64 h.ch])] W fun e w' => ∃ v', e = .returned (.tuple #[v', .bool (hd.okB h)]) ∧ Own W.heap.size w' v' (enc h) ∧ Below W.heap.size W w') := Lib.hid (fun W => ref15.encode_at h W)
  have DE : Hid (∀ W v, RdW W v l → Calls Try.prog 11 #[v] W fun e w' => e = .returned (.tuple #[(.agg #[.int .i64 (dec vof l).v, .int .i64 (dec vof l).ut, .int .i64 (dec vof l).sd, .int .i64 (dec vof l).lp, .int .i64 (dec vof l).tm, .int .i64 (dec vof l).ty, .int .i64 (dec vof l).ch]), .bool (isB vof l)]) ∧ Below W.heap.size W w') := Lib.hid fun W v hv => decode_at l v W hv hby (by omega)
  have DM := Lib.hid (fun W v hv => ref_dec (l := l) v W hv hby (by omega))
  have RE := Lib.hid (fun W => right_at h W)
  have RM := Lib.hid (fun W => ref15.right_at h W)
  have ZE := Lib.hid (fun W => size_at h s W)
  have ZM := Lib.hid (fun W => ref15.size_at h s W)
  have EH : ∀ W, (Op.equalIn 10000 23 (.agg #[.int .i64 (dec vof l).v, .int .i64 (dec vof l).ut, .int .i64 (dec vof l).sd, .int .i64 (dec vof l).lp, .int .i64 (dec vof l).tm, .int .i64 (dec vof l).ty, .int .i64 (dec vof l).ch]) (.agg #[.int .i64 (dec vof l).v, .int .i64 (dec vof l).ut, .int .i64 (dec vof l).sd, .int .i64 (dec vof l).lp, .int .i64 (dec vof l).tm, .int .i64 (dec vof l).ty, .int .i64 (dec vof l).ch])).run Try.prog W = .ok true W := fun W => by have := eqH (dec vof l) (dec vof l) W; rw [hdb_self] at this; exact this
  clear hl hby
  generalize dec vof l = X at *
  generalize isB vof l = I at *
  generalize hd.okB h = K at *
  generalize sz h s = S at *
  generalize enc h = E at *
  go_enter Try.func3, Try.ntmps3
  go_wp2_with (first
    | (go_at_call 8; (with_reducible refine (SM.out _).mono ?_); rintro e w1 ⟨rfl, hb1⟩; have HA1 := Lib.hid hb1; obtain ⟨c0, c1, c2, c3, c4, c5, c6, hb2, hs1⟩ := T.out _ hb1; clear hb1)
    | (go_at_call 9; (with_reducible refine (EN.out _).mono ?_); rintro e w2 ⟨v2, rfl, ho, hb⟩; have HA2 := Lib.hid (btr HA1.out hb); obtain ⟨A2, n2, k2, rfl⟩ := own_slice ho; have O2 := Lib.hid (own_by ho).rd; clear c0 c1 c2 c3 c4 c5 c6 hb2 hs1; obtain ⟨c0, c1, c2, c3, c4, c5, c6, hb2, hs1⟩ := T.out _ HA2.out; clear ho hb HA1)
    | (go_at_call 10; (with_reducible refine (EM.out _).mono ?_); rintro e w3 ⟨v3, rfl, ho, hb⟩; have HA3 := Lib.hid (btr HA2.out hb); obtain ⟨A3, n3, k3, rfl⟩ := own_slice ho; have O3 := Lib.hid (own_by ho).rd; have P3 := Lib.hid (O2.out.below hb); clear c0 c1 c2 c3 c4 c5 c6 hb2 hs1; obtain ⟨c0, c1, c2, c3, c4, c5, c6, hb2, hs1⟩ := T.out _ HA3.out; clear ho hb HA2 O2)
    | (go_at_call 11; (with_reducible refine (DE.out _ _ (HL.out _ (TO.out _ HA3.out))).mono ?_); rintro e w4 ⟨rfl, hb⟩; have HA4 := Lib.hid (btr HA3.out hb); have O4 := Lib.hid (O3.out.below hb); have P4 := Lib.hid (P3.out.below hb); clear c0 c1 c2 c3 c4 c5 c6 hb2 hs1; clear hb HA3 O3 P3)
    | (go_at_call 12; (with_reducible refine (DM.out _ _ (HL.out _ (TO.out _ (bal HA4.out _)))).mono ?_); rintro e w5 ⟨rfl, hb⟩; have HA5 := Lib.hid (btr (bal HA4.out _) hb); have O5 := Lib.hid ((O4.out.below (bal (Below.refl _ _) _)).below hb); have P5 := Lib.hid ((P4.out.below (bal (Below.refl _ _) _)).below hb); have B5 := Lib.hid (kept (hp_new w4 _) hb); clear hb HA4 O4 P4))
  have HA7 := Lib.hid (bal HA5.out (.cells #[.int .i64 X.v, .int .i64 X.ut, .int .i64 X.sd, .int .i64 X.lp, .int .i64 X.tm, .int .i64 X.ty, .int .i64 X.ch] 23))
  have O7 := Lib.hid (O5.out.below (bal (Below.refl _ _) (.cells #[.int .i64 X.v, .int .i64 X.ut, .int .i64 X.sd, .int .i64 X.lp, .int .i64 X.tm, .int .i64 X.ty, .int .i64 X.ch] 23)))
  have P7 := Lib.hid (P5.out.below (bal (Below.refl _ _) (.cells #[.int .i64 X.v, .int .i64 X.ut, .int .i64 X.sd, .int .i64 X.lp, .int .i64 X.tm, .int .i64 X.ty, .int .i64 X.ch] 23)))
  have B7 := Lib.hid (hp_old B5.out (.cells #[.int .i64 X.v, .int .i64 X.ut, .int .i64 X.sd, .int .i64 X.lp, .int .i64 X.tm, .int .i64 X.ty, .int .i64 X.ch] 23))
  have N7 := Lib.hid (hp_new w5 (.cells #[.int .i64 X.v, .int .i64 X.ut, .int .i64 X.sd, .int .i64 X.lp, .int .i64 X.tm, .int .i64 X.ty, .int .i64 X.ch] 23))
  obtain ⟨c0, c1, c2, c3, c4, c5, c6, hb2, hs1⟩ := T.out _ HA7.out
  have d0 := row_cell B7.out 0
  have d1 := row_cell B7.out 1
  have d2 := row_cell B7.out 2
  have d3 := row_cell B7.out 3
  have d4 := row_cell B7.out 4
  have d5 := row_cell B7.out 5
  have d6 := row_cell B7.out 6
  have e0 := row_cell N7.out 0
  have e1 := row_cell N7.out 1
  have e2 := row_cell N7.out 2
  have e3 := row_cell N7.out 3
  have e4 := row_cell N7.out 4
  have e5 := row_cell N7.out 5
  have e6 := row_cell N7.out 6
  have HB7 := Lib.hid hb2
  clear hb2 hs1 B7 N7 HA7 HA5 O5 P5 B5 SM T TO HL EN EM DE DM
  generalize w5.alloc (.cells #[.int .i64 X.v, .int .i64 X.ut, .int .i64 X.sd, .int .i64 X.lp, .int .i64 X.tm, .int .i64 X.ty, .int .i64 X.ch] 23) = W7 at *
  have s1 := fun d' os => str_of (P7.out.below (below_regrown W7 d' os))
  have s2 := fun d' os => str_of (O7.out.below (below_regrown W7 d' os))
  have cq0 := fun d' os => cell_regrown (w := W7) c0 d' os
  have cq1 := fun d' os => cell_regrown (w := W7) c1 d' os
  have cq2 := fun d' os => cell_regrown (w := W7) c2 d' os
  have cq3 := fun d' os => cell_regrown (w := W7) c3 d' os
  have cq4 := fun d' os => cell_regrown (w := W7) c4 d' os
  have cq5 := fun d' os => cell_regrown (w := W7) c5 d' os
  have cq6 := fun d' os => cell_regrown (w := W7) c6 d' os
  have dq0 := fun d' os => cell_regrown (w := W7) d0 d' os
  have dq1 := fun d' os => cell_regrown (w := W7) d1 d' os
  have dq2 := fun d' os => cell_regrown (w := W7) d2 d' os
  have dq3 := fun d' os => cell_regrown (w := W7) d3 d' os
  have dq4 := fun d' os => cell_regrown (w := W7) d4 d' os
  have dq5 := fun d' os => cell_regrown (w := W7) d5 d' os
  have dq6 := fun d' os => cell_regrown (w := W7) d6 d' os
  have eq0 := fun d' os => cell_regrown (w := W7) e0 d' os
  have eq1 := fun d' os => cell_regrown (w := W7) e1 d' os
  have eq2 := fun d' os => cell_regrown (w := W7) e2 d' os
  have eq3 := fun d' os => cell_regrown (w := W7) e3 d' os
  have eq4 := fun d' os => cell_regrown (w := W7) e4 d' os
  have eq5 := fun d' os => cell_regrown (w := W7) e5 d' os
  have eq6 := fun d' os => cell_regrown (w := W7) e6 d' os
  have XQ0 := Lib.hid (fun d' os => below_of RE.out W7 d' os)
  have XQ1 := Lib.hid (fun d' os => below_of RM.out W7 d' os)
  have XQ2 := Lib.hid (fun d' os => below_of ZE.out W7 d' os)
  have XQ3 := Lib.hid (fun d' os => below_of ZM.out W7 d' os)
  have kk : (K == K) = true := by simp
  have ii : (I == I) = true := by simp
  have ss : (S == S) = true := by simp
  refine wp_region_quiet_below (by kernel_rfl) (by kernel_rfl) ?_
  repeat (first
    | quiet_step ((first
      | (go_at_call 13; with_reducible exact XQ0.out _ _)
      | (go_at_call 14; with_reducible exact XQ1.out _ _)
      | (go_at_call 15; with_reducible exact XQ2.out _ _)
      | (go_at_call 16; with_reducible exact XQ3.out _ _)))
    | (refine qconv rfl 24 9 (.tmp 43) rfl (.string (strN E)) (fun W hW => ?_) ?_; (next => obtain ⟨⟨dq, osq⟩, rfl⟩ := hW; exact s1 dq osq))
    | (refine qconv rfl 24 9 (.tmp 45) rfl (.string (strN E)) (fun W hW => ?_) ?_; (next => obtain ⟨⟨dq, osq⟩, rfl⟩ := hW; exact s2 dq osq)))
  refine wpQuiet_nil ?_
  intro _ hw'
  obtain ⟨⟨dq, osq⟩, hw''⟩ := hw'
  subst hw''
  go_wp2
  go_ret
  exact ⟨by first | rfl | simp, btr HB7.out (below_regrown _ dq osq)⟩
set_option maxRecDepth 100000 in
theorem lifted (os : Os) (started : os.Started) (H : Type) (enc : TypeId × Value → H) :
    ReturnsInHanded {} Try.checked os 3 .any (Rows.headTellsSpec.pre6 enc Try.prog Try.f3 Rows.headTellsRow.domain false) (Rows.headTellsSpec.post enc Try.prog Try.f3 false true false false) := by
  refine returnsInHanded_of_change (C := Try.checked) law.own started (by kernel_rfl) Try.func3
    (ChangeSpec.witness6 (enc := enc) (C := Try.checked) false ⟨#[], #[.agg #[.int .i64 0, .int .i64 0, .int .i64 0, .int .i64 0, .int .i64 0, .int .i64 0, .int .i64 0], .slice none 0 0, .int .i64 0], []⟩ 8 (by kernel_rfl) (by kernel_rfl) (by kernel_rfl) (by kernel_rfl)) ?_
  intro W base args ds gs before hval0 hW hcnd _
  have hval : ∀ (j : Nat) t v, Try.f3.params[j]? = some t → args[j]? = some v → Value.okWide Try.prog W .any base t v := hval0
  have hW' := hW
  obtain ⟨p, q, hA0, hV, rfl, hfz, hnd⟩ := hW
  have hA : DataW.TrodAll enc Try.prog W 0 (fun _ => true) true Try.f3.params.toList args.toList ds p := hA0
  rw [Try.params3] at hA hval
  obtain ⟨v0, vs0, d0, ds0, p0, q0, hargs, rfl, rfl, h0, r0⟩ := trodAll_cons hA
  obtain ⟨v1, vs1, d1, ds1, p1, q1, rfl, rfl, rfl, h1, r1⟩ := trodAll_cons r0
  obtain ⟨v2, vs2, d2, ds2, p2, q2, rfl, rfl, rfl, h2, r2⟩ := trodAll_cons r1
  obtain ⟨rfl, rfl, rfl⟩ := trodAll_nil r2
  obtain rfl : args = #[v0, v1, v2] := by cases args; simp_all
  obtain ⟨rfl, rfl⟩ := trodVars_none hV
  clear hA0 hval0
  obtain ⟨z0_, rfl, b0_⟩ := head.open_head (hval 0 23 v0 rfl rfl) h0
  obtain ⟨l1_, r1_, s1_, u1_⟩ := oct.open_bytes (hval 1 24 v1 rfl rfl) h1
  obtain ⟨a2, rfl, hd2, hp2, w2⟩ := open_int Try.underlying3 (hval 2 3 v2 rfl rfl) h2
  refine (Calls.mono (R := fun e w' => e = .returned (.bool true) ∧ Below W.heap.size W w') ?_ fun e W' ⟨he, hb⟩ => ?_)
  · exact walk W z0_ b0_ l1_ v1 r1_ s1_ u1_ a2 (bounds_i64 w2)
  · subst he
    exact ⟨_, rfl, law.post law.laidOut (by kernel_rfl) rfl rfl Try.underlying4 rfl hW' hb⟩

theorem over : Rows.headTellsRow.holds Try.pinned (OpenSpec.ofChange Rows.headTellsSpec) :=
  OpenClaim.holds_of_wide 3 Try.f3 rfl rfl rfl rfl rfl rfl rfl ⟨rfl, rfl, rfl, rfl, rfl⟩ rfl rfl rfl rfl rfl (by kernel_rfl) Try.func3 (by kernel_rfl)
    (of_decide_eq_true (by kernel_rfl)) (by unfold Func.isWrapper; first | (rw [if_pos (by decide +kernel)]; kernel_rfl) | (rw [if_neg (by decide +kernel)]; exact ⟨rfl, rfl⟩))
    (fun os started H enc _ => lifted os started H enc)

theorem proved : Rows.HeadTellsSaid := over
end Go.Proofs.Ytkbpmopnphcfjaa.headTells
