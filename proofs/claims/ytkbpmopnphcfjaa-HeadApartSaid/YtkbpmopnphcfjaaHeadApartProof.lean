/-
  HeadApart: unlike heads have unlike bytes, for any two heads. No condition.
-/
import Derived.Test.YtkbpmopnphcfjaaHeadUse
import Derived.BigQuiet
namespace Go.Proofs.Ytkbpmopnphcfjaa.headApart
open Go.ChangeShapes Go.WideShapes Go.ChangeAt Go.RowKit
open om mem oct hd head
set_option linter.unusedVariables false
set_option maxRecDepth 100000

theorem str_same {h g : Hd} (kh : hd.okB h = true) (kg : hd.okB g = true) : ((strN (byts h)).toList == (strN (byts g)).toList) = hdB h g := by
  rw [strN_eq (byts_bys kh) (byts_bys kg), Bool.eq_iff_iff]
  simp only [decide_eq_true_eq]
  rw [hdb_iff]
  exact ⟨byts_inj kh kg, fun e => by rw [e]⟩
/-- what two boxes tell. -/
theorem boxes_tell (h g : Hd) (w : World) : Hid (∀ W, Below ((w.alloc (.cells #[.int .i64 h.v, .int .i64 h.ut, .int .i64 h.sd, .int .i64 h.lp, .int .i64 h.tm, .int .i64 h.ty, .int .i64 h.ch] 23)).alloc (.cells #[.int .i64 g.v, .int .i64 g.ut, .int .i64 g.sd, .int .i64 g.lp, .int .i64 g.tm, .int .i64 g.ty, .int .i64 g.ch] 23)).heap.size ((w.alloc (.cells #[.int .i64 h.v, .int .i64 h.ut, .int .i64 h.sd, .int .i64 h.lp, .int .i64 h.tm, .int .i64 h.ty, .int .i64 h.ch] 23)).alloc (.cells #[.int .i64 g.v, .int .i64 g.ut, .int .i64 g.sd, .int .i64 g.lp, .int .i64 g.tm, .int .i64 g.ty, .int .i64 g.ch] 23)) W →
    (W.cell? ⟨w.heap.size, 0, none⟩ = some (.int .i64 h.v) ∧ W.cell? ⟨w.heap.size, 1, none⟩ = some (.int .i64 h.ut) ∧ W.cell? ⟨w.heap.size, 2, none⟩ = some (.int .i64 h.sd) ∧ W.cell? ⟨w.heap.size, 3, none⟩ = some (.int .i64 h.lp) ∧ W.cell? ⟨w.heap.size, 4, none⟩ = some (.int .i64 h.tm) ∧ W.cell? ⟨w.heap.size, 5, none⟩ = some (.int .i64 h.ty) ∧ W.cell? ⟨w.heap.size, 6, none⟩ = some (.int .i64 h.ch)) ∧
    (W.cell? ⟨w.heap.size + 1, 0, none⟩ = some (.int .i64 g.v) ∧ W.cell? ⟨w.heap.size + 1, 1, none⟩ = some (.int .i64 g.ut) ∧ W.cell? ⟨w.heap.size + 1, 2, none⟩ = some (.int .i64 g.sd) ∧ W.cell? ⟨w.heap.size + 1, 3, none⟩ = some (.int .i64 g.lp) ∧ W.cell? ⟨w.heap.size + 1, 4, none⟩ = some (.int .i64 g.tm) ∧ W.cell? ⟨w.heap.size + 1, 5, none⟩ = some (.int .i64 g.ty) ∧ W.cell? ⟨w.heap.size + 1, 6, none⟩ = some (.int .i64 g.ch)) ∧ Below w.heap.size w W) :=
  Lib.hid fun W hb => by
    have h0 := kept (hp_old (hp_new w (.cells #[.int .i64 h.v, .int .i64 h.ut, .int .i64 h.sd, .int .i64 h.lp, .int .i64 h.tm, .int .i64 h.ty, .int .i64 h.ch] 23)) (.cells #[.int .i64 g.v, .int .i64 g.ut, .int .i64 g.sd, .int .i64 g.lp, .int .i64 g.tm, .int .i64 g.ty, .int .i64 g.ch] 23)) hb
    have h1 := kept (hp_new1 w (.cells #[.int .i64 h.v, .int .i64 h.ut, .int .i64 h.sd, .int .i64 h.lp, .int .i64 h.tm, .int .i64 h.ty, .int .i64 h.ch] 23) (.cells #[.int .i64 g.v, .int .i64 g.ut, .int .i64 g.sd, .int .i64 g.lp, .int .i64 g.tm, .int .i64 g.ty, .int .i64 g.ch] 23)) hb
    exact ⟨⟨row_cell h0 0, row_cell h0 1, row_cell h0 2, row_cell h0 3, row_cell h0 4, row_cell h0 5, row_cell h0 6⟩, ⟨row_cell h1 0, row_cell h1 1, row_cell h1 2, row_cell h1 3, row_cell h1 4, row_cell h1 5, row_cell h1 6⟩, btr (bal (bal (Below.refl _ _) _) _) hb⟩
set_option maxHeartbeats 4000000 in
theorem walk (w : World) (h : Hd) (hbd : Bd h) (g : Hd) (gbd : Bd g) : Calls Try.prog 7 #[(.agg #[.int .i64 h.v, .int .i64 h.ut, .int .i64 h.sd, .int .i64 h.lp, .int .i64 h.tm, .int .i64 h.ty, .int .i64 h.ch]), (.agg #[.int .i64 g.v, .int .i64 g.ut, .int .i64 g.sd, .int .i64 g.lp, .int .i64 g.tm, .int .i64 g.ty, .int .i64 g.ch])] w fun e w' => e = .returned (.bool true) ∧ Below w.heap.size w w' := by
  have SM := Lib.hid (fun W => small_at W)
  have T := boxes_tell h g w
  clear hbd gbd
  by_cases hok : hd.okB h = true
  · have EN := Lib.hid (fun W => enc_right hok W)
    by_cases gok : hd.okB g = true
    · have EG := Lib.hid (fun W => enc_right gok W)
      have SS := str_same hok gok
      have EH := fun W => eqH h g W
      clear hok gok
      generalize hdB h g = r at *
      generalize byts h = bh at *
      generalize byts g = bg at *
      go_enter Try.func7, Try.ntmps7
      go_wp2_with (first
        | (go_at_call 8; (with_reducible refine (SM.out _).mono ?_); rintro e w1 ⟨rfl, hb1⟩; have HA1 := Lib.hid hb1; obtain ⟨⟨c0, c1, c2, c3, c4, c5, c6⟩, ⟨d0, d1, d2, d3, d4, d5, d6⟩, hb2⟩ := T.out _ hb1; clear hb1)
        | (go_at_call 9; first
          | ((with_reducible refine (EN.out _).mono ?_); rintro e w2 ⟨ga, ca, rfl, hca, hoa, hb⟩; have HA2 := Lib.hid (btr HA1.out hb); have OA := Lib.hid hoa; clear c0 c1 c2 c3 c4 c5 c6 d0 d1 d2 d3 d4 d5 d6 hb2; obtain ⟨⟨c0, c1, c2, c3, c4, c5, c6⟩, ⟨d0, d1, d2, d3, d4, d5, d6⟩, hb2⟩ := T.out _ HA2.out; clear hoa hb hca HA1 EN)
          | ((with_reducible refine (EG.out _).mono ?_); rintro e w3 ⟨gb, cb, rfl, hcb, hob, hb⟩; have HA3 := Lib.hid (btr HA2.out hb); have OB := Lib.hid hob; have OA3 := Lib.hid (own_kept OA.out hb); clear c0 c1 c2 c3 c4 c5 c6 d0 d1 d2 d3 d4 d5 d6 hb2; obtain ⟨⟨c0, c1, c2, c3, c4, c5, c6⟩, ⟨d0, d1, d2, d3, d4, d5, d6⟩, hb2⟩ := T.out _ HA3.out; clear hob hb hcb HA2 EG OA)))
      have HB := Lib.hid hb2
      have qa := str_drew (own_by OA3.out).rd
      have qb := str_drew (own_by OB.out).rd
      clear hb2 T SM HA3 OA3 OB
      generalize strN bg = sg at *
      cases r
      all_goals
        go_quiet (fail)
        go_wp2
        go_ret
        exact ⟨rfl, bel_drewN HB.out _⟩
    · have gok' : hd.okB g = false := by simpa using gok
      have EG := Lib.hid (fun W => enc_wrong gok' W)
      clear hok gok gok'
      generalize byts h = bh at *
      go_enter Try.func7, Try.ntmps7
      go_wp2_with (first
        | (go_at_call 8; (with_reducible refine (SM.out _).mono ?_); rintro e w1 ⟨rfl, hb1⟩; have HA1 := Lib.hid hb1; obtain ⟨⟨c0, c1, c2, c3, c4, c5, c6⟩, ⟨d0, d1, d2, d3, d4, d5, d6⟩, hb2⟩ := T.out _ hb1; clear hb1)
        | (go_at_call 9; first
          | ((with_reducible refine (EN.out _).mono ?_); rintro e w2 ⟨ga, ca, rfl, hca, hoa, hb⟩; have HA2 := Lib.hid (btr HA1.out hb); have OA := Lib.hid hoa; clear c0 c1 c2 c3 c4 c5 c6 d0 d1 d2 d3 d4 d5 d6 hb2; obtain ⟨⟨c0, c1, c2, c3, c4, c5, c6⟩, ⟨d0, d1, d2, d3, d4, d5, d6⟩, hb2⟩ := T.out _ HA2.out; clear hoa hb hca HA1 EN)
          | ((with_reducible refine (EG.out _).mono ?_); rintro e w3 ⟨gb, cb, rfl, hob, hb⟩; have HA3 := Lib.hid (btr HA2.out hb); have OB := Lib.hid hob; have OA3 := Lib.hid (own_kept OA.out hb); clear c0 c1 c2 c3 c4 c5 c6 d0 d1 d2 d3 d4 d5 d6 hb2; obtain ⟨⟨c0, c1, c2, c3, c4, c5, c6⟩, ⟨d0, d1, d2, d3, d4, d5, d6⟩, hb2⟩ := T.out _ HA3.out; clear hob hb HA2 EG OA)))
      have HB := Lib.hid hb2
      clear hb2 T SM HA3 OA3 OB
      go_quiet (fail)
      go_wp2
      go_ret
      exact ⟨rfl, bel_drewN HB.out _⟩
  · have hok' : hd.okB h = false := by simpa using hok
    have EN := Lib.hid (fun W => enc_wrong hok' W)
    have EG : Hid (∀ W, Calls Try.prog 9 #[(.agg #[.int .i64 g.v, .int .i64 g.ut, .int .i64 g.sd, .int .i64 g.lp, .int .i64 g.tm, .int .i64 g.ty, .int .i64 g.ch])] W fun e w' => ∃ v', e = .returned (.tuple #[v', .bool (hd.okB g)]) ∧ Own W.heap.size w' v' (enc g) ∧ Below W.heap.size W w') := Lib.hid (fun W => encode_at g W)
    clear hok hok'
    generalize hd.okB g = two at *
    go_enter Try.func7, Try.ntmps7
    go_wp2_with (first
      | (go_at_call 8; (with_reducible refine (SM.out _).mono ?_); rintro e w1 ⟨rfl, hb1⟩; have HA1 := Lib.hid hb1; obtain ⟨⟨c0, c1, c2, c3, c4, c5, c6⟩, ⟨d0, d1, d2, d3, d4, d5, d6⟩, hb2⟩ := T.out _ hb1; clear hb1)
      | (go_at_call 9; first
        | ((with_reducible refine (EN.out _).mono ?_); rintro e w2 ⟨ga, ca, rfl, hoa, hb⟩; have HA2 := Lib.hid (btr HA1.out hb); have OA := Lib.hid hoa; clear c0 c1 c2 c3 c4 c5 c6 d0 d1 d2 d3 d4 d5 d6 hb2; obtain ⟨⟨c0, c1, c2, c3, c4, c5, c6⟩, ⟨d0, d1, d2, d3, d4, d5, d6⟩, hb2⟩ := T.out _ HA2.out; clear hoa hb HA1 EN)
        | ((with_reducible refine (EG.out _).mono ?_); rintro e w3 ⟨v3, rfl, hob, hb⟩; have HA3 := Lib.hid (btr HA2.out hb); have OB := Lib.hid hob; have OA3 := Lib.hid (own_kept OA.out hb); clear c0 c1 c2 c3 c4 c5 c6 d0 d1 d2 d3 d4 d5 d6 hb2; obtain ⟨⟨c0, c1, c2, c3, c4, c5, c6⟩, ⟨d0, d1, d2, d3, d4, d5, d6⟩, hb2⟩ := T.out _ HA3.out; clear hob hb HA2 EG OA)))
    have HB := Lib.hid hb2
    clear hb2 T SM HA3 OA3 OB
    go_quiet (fail)
    go_wp2
    go_ret
    exact ⟨rfl, bel_drewN HB.out _⟩
set_option maxRecDepth 100000 in
theorem lifted (os : Os) (started : os.Started) (H : Type) (enc : TypeId × Value → H) :
    ReturnsInHanded {} Try.checked os 7 .any (Rows.headApartSpec.pre6 enc Try.prog Try.f7 Rows.headApartRow.domain false) (Rows.headApartSpec.post enc Try.prog Try.f7 false true false false) := by
  refine returnsInHanded_of_change (C := Try.checked) law.own started (by kernel_rfl) Try.func7
    (ChangeSpec.witness6 (enc := enc) (C := Try.checked) false ⟨#[], #[.agg #[.int .i64 0, .int .i64 0, .int .i64 0, .int .i64 0, .int .i64 0, .int .i64 0, .int .i64 0], .agg #[.int .i64 0, .int .i64 0, .int .i64 0, .int .i64 0, .int .i64 0, .int .i64 0, .int .i64 0]], []⟩ 8 (by kernel_rfl) (by kernel_rfl) (by kernel_rfl) (by kernel_rfl)) ?_
  intro W base args ds gs before hval0 hW hcnd _
  have hval : ∀ (j : Nat) t v, Try.f7.params[j]? = some t → args[j]? = some v → Value.okWide Try.prog W .any base t v := hval0
  have hW' := hW
  obtain ⟨p, q, hA0, hV, rfl, hfz, hnd⟩ := hW
  have hA : DataW.TrodAll enc Try.prog W 0 (fun _ => true) true Try.f7.params.toList args.toList ds p := hA0
  rw [Try.params7] at hA hval
  obtain ⟨v0, vs0, d0, ds0, p0, q0, hargs, rfl, rfl, h0, r0⟩ := trodAll_cons hA
  obtain ⟨v1, vs1, d1, ds1, p1, q1, rfl, rfl, rfl, h1, r1⟩ := trodAll_cons r0
  obtain ⟨rfl, rfl, rfl⟩ := trodAll_nil r1
  obtain rfl : args = #[v0, v1] := by cases args; simp_all
  obtain ⟨rfl, rfl⟩ := trodVars_none hV
  clear hA0 hval0
  obtain ⟨z0_, rfl, b0_⟩ := head.open_head (hval 0 23 v0 rfl rfl) h0
  obtain ⟨z1_, rfl, b1_⟩ := head.open_head (hval 1 23 v1 rfl rfl) h1
  refine (Calls.mono (R := fun e w' => e = .returned (.bool true) ∧ Below W.heap.size W w') ?_ fun e W' ⟨he, hb⟩ => ?_)
  · exact walk W z0_ b0_ z1_ b1_
  · subst he
    exact ⟨_, rfl, law.post law.laidOut (by kernel_rfl) rfl rfl Try.underlying4 rfl hW' hb⟩

theorem over : Rows.headApartRow.holds Try.pinned (OpenSpec.ofChange Rows.headApartSpec) :=
  OpenClaim.holds_of_wide 7 Try.f7 rfl rfl rfl rfl rfl rfl rfl ⟨rfl, rfl, rfl, rfl, rfl⟩ rfl rfl rfl rfl rfl (by kernel_rfl) Try.func7 (by kernel_rfl)
    (of_decide_eq_true (by kernel_rfl)) (by unfold Func.isWrapper; first | (rw [if_pos (by decide +kernel)]; kernel_rfl) | (rw [if_neg (by decide +kernel)]; exact ⟨rfl, rfl⟩))
    (fun os started H enc _ => lifted os started H enc)

theorem proved : Rows.HeadApartSaid := over
end Go.Proofs.Ytkbpmopnphcfjaa.headApart
