/-
  HeadShort: no beginning of a head's bytes is one, for any head and any number of bytes. No condition.
-/
import Derived.Test.YtkbpmopnphcfjaaHeadUse
namespace Go.Proofs.Ytkbpmopnphcfjaa.headShort
open Go.ChangeShapes Go.WideShapes Go.ChangeAt Go.RowKit
open om mem oct hd head
set_option linter.unusedVariables false
set_option maxRecDepth 100000

set_option maxHeartbeats 4000000 in
theorem walk (w : World) (h : Hd) (hbd : Bd h) (n : Int) (hn : -9223372036854775808 ≤ n ∧ n ≤ 9223372036854775807) : Calls Try.prog 5 #[(.agg #[.int .i64 h.v, .int .i64 h.ut, .int .i64 h.sd, .int .i64 h.lp, .int .i64 h.tm, .int .i64 h.ty, .int .i64 h.ch]), .int .i64 n] w fun e w' => e = .returned (.bool true) ∧ Below w.heap.size w w' := by
  have SM := Lib.hid (fun W => small_at W)
  have T := box_tells h w
  obtain ⟨n1, n2⟩ := hn
  clear hbd
  by_cases hok : hd.okB h = true
  · have EN := Lib.hid (fun W => enc_right hok W)
    by_cases hlt : n < 0
    · clear hok
      obtain ⟨v, ut, sd, lp, tm, ty, ch⟩ := h
      simp only at *
      go_enter Try.func5, Try.ntmps5
      go_wp2_with (first
        | (go_at_call 8; (with_reducible refine (SM.out _).mono ?_); rintro e w1 ⟨rfl, hb1⟩; obtain ⟨c0, c1, c2, c3, c4, c5, c6, hb2, hs1⟩ := T.out _ hb1; have HB := Lib.hid hb2; clear hb1 hb2)
        | (go_at_call 9; (with_reducible refine (EN.out _).mono ?_); rintro e w2 ⟨g, c, rfl, hc, ho, hb⟩; have HB2 := Lib.hid (btr HB.out hb); clear hb ho))
      go_ret
      exact ⟨rfl, HB2.out⟩
    · by_cases hge : 44 ≤ n
      · clear hok
        obtain ⟨v, ut, sd, lp, tm, ty, ch⟩ := h
        simp only at *
        go_enter Try.func5, Try.ntmps5
        go_wp2_with (first
          | (go_at_call 8; (with_reducible refine (SM.out _).mono ?_); rintro e w1 ⟨rfl, hb1⟩; obtain ⟨c0, c1, c2, c3, c4, c5, c6, hb2, hs1⟩ := T.out _ hb1; have HB := Lib.hid hb2; clear hb1 hb2)
          | (go_at_call 9; (with_reducible refine (EN.out _).mono ?_); rintro e w2 ⟨g, c, rfl, hc, ho, hb⟩; have HB2 := Lib.hid (btr HB.out hb); clear hb ho))
        go_ret
        exact ⟨rfl, HB2.out⟩
      · obtain ⟨N, rfl⟩ : ∃ N : Nat, n = N := ⟨n.toNat, by omega⟩
        have hN : N < 44 := by omega
        have DE : Hid (∀ W g c, Old W (.slice (some ⟨g, 0, none⟩) 44 c) (byts h) → Calls Try.prog 11 #[.slice (some ⟨g, 0, none⟩) N c] W fun e w' => e = .returned (.tuple #[.agg #[.int .i64 0, .int .i64 0, .int .i64 0, .int .i64 0, .int .i64 0, .int .i64 0, .int .i64 0], .bool false]) ∧ Below W.heap.size W w') := Lib.hid fun W g c ho =>
          dec_not (is_short (by rw [List.length_take]; omega)) _ W (old_rd44 ho (byts_len h) N (by omega)) ((byts_bys hok).take N) (by rw [List.length_take]; omega)
        have SL : Hid (∀ (g c : Nat), 44 ≤ c → ∀ W, (Instr.slice 24 (.slice (some ⟨g, 0, none⟩) 44 c) none (some (.int .i64 (N : Nat))) none).run Try.prog W = .ok (.slice (some ⟨g, 0, none⟩) N c) W) := Lib.hid fun g c hc W => cutH _ 44 c N _ rfl (by omega) W
        have EZ := eqZ
        clear hok hge hlt
        generalize byts h = bs at *
        obtain ⟨v, ut, sd, lp, tm, ty, ch⟩ := h
        simp only at *
        go_enter Try.func5, Try.ntmps5
        go_wp2_with (first
          | (go_at_call 8; (with_reducible refine (SM.out _).mono ?_); rintro e w1 ⟨rfl, hb1⟩; obtain ⟨c0, c1, c2, c3, c4, c5, c6, hb2, hs1⟩ := T.out _ hb1; have HB := Lib.hid hb2; clear hb1 hb2)
          | (go_at_call 9; (with_reducible refine (EN.out _).mono ?_); rintro e w2 ⟨g, c, rfl, hc, ho, hb⟩; have HB2 := Lib.hid (btr HB.out hb); have HO := Lib.hid (own_old ho); have q := SL.out g c hc; clear hb ho)
          | (go_at_call 11; (with_reducible refine (DE.out _ _ _ HO.out).mono ?_); rintro e w3 ⟨rfl, hb⟩; have HB3 := Lib.hid (btr HB2.out hb); clear hb))
        go_ret
        exact ⟨rfl, bal HB3.out _⟩
  · have hok' : hd.okB h = false := by simpa using hok
    have EN := Lib.hid (fun W => enc_wrong hok' W)
    clear hok hok'
    obtain ⟨v, ut, sd, lp, tm, ty, ch⟩ := h
    simp only at *
    go_enter Try.func5, Try.ntmps5
    go_wp2_with (first
      | (go_at_call 8; (with_reducible refine (SM.out _).mono ?_); rintro e w1 ⟨rfl, hb1⟩; obtain ⟨c0, c1, c2, c3, c4, c5, c6, hb2, hs1⟩ := T.out _ hb1; have HB := Lib.hid hb2; clear hb1 hb2)
      | (go_at_call 9; (with_reducible refine (EN.out _).mono ?_); rintro e w2 ⟨A, c, rfl, ho, hb⟩; have HB2 := Lib.hid (btr HB.out hb); clear hb ho))
    go_ret
    exact ⟨rfl, HB2.out⟩
set_option maxRecDepth 100000 in
theorem lifted (os : Os) (started : os.Started) (H : Type) (enc : TypeId × Value → H) :
    ReturnsInHanded {} Try.checked os 5 .any (Rows.headShortSpec.pre6 enc Try.prog Try.f5 Rows.headShortRow.domain false) (Rows.headShortSpec.post enc Try.prog Try.f5 false true false false) := by
  refine returnsInHanded_of_change (C := Try.checked) law.own started (by kernel_rfl) Try.func5
    (ChangeSpec.witness6 (enc := enc) (C := Try.checked) false ⟨#[], #[.agg #[.int .i64 0, .int .i64 0, .int .i64 0, .int .i64 0, .int .i64 0, .int .i64 0, .int .i64 0], .int .i64 0], []⟩ 8 (by kernel_rfl) (by kernel_rfl) (by kernel_rfl) (by kernel_rfl)) ?_
  intro W base args ds gs before hval0 hW hcnd _
  have hval : ∀ (j : Nat) t v, Try.f5.params[j]? = some t → args[j]? = some v → Value.okWide Try.prog W .any base t v := hval0
  have hW' := hW
  obtain ⟨p, q, hA0, hV, rfl, hfz, hnd⟩ := hW
  have hA : DataW.TrodAll enc Try.prog W 0 (fun _ => true) true Try.f5.params.toList args.toList ds p := hA0
  rw [Try.params5] at hA hval
  obtain ⟨v0, vs0, d0, ds0, p0, q0, hargs, rfl, rfl, h0, r0⟩ := trodAll_cons hA
  obtain ⟨v1, vs1, d1, ds1, p1, q1, rfl, rfl, rfl, h1, r1⟩ := trodAll_cons r0
  obtain ⟨rfl, rfl, rfl⟩ := trodAll_nil r1
  obtain rfl : args = #[v0, v1] := by cases args; simp_all
  obtain ⟨rfl, rfl⟩ := trodVars_none hV
  clear hA0 hval0
  obtain ⟨z0_, rfl, b0_⟩ := head.open_head (hval 0 23 v0 rfl rfl) h0
  obtain ⟨a1, rfl, hd1, hp1, w1⟩ := open_int Try.underlying3 (hval 1 3 v1 rfl rfl) h1
  refine (Calls.mono (R := fun e w' => e = .returned (.bool true) ∧ Below W.heap.size W w') ?_ fun e W' ⟨he, hb⟩ => ?_)
  · exact walk W z0_ b0_ a1 (bounds_i64 w1)
  · subst he
    exact ⟨_, rfl, law.post law.laidOut (by kernel_rfl) rfl rfl Try.underlying4 rfl hW' hb⟩

theorem over : Rows.headShortRow.holds Try.pinned (OpenSpec.ofChange Rows.headShortSpec) :=
  OpenClaim.holds_of_wide 5 Try.f5 rfl rfl rfl rfl rfl rfl rfl ⟨rfl, rfl, rfl, rfl, rfl⟩ rfl rfl rfl rfl rfl (by kernel_rfl) Try.func5 (by kernel_rfl)
    (of_decide_eq_true (by kernel_rfl)) (by unfold Func.isWrapper; first | (rw [if_pos (by decide +kernel)]; kernel_rfl) | (rw [if_neg (by decide +kernel)]; exact ⟨rfl, rfl⟩))
    (fun os started H enc _ => lifted os started H enc)

theorem proved : Rows.HeadShortSaid := over
end Go.Proofs.Ytkbpmopnphcfjaa.headShort
