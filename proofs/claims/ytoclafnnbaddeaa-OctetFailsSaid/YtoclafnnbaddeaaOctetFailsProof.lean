/-
  OctetFails: who has failed reads nothing any more, and a failure comes just if there are too few bytes, for any bytes and any number. No condition.
-/
import Derived.Test.YtoclafnnbaddeaaOctWalk
import Derived.BigQuiet
namespace Go.Proofs.Ytoclafnnbaddeaa.octetFails
open Go.ChangeShapes Go.WideShapes Go.ChangeAt Go.RowKit
open om mem oct
set_option linter.unusedVariables false
set_option maxRecDepth 100000

set_option maxHeartbeats 4000000 in
set_option maxRecDepth 100000 in
theorem walk (w : World) (l : List Nat) (v : Value) (hr : RdW w v l) (hby : Bys l) (hlen : l.length ≤ 9223372036854775807) (n : Int) (hn : -9223372036854775808 ≤ n ∧ n ≤ 9223372036854775807) : Calls Try.prog 6 #[v, .int .i64 n] w fun e w' => e = .returned (.bool true) ∧ Below w.heap.size w w' := by
  have SM := Lib.hid (small_at w)
  obtain ⟨A, cap, e, hc, _, _⟩ := id hr
  subst e
  by_cases hbig : 500 < l.length
  · clear hr hby hn
    go_enter Try.func6, Try.ntmps6
    go_wp2_with (go_at_call 9; (with_reducible refine SM.out.mono ?_); rintro e w1 ⟨rfl, hb1⟩; have HB := Lib.hid hb1; clear hb1)
    go_ret
    exact ⟨rfl, HB.out⟩
  · have OP := Lib.hid (fun W (hb : Below w.heap.size w W) => open_at l (.slice A l.length cap) W (hr.below hb) (by omega))
    by_cases hok : okB n l = true
    · obtain ⟨k1, k2⟩ := ok_iff.1 hok
      obtain ⟨m, rfl⟩ : ∃ m : Nat, n = m := ⟨n.toNat, by omega⟩
      have TK : Hid (∀ lo hi W g, Rdr 44 lo hi W g l false → Calls Try.prog 16 #[.pointer (some ⟨g, 0, none⟩), .int .i64 m] W fun e w' => ∃ v', e = .returned v' ∧ Old w' v' (l.take m) ∧ Rdr 44 lo hi w' g (l.drop m) false ∧ Keep g W w') := Lib.hid fun lo hi W g h => by
        refine (take_at lo hi W g l false m h hn (by omega)).mono ?_
        rintro e w' ⟨v', rfl, ho, hrd, hk⟩
        rw [pre_yes hok] at ho
        rw [rst_yes hok, fl_yes hok] at hrd
        exact ⟨v', rfl, own_old ho, hrd, hk⟩
      have q0 := fun W => cutH A l.length cap m (m : Int) rfl (by omega) W
      have HD := Lib.hid (hr.head m (by omega))
      have el : (((l.drop m).length : Nat) : Int) = (l.length : Int) - m := by rw [List.length_drop]; omega
      have LF : Hid (∀ lo hi W g, Rdr 44 lo hi W g (l.drop m) false → ∀ d, Calls Try.prog 18 #[.pointer (some ⟨g, 0, none⟩)] (W.drewN d) fun e w' => e = .returned (.int .i64 ((l.length : Int) - m)) ∧ ∃ m, w' = W.drewN m) := Lib.hid fun lo hi W g h d => by
        have := left_drew h d
        rw [el] at this
        exact this
      have OK : Hid (∀ lo hi W g, Rdr 44 lo hi W g (l.drop m) false → ∀ d, Calls Try.prog 20 #[.pointer (some ⟨g, 0, none⟩)] (W.drewN d) fun e w' => e = .returned (.bool true) ∧ ∃ m, w' = W.drewN m) := Lib.hid fun lo hi W g h d => ok_drew h d
      clear el hby hok hr
      generalize strN (l.take m) = s0
      go_enter Try.func6, Try.ntmps6
      go_wp2_with (first
        | (go_at_call 9; (with_reducible refine SM.out.mono ?_); rintro e w1 ⟨rfl, hb1⟩; have H1 := Lib.hid hb1; clear hb1)
        | (go_at_call 12; (with_reducible refine (OP.out _ H1.out).mono ?_); rintro e w2 ⟨g, rfl, r2, hb2⟩; have H2 := Lib.hid (btr H1.out hb2); have G2 := Lib.hid (Nat.le_trans H1.out.size r2.1); have R2 := Lib.hid r2; clear r2 hb2 H1)
        | (go_at_call 16; (with_reducible refine (TK.out _ _ _ _ R2.out).mono ?_); rintro e w3 ⟨v3, rfl, y3, r3, k3⟩; have H3 := Lib.hid (k3.to_below H2.out G2.out H2.out.size); have L3 := Lib.hid (LF.out _ _ _ _ r3); have O3 := Lib.hid (OK.out _ _ _ _ r3); have q1 := str_drew y3.rd; have q2 := str_drew (HD.out.below H3.out); clear y3 r3 k3 H2 R2 LF OK TK))
      go_quiet ((first | (go_at_call 18; exact L3.out _) | (go_at_call 20; exact O3.out _)))
      go_wp2
      go_ret
      exact ⟨by first | rfl | (simp; done), bel_drewN H3.out _⟩
    · have hok' : okB n l = false := by simpa using hok
      have TK : Hid (∀ lo hi W g, Rdr 44 lo hi W g l false → Calls Try.prog 16 #[.pointer (some ⟨g, 0, none⟩), .int .i64 n] W fun e w' => ∃ A' c', e = .returned (.slice A' 0 c') ∧ Rdr 44 lo hi w' g [] true ∧ Keep g W w') := Lib.hid fun lo hi W g h => by
        refine (take_at lo hi W g l false n h hn (by omega)).mono ?_
        rintro e w' ⟨v', rfl, ho, hrd, hk⟩
        rw [pre_no hok'] at ho
        rw [rst_no hok', fl_no hok'] at hrd
        obtain ⟨A', c', rfl⟩ := own_len ho
        exact ⟨A', c', rfl, hrd, hk⟩
      have T0 : Hid (∀ lo hi W g, Rdr 44 lo hi W g [] true → Calls Try.prog 16 #[.pointer (some ⟨g, 0, none⟩), .int .i64 0] W fun e w' => ∃ A' c', e = .returned (.slice A' 0 c') ∧ Rdr 44 lo hi w' g [] true ∧ Keep g W w') := Lib.hid fun lo hi W g h => by
        refine (take_at lo hi W g [] true 0 h ⟨by decide, by decide⟩ (by decide)).mono ?_
        rintro e w' ⟨v', rfl, ho, hrd, hk⟩
        obtain ⟨A', c', rfl⟩ := own_len ho
        exact ⟨A', c', rfl, hrd, hk⟩
      have N1 : Hid (∀ lo hi W g, Rdr 44 lo hi W g [] true → Calls Try.prog 14 #[.pointer (some ⟨g, 0, none⟩), .int .i64 1] W fun e w' => e = .returned (.int .i64 0) ∧ Rdr 44 lo hi w' g [] true ∧ Keep g W w') := Lib.hid fun lo hi W g h =>
        num_at lo hi W g [] true 1 h ⟨by decide, by decide⟩ (by decide) bys_nil
      have LF : Hid (∀ lo hi W g, Rdr 44 lo hi W g [] true → Calls Try.prog 18 #[.pointer (some ⟨g, 0, none⟩)] W fun e w' => e = .returned (.int .i64 0) ∧ W = w') := Lib.hid fun lo hi W g h => left_at lo hi W g [] true h
      have OK : Hid (∀ lo hi W g, Rdr 44 lo hi W g [] true → Calls Try.prog 20 #[.pointer (some ⟨g, 0, none⟩)] W fun e w' => e = .returned (.bool false) ∧ W = w') := Lib.hid fun lo hi W g h => ok_at lo hi W g [] true h
      have hno := ok_no.1 hok'
      have hcase : n < 0 ∨ 0 ≤ n ∧ (l.length : Int) < n := by omega
      obtain ⟨n1, n2⟩ := hn
      clear hok hok' hby hr hno
      rcases hcase with hn0 | ⟨hn0, hn1⟩
      all_goals
        go_enter Try.func6, Try.ntmps6
        go_wp2_with (first
          | (go_at_call 9; (with_reducible refine SM.out.mono ?_); rintro e w1 ⟨rfl, hb1⟩; have H1 := Lib.hid hb1; clear hb1)
          | (go_at_call 12; (with_reducible refine (OP.out _ H1.out).mono ?_); rintro e w2 ⟨g, rfl, r2, hb2⟩; have H2 := Lib.hid (btr H1.out hb2); have G2 := Lib.hid (Nat.le_trans H1.out.size r2.1); have R2 := Lib.hid r2; clear r2 hb2 H1)
          | (go_at_call 16; (with_reducible refine (TK.out _ _ _ _ R2.out).mono ?_); rintro e w3 ⟨A3, c3, rfl, r3, k3⟩; have H3 := Lib.hid (k3.to_below H2.out G2.out H2.out.size); have R3 := Lib.hid r3; clear r3 k3 H2 R2 TK)
          | (go_at_call 16; (with_reducible refine (T0.out _ _ _ _ R3.out).mono ?_); rintro e w4 ⟨A4, c4, rfl, r4, k4⟩; have H4 := Lib.hid (k4.to_below H3.out G2.out H3.out.size); have R4 := Lib.hid r4; clear r4 k4 H3 R3 T0)
          | (go_at_call 14; (with_reducible refine (N1.out _ _ _ _ R4.out).mono ?_); rintro e w5 ⟨rfl, r5, k5⟩; have H5 := Lib.hid (k5.to_below H4.out G2.out H4.out.size); have R5 := Lib.hid r5; clear r5 k5 H4 R4 N1)
          | (go_at_call 18; (with_reducible refine (LF.out _ _ _ _ R5.out).mono ?_); rintro e w6 ⟨rfl, rfl⟩)
          | (go_at_call 20; (with_reducible refine (OK.out _ _ _ _ R5.out).mono ?_); rintro e w6 ⟨rfl, rfl⟩))
        go_ret
        exact ⟨by first | rfl | (simp; done), H5.out⟩

set_option maxRecDepth 100000 in
theorem lifted (os : Os) (started : os.Started) (H : Type) (enc : TypeId × Value → H) :
    ReturnsInHanded {} Try.checked os 6 .any (Rows.octetFailsSpec.pre6 enc Try.prog Try.f6 Rows.octetFailsRow.domain false) (Rows.octetFailsSpec.post enc Try.prog Try.f6 false true false false) := by
  refine returnsInHanded_of_change (C := Try.checked) law.own started (by kernel_rfl) Try.func6
    (ChangeSpec.witness6 (enc := enc) (C := Try.checked) false ⟨#[], #[.slice none 0 0, .int .i64 0], []⟩ 8 (by kernel_rfl) (by kernel_rfl) (by kernel_rfl) (by kernel_rfl)) ?_
  intro W base args ds gs before hval0 hW hcnd _
  have hval : ∀ (j : Nat) t v, Try.f6.params[j]? = some t → args[j]? = some v → Value.okWide Try.prog W .any base t v := hval0
  have hW' := hW
  obtain ⟨p, q, hA0, hV, rfl, hfz, hnd⟩ := hW
  have hA : DataW.TrodAll enc Try.prog W 0 (fun _ => true) true Try.f6.params.toList args.toList ds p := hA0
  rw [Try.params6] at hA hval
  obtain ⟨v0, vs0, d0, ds0, p0, q0, hargs, rfl, rfl, h0, r0⟩ := trodAll_cons hA
  obtain ⟨v1, vs1, d1, ds1, p1, q1, rfl, rfl, rfl, h1, r1⟩ := trodAll_cons r0
  obtain ⟨rfl, rfl, rfl⟩ := trodAll_nil r1
  obtain rfl : args = #[v0, v1] := by cases args; simp_all
  obtain ⟨rfl, rfl⟩ := trodVars_none hV
  clear hA0 hval0
  obtain ⟨l0_, r0_, s0_, u0_⟩ := oct.open_bytes (hval 0 22 v0 rfl rfl) h0
  obtain ⟨a1, rfl, hd1, hp1, w1⟩ := open_int Try.underlying3 (hval 1 3 v1 rfl rfl) h1
  refine (Calls.mono (R := fun e w' => e = .returned (.bool true) ∧ Below W.heap.size W w') ?_ fun e W' ⟨he, hb⟩ => ?_)
  · exact walk W l0_ v0 r0_ s0_ u0_ a1 (bounds_i64 w1)
  · subst he
    exact ⟨_, rfl, law.post law.laidOut (by kernel_rfl) rfl rfl Try.underlying4 rfl hW' hb⟩

theorem over : Rows.octetFailsRow.holds Try.pinned (OpenSpec.ofChange Rows.octetFailsSpec) :=
  OpenClaim.holds_of_wide 6 Try.f6 rfl rfl rfl rfl rfl rfl rfl ⟨rfl, rfl, rfl, rfl, rfl⟩ rfl rfl rfl rfl rfl (by kernel_rfl) Try.func6 (by kernel_rfl)
    (of_decide_eq_true (by kernel_rfl)) (by unfold Func.isWrapper; first | (rw [if_pos (by decide +kernel)]; kernel_rfl) | (rw [if_neg (by decide +kernel)]; exact ⟨rfl, rfl⟩))
    (fun os started H enc _ => lifted os started H enc)

theorem proved : Rows.OctetFailsSaid := over
end Go.Proofs.Ytoclafnnbaddeaa.octetFails
