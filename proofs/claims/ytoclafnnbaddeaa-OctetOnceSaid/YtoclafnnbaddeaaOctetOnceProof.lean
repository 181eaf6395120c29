/-
  OctetOnce: bytes that are read as a number are laid so, for any bytes and any size. No condition.
-/
import Derived.Test.YtoclafnnbaddeaaOctWalk
import Derived.BigQuiet
namespace Go.Proofs.Ytoclafnnbaddeaa.octetOnce
open Go.ChangeShapes Go.WideShapes Go.ChangeAt Go.RowKit
open om mem oct
set_option linter.unusedVariables false
set_option maxRecDepth 100000

theorem put_back (l : List Nat) (hl : Bys l) (z : Int) (hz : Sz z) (he : (l.length : Int) = z) (W : World) : Calls Try.prog 10 #[.slice none 0 0, .int .i64 (rd l), .int .i64 z] W fun e w' => ∃ v', e = .returned (.tuple #[v', .bool true]) ∧ Old w' v' l ∧ Below W.heap.size W w' := by
  have hf : fitB (rd l) z = true := fit_iff.2 (rd_fits hz he hl)
  refine (put_at [] _ (rd l) z W (rd_bd hl) (by unfold Sz at hz; unfold I64; omega) (rd_none W) (by decide)).mono ?_
  rintro e w' ⟨v', rfl, ho, hb⟩
  rw [put_yes hf, List.nil_append, lay_rd hz he hl] at ho
  rw [hf]
  exact ⟨v', rfl, own_old ho, hb⟩
set_option maxHeartbeats 4000000 in
set_option maxRecDepth 100000 in
theorem walk (w : World) (l : List Nat) (v : Value) (hr : RdW w v l) (hby : Bys l) (hlen : l.length ≤ 9223372036854775807) (n : Int) (hn : -9223372036854775808 ≤ n ∧ n ≤ 9223372036854775807) : Calls Try.prog 5 #[v, .int .i64 n] w fun e w' => e = .returned (.bool true) ∧ Below w.heap.size w w' := by
  have SM := Lib.hid (small_at w)
  obtain ⟨A, cap, e, hc, _, _⟩ := id hr
  subst e
  by_cases hbig : 100 < l.length
  · clear hr hby hn
    go_enter Try.func5, Try.ntmps5
    go_wp2_with (go_at_call 9; (with_reducible refine SM.out.mono ?_); rintro e w1 ⟨rfl, hb1⟩; have H1 := Lib.hid hb1; clear hb1)
    go_ret
    exact ⟨rfl, H1.out⟩
  · have OP := Lib.hid (fun W (hb : Below w.heap.size w W) => open_at l (.slice A l.length cap) W (hr.below hb) (by omega))
    by_cases hok : Sz n ∧ n ≤ l.length
    · obtain ⟨hz, k2⟩ := hok
      obtain ⟨m, rfl⟩ : ∃ m : Nat, n = m := ⟨n.toNat, by unfold Sz at hz; omega⟩
      have hB : okB m l = true := ok_iff.2 ⟨by omega, k2⟩
      have NU : Hid (∀ lo hi W g, Rdr 44 lo hi W g l false → Calls Try.prog 14 #[.pointer (some ⟨g, 0, none⟩), .int .i64 m] W fun e w' => e = .returned (.int .i64 (rd (l.take m))) ∧ Rdr 44 lo hi w' g (l.drop m) false ∧ Keep g W w') := Lib.hid fun lo hi W g h => by
        have := num_at lo hi W g l false m h hn (by omega) hby
        unfold NumTold at this
        rw [nz_yes hz, pre_yes hB, rst_yes hB, fl_yes hB] at this
        exact this
      have q0 := fun W => cutH A l.length cap m (m : Int) rfl (by omega) W
      have HD := Lib.hid (hr.head m (by omega))
      have el : (((l.drop m).length : Nat) : Int) = (l.length : Int) - m := by rw [List.length_drop]; omega
      have LF : Hid (∀ lo hi W g, Rdr 44 lo hi W g (l.drop m) false → ∀ d, Calls Try.prog 18 #[.pointer (some ⟨g, 0, none⟩)] (W.drewN d) fun e w' => e = .returned (.int .i64 ((l.length : Int) - m)) ∧ ∃ m, w' = W.drewN m) := Lib.hid fun lo hi W g h d => by
        have := left_drew h d
        rw [el] at this
        exact this
      have OK : Hid (∀ lo hi W g, Rdr 44 lo hi W g (l.drop m) false → Calls Try.prog 20 #[.pointer (some ⟨g, 0, none⟩)] W fun e w' => e = .returned (.bool true) ∧ W = w') := Lib.hid fun lo hi W g h => ok_at lo hi W g _ _ h
      have PB := Lib.hid (put_back (l.take m) (hby.take m) m hz (by rw [List.length_take]; omega))
      clear el hby hr hz hB
      generalize strN (l.take m) = s0
      generalize rd (l.take m) = x at *
      go_enter Try.func5, Try.ntmps5
      go_wp2_with (first
        | (go_at_call 9; (with_reducible refine SM.out.mono ?_); rintro e w1 ⟨rfl, hb1⟩; have H1 := Lib.hid hb1; clear hb1)
        | (go_at_call 12; (with_reducible refine (OP.out _ H1.out).mono ?_); rintro e w2 ⟨g, rfl, r2, hb2⟩; have H2 := Lib.hid (btr H1.out hb2); have G2 := Lib.hid (Nat.le_trans H1.out.size r2.1); have R2 := Lib.hid r2; clear r2 hb2 H1)
        | (go_at_call 14; (with_reducible refine (NU.out _ _ _ _ R2.out).mono ?_); rintro e w3 ⟨rfl, r3, k3⟩; have H3 := Lib.hid (k3.to_below H2.out G2.out H2.out.size); have R3 := Lib.hid r3; clear r3 k3 H2 R2 NU)
        | (go_at_call 20; (with_reducible refine (OK.out _ _ _ _ R3.out).mono ?_); rintro e w3' ⟨rfl, rfl⟩)
        | (go_at_call 10; (with_reducible refine (PB.out _).mono ?_); rintro e w4 ⟨v4, rfl, y4, hb4⟩; have H4 := Lib.hid (btr H3.out hb4); have L4 := Lib.hid (LF.out _ _ _ _ (R3.out.below hb4)); have q1 := str_drew y4.rd; have q2 := str_drew (HD.out.below H4.out); clear y4 hb4 H3 R3 LF OK PB))
      go_quiet ((go_at_call 18; exact L4.out _))
      go_wp2
      go_ret
      exact ⟨by first | rfl | (simp; done), bel_drewN H4.out _⟩
    · have hno : okB (nz n) l = false := by
        by_cases hz : Sz n
        · rw [nz_yes hz, ok_no]; intro h; exact hok ⟨hz, h.2⟩
        · rw [nz_no hz]; exact ok_neg l
      have NU : Hid (∀ lo hi W g, Rdr 44 lo hi W g l false → Calls Try.prog 14 #[.pointer (some ⟨g, 0, none⟩), .int .i64 n] W fun e w' => e = .returned (.int .i64 0) ∧ Rdr 44 lo hi w' g [] true ∧ Keep g W w') := Lib.hid fun lo hi W g h => by
        have := num_at lo hi W g l false n h hn (by omega) hby
        unfold NumTold at this
        rw [pre_no hno, rst_no hno, fl_no hno] at this
        exact this
      have LF : Hid (∀ lo hi W g, Rdr 44 lo hi W g [] true → Calls Try.prog 18 #[.pointer (some ⟨g, 0, none⟩)] W fun e w' => e = .returned (.int .i64 0) ∧ W = w') := Lib.hid fun lo hi W g h => left_at lo hi W g [] true h
      have OK : Hid (∀ lo hi W g, Rdr 44 lo hi W g [] true → Calls Try.prog 20 #[.pointer (some ⟨g, 0, none⟩)] W fun e w' => e = .returned (.bool false) ∧ W = w') := Lib.hid fun lo hi W g h => ok_at lo hi W g [] true h
      have hcase : (n = 1 ∧ (l.length : Int) < n ∨ n = 4 ∧ (l.length : Int) < n ∨ n = 8 ∧ (l.length : Int) < n) ∨ (n != 1) = true ∧ (n != 4) = true ∧ (n != 8) = true := by
        unfold Sz at hok
        simp only [bne_iff_ne, ne_eq]
        omega
      obtain ⟨n1, n2⟩ := hn
      clear hok hno hby hr
      rcases hcase with (⟨rfl, hl⟩ | ⟨rfl, hl⟩ | ⟨rfl, hl⟩) | ⟨t1, t4, t8⟩
      all_goals
        go_enter Try.func5, Try.ntmps5
        go_wp2_with (first
          | (go_at_call 9; (with_reducible refine SM.out.mono ?_); rintro e w1 ⟨rfl, hb1⟩; have H1 := Lib.hid hb1; clear hb1)
          | (go_at_call 12; (with_reducible refine (OP.out _ H1.out).mono ?_); rintro e w2 ⟨g, rfl, r2, hb2⟩; have H2 := Lib.hid (btr H1.out hb2); have G2 := Lib.hid (Nat.le_trans H1.out.size r2.1); have R2 := Lib.hid r2; clear r2 hb2 H1)
          | (go_at_call 14; (with_reducible refine (NU.out _ _ _ _ R2.out).mono ?_); rintro e w3 ⟨rfl, r3, k3⟩; have H3 := Lib.hid (k3.to_below H2.out G2.out H2.out.size); have R3 := Lib.hid r3; clear r3 k3 H2 R2 NU)
          | (go_at_call 18; (with_reducible refine (LF.out _ _ _ _ R3.out).mono ?_); rintro e w6 ⟨rfl, rfl⟩)
          | (go_at_call 20; (with_reducible refine (OK.out _ _ _ _ R3.out).mono ?_); rintro e w6 ⟨rfl, rfl⟩))
        go_ret
        exact ⟨by first | rfl | (simp; done), H3.out⟩

set_option maxRecDepth 100000 in
theorem lifted (os : Os) (started : os.Started) (H : Type) (enc : TypeId × Value → H) :
    ReturnsInHanded {} Try.checked os 5 .any (Rows.octetOnceSpec.pre6 enc Try.prog Try.f5 Rows.octetOnceRow.domain false) (Rows.octetOnceSpec.post enc Try.prog Try.f5 false true false false) := by
  refine returnsInHanded_of_change (C := Try.checked) law.own started (by kernel_rfl) Try.func5
    (ChangeSpec.witness6 (enc := enc) (C := Try.checked) false ⟨#[], #[.slice none 0 0, .int .i64 0], []⟩ 8 (by kernel_rfl) (by kernel_rfl) (by kernel_rfl) (by kernel_rfl)) ?_
  intro W base args ds gs before hval0 hW hcnd _
  have hval : ∀ (j : Nat) t v, Try.f5.params[j]? = some t → args[j]? = some v → Value.okWide Try.prog W .any base t v := hval0
  have hW' := hW
  obtain ⟨p, q, hA0, hV, rfl, hfz, hnd⟩ := hW
  have hA : DataW.TrodAll enc Try.prog W 0 (fun _ => true) true Try.f5.params.toList args.toList ds p := hA0
  rw [Try.params5] at hA hval
  obtain ⟨v0, vs0, d0, ds0, p0, q0, hargs, rfl, rfl, h0, r0⟩ := trodAll_cons hA
  obtain ⟨v1, vs1, d1, ds1, p1, q1, rfl, rfl, rfl, h1, r1⟩ := trodAll_cons r0
  obtain ⟨rfl, rfl, rfl⟩ := trodAll_nil r1
  obtain rfl : args = #[v0, v1] := by cases args; simp_all
  obtain ⟨rfl, rfl⟩ := trodVars_none hV
  clear hA0 hval0
  obtain ⟨l0_, r0_, s0_, u0_⟩ := oct.open_bytes (hval 0 22 v0 rfl rfl) h0
  obtain ⟨a1, rfl, hd1, hp1, w1⟩ := open_int Try.underlying3 (hval 1 3 v1 rfl rfl) h1
  refine (Calls.mono (R := fun e w' => e = .returned (.bool true) ∧ Below W.heap.size W w') ?_ fun e W' ⟨he, hb⟩ => ?_)
  · exact walk W l0_ v0 r0_ s0_ u0_ a1 (bounds_i64 w1)
  · subst he
    exact ⟨_, rfl, law.post law.laidOut (by kernel_rfl) rfl rfl Try.underlying4 rfl hW' hb⟩

theorem over : Rows.octetOnceRow.holds Try.pinned (OpenSpec.ofChange Rows.octetOnceSpec) :=
  OpenClaim.holds_of_wide 5 Try.f5 rfl rfl rfl rfl rfl rfl rfl ⟨rfl, rfl, rfl, rfl, rfl⟩ rfl rfl rfl rfl rfl (by kernel_rfl) Try.func5 (by kernel_rfl)
    (of_decide_eq_true (by kernel_rfl)) (by unfold Func.isWrapper; first | (rw [if_pos (by decide +kernel)]; kernel_rfl) | (rw [if_neg (by decide +kernel)]; exact ⟨rfl, rfl⟩))
    (fun os started H enc _ => lifted os started H enc)

theorem proved : Rows.OctetOnceSaid := over
end Go.Proofs.Ytoclafnnbaddeaa.octetOnce
