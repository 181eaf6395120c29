/-
  OctetParts: bytes that are taken in two pieces are those that are taken in one, for any bytes and any two numbers. No condition.
-/
import Derived.Test.YtoclafnnbaddeaaOctWalk
import Derived.BigQuiet
namespace Go.Proofs.Ytoclafnnbaddeaa.octetParts
open Go.ChangeShapes Go.WideShapes Go.ChangeAt Go.RowKit
open om mem oct
set_option linter.unusedVariables false
set_option maxRecDepth 100000

theorem take_told (l : List Nat) (m : Nat) (hm : m ≤ l.length) (hl : l.length ≤ 1000) (z : Int) (hz : z = (m : Nat)) (lo hi : Nat) (W : World) (g : Nat) (h : Rdr 44 lo hi W g l false) :
    Calls Try.prog 16 #[.pointer (some ⟨g, 0, none⟩), .int .i64 z] W fun e w' => ∃ v', e = .returned v' ∧ By (fun b => W.heap.size ≤ b ∧ b < w'.heap.size) w' v' (l.take m) ∧ Rdr 44 lo hi w' g (l.drop m) false ∧ Keep g W w' := by
  subst hz
  have hB : okB m l = true := ok_iff.2 ⟨by omega, by omega⟩
  refine (take_at lo hi W g l false m h (by unfold I64; omega) (by omega)).mono ?_
  rintro e w' ⟨v', rfl, ho, hrd, hk⟩
  rw [pre_yes hB] at ho
  rw [rst_yes hB, fl_yes hB] at hrd
  exact ⟨v', rfl, own_by ho, hrd, hk⟩
set_option maxHeartbeats 4000000 in
set_option maxRecDepth 100000 in
theorem walk (w : World) (l : List Nat) (v : Value) (hr : RdW w v l) (hby : Bys l) (hlen : l.length ≤ 9223372036854775807) (i : Int) (hi : -9223372036854775808 ≤ i ∧ i ≤ 9223372036854775807) (k : Int) (hk : -9223372036854775808 ≤ k ∧ k ≤ 9223372036854775807) : Calls Try.prog 8 #[v, .int .i64 i, .int .i64 k] w fun e w' => e = .returned (.bool true) ∧ Below w.heap.size w w' := by
  have SM := Lib.hid (small_at w)
  obtain ⟨A, cap, e, hc, _, _⟩ := id hr
  subst e
  by_cases hin : l.length ≤ 300 ∧ 0 ≤ i ∧ 0 ≤ k ∧ i ≤ l.length ∧ k ≤ (l.length : Int) - i
  · obtain ⟨hl, i0, k0, i1, k1⟩ := hin
    have OP := Lib.hid (fun W (hb : Below w.heap.size w W) => open_at l (.slice A l.length cap) W (hr.below hb) (by omega))
    obtain ⟨m, rfl⟩ : ∃ m : Nat, i = m := ⟨i.toNat, by omega⟩
    obtain ⟨p, rfl⟩ : ∃ p : Nat, k = p := ⟨k.toNat, by omega⟩
    have T1 := Lib.hid (take_told l m (by omega) (by omega) (m : Int) rfl)
    have T2 := Lib.hid (take_told (l.drop m) p (by rw [List.length_drop]; omega) (by rw [List.length_drop]; omega) (p : Int) rfl)
    have T3 := Lib.hid (take_told l (m + p) (by omega) (by omega) ((m : Int) + p) (by omega))
    have e1 : (((l.drop m).drop p).length : Nat) = l.length - m - p := by rw [List.length_drop, List.length_drop]
    have e2 : ((l.drop (m + p)).length : Nat) = l.length - m - p := by rw [List.length_drop]; omega
    have e3 : ((l.length - m - p : Nat) : Int) = (l.length : Int) - m - p := by omega
    have L1 : Hid (∀ lo hi W g, Rdr 44 lo hi W g ((l.drop m).drop p) false → Calls Try.prog 18 #[.pointer (some ⟨g, 0, none⟩)] W fun e w' => e = .returned (.int .i64 ((l.length : Int) - m - p)) ∧ W = w') := Lib.hid fun lo hi W g h => by
      have := left_at lo hi W g _ _ h
      rw [e1, e3] at this
      exact this
    have L2 : Hid (∀ lo hi W g, Rdr 44 lo hi W g (l.drop (m + p)) false → Calls Try.prog 18 #[.pointer (some ⟨g, 0, none⟩)] W fun e w' => e = .returned (.int .i64 ((l.length : Int) - m - p)) ∧ W = w') := Lib.hid fun lo hi W g h => by
      have := left_at lo hi W g _ _ h
      rw [e2, e3] at this
      exact this
    have OK : Hid (∀ lo hi W g x, Rdr 44 lo hi W g x false → Calls Try.prog 20 #[.pointer (some ⟨g, 0, none⟩)] W fun e w' => e = .returned (.bool true) ∧ W = w') := Lib.hid fun lo hi W g x h => ok_at lo hi W g _ _ h
    have es : strN (l.take m) ++ strN ((l.drop m).take p) = strN (l.take (m + p)) := by rw [strN_app, List.take_add]
    have z1 : (strN (l.take m)).size ≤ 300 := by rw [strN_size, List.length_take]; omega
    have z2 : (strN ((l.drop m).take p)).size ≤ 300 := by rw [strN_size, List.length_take, List.length_drop]; omega
    have C1 := Lib.hid (fun W v (h : RdW W v (l.take m)) => str_of h)
    have C2 := Lib.hid (fun W v (h : RdW W v ((l.drop m).take p)) => str_of h)
    have C3 := Lib.hid (fun W v (h : RdW W v (l.take (m + p))) => str_of h)
    clear e1 e2 e3 hby hr
    generalize strN (l.take m) = s1 at *
    generalize strN ((l.drop m).take p) = s2 at *
    generalize strN (l.take (m + p)) = s3 at *
    go_enter Try.func8, Try.ntmps8
    go_wp2_with (first
      | (go_at_call 9; (with_reducible refine SM.out.mono ?_); rintro e w1 ⟨rfl, hb1⟩; have H1 := Lib.hid hb1; clear hb1)
      | (go_at_call 12; (with_reducible refine (OP.out _ H1.out).mono ?_); rintro e w2 ⟨g, rfl, r2, hb2⟩; have H2 := Lib.hid (btr H1.out hb2); have G2 := Lib.hid (Nat.le_trans H1.out.size r2.1); have R2 := Lib.hid r2; clear r2 hb2 H1)
      | (go_at_call 12; (with_reducible refine (OP.out _ H2.out).mono ?_); rintro e w3 ⟨h, rfl, r3, hb3⟩; have H3 := Lib.hid (btr H2.out hb3); have G3 := Lib.hid (Nat.le_trans H2.out.size r3.1); have P2 := Lib.hid (R2.out.below hb3); have D3 := Lib.hid r3.1; have D2 := Lib.hid R2.out.2.1; have E3 := Lib.hid r3.2.1; have R3 := Lib.hid r3; clear r3 hb3 R2 H2 OP)
      | (go_at_call 16; (with_reducible refine (T1.out _ _ _ _ P2.out).mono ?_); rintro e w4 ⟨v4, rfl, y4, r4, k4⟩; have H4 := Lib.hid (k4.to_below H3.out G2.out H3.out.size); have R4 := Lib.hid r4; have S4 := Lib.hid (R3.out.keep k4 (Or.inl D2.out)); have Y4 := Lib.hid y4; have M4 := Lib.hid k4.size; clear y4 r4 k4 H3 P2 T1)
      | (go_at_call 16; (with_reducible refine (T2.out _ _ _ _ R4.out).mono ?_); rintro e w5 ⟨v5, rfl, y5, r5, k5⟩; have H5 := Lib.hid (k5.to_below H4.out G2.out H4.out.size); have R5 := Lib.hid r5; have S5 := Lib.hid (S4.out.keep k5 (Or.inl D2.out)); have Z4 := Lib.hid (Y4.out.keep k5 (fun b hb => by have := D2.out; have := D3.out; have := E3.out; omega)); have Y5 := Lib.hid y5; clear y5 r5 k5 H4 R4 S4 Y4 T2)
      | (go_at_call 16; (with_reducible refine (T3.out _ _ _ _ S5.out).mono ?_); rintro e w6 ⟨v6, rfl, y6, r6, k6⟩; have H6 := Lib.hid (k6.to_below H5.out G3.out H5.out.size); have Q6 := Lib.hid (R5.out.keep k6 (Or.inr D3.out)); have R6 := Lib.hid r6; have q1 := C1.out _ _ (Z4.out.keep k6 (fun b hb => by have := E3.out; omega)).rd; have q2 := C2.out _ _ (Y5.out.keep k6 (fun b hb => by have := E3.out; have := M4.out; omega)).rd; have q3 := C3.out _ _ y6.rd; clear y6 r6 k6 H5 R5 S5 Z4 Y5 T3)
      | (go_at_call 18; (with_reducible refine (L1.out _ _ _ _ Q6.out).mono ?_); rintro e w7 ⟨rfl, rfl⟩)
      | (go_at_call 18; (with_reducible refine (L2.out _ _ _ _ R6.out).mono ?_); rintro e w7 ⟨rfl, rfl⟩)
      | (go_at_call 20; (with_reducible refine (OK.out _ _ _ _ _ Q6.out).mono ?_); rintro e w7 ⟨rfl, rfl⟩)
      | (go_at_call 20; (with_reducible refine (OK.out _ _ _ _ _ R6.out).mono ?_); rintro e w7 ⟨rfl, rfl⟩))
    go_ret
    exact ⟨by first | rfl | (simp; done), H6.out⟩
  · have hcase : 300 < l.length ∨ l.length ≤ 300 ∧ i < 0 ∨ l.length ≤ 300 ∧ 0 ≤ i ∧ k < 0 ∨ l.length ≤ 300 ∧ 0 ≤ i ∧ 0 ≤ k ∧ (l.length : Int) < i ∨ l.length ≤ 300 ∧ 0 ≤ i ∧ 0 ≤ k ∧ i ≤ l.length ∧ (l.length : Int) - i < k := by omega
    obtain ⟨i1, i2⟩ := hi
    obtain ⟨k1, k2⟩ := hk
    clear hin hr hby
    rcases hcase with c1 | ⟨c1, c2⟩ | ⟨c1, c2, c3⟩ | ⟨c1, c2, c3, c4⟩ | ⟨c1, c2, c3, c4, c5⟩
    all_goals
      go_enter Try.func8, Try.ntmps8
      go_wp2_with (go_at_call 9; (with_reducible refine SM.out.mono ?_); rintro e w1 ⟨rfl, hb1⟩; have H1 := Lib.hid hb1; clear hb1)
      go_ret
      exact ⟨rfl, H1.out⟩

set_option maxRecDepth 100000 in
theorem lifted (os : Os) (started : os.Started) (H : Type) (enc : TypeId × Value → H) :
    ReturnsInHanded {} Try.checked os 8 .any (Rows.octetPartsSpec.pre6 enc Try.prog Try.f8 Rows.octetPartsRow.domain false) (Rows.octetPartsSpec.post enc Try.prog Try.f8 false true false false) := by
  refine returnsInHanded_of_change (C := Try.checked) law.own started (by kernel_rfl) Try.func8
    (ChangeSpec.witness6 (enc := enc) (C := Try.checked) false ⟨#[], #[.slice none 0 0, .int .i64 0, .int .i64 0], []⟩ 8 (by kernel_rfl) (by kernel_rfl) (by kernel_rfl) (by kernel_rfl)) ?_
  intro W base args ds gs before hval0 hW hcnd _
  have hval : ∀ (j : Nat) t v, Try.f8.params[j]? = some t → args[j]? = some v → Value.okWide Try.prog W .any base t v := hval0
  have hW' := hW
  obtain ⟨p, q, hA0, hV, rfl, hfz, hnd⟩ := hW
  have hA : DataW.TrodAll enc Try.prog W 0 (fun _ => true) true Try.f8.params.toList args.toList ds p := hA0
  rw [Try.params8] at hA hval
  obtain ⟨v0, vs0, d0, ds0, p0, q0, hargs, rfl, rfl, h0, r0⟩ := trodAll_cons hA
  obtain ⟨v1, vs1, d1, ds1, p1, q1, rfl, rfl, rfl, h1, r1⟩ := trodAll_cons r0
  obtain ⟨v2, vs2, d2, ds2, p2, q2, rfl, rfl, rfl, h2, r2⟩ := trodAll_cons r1
  obtain ⟨rfl, rfl, rfl⟩ := trodAll_nil r2
  obtain rfl : args = #[v0, v1, v2] := by cases args; simp_all
  obtain ⟨rfl, rfl⟩ := trodVars_none hV
  clear hA0 hval0
  obtain ⟨l0_, r0_, s0_, u0_⟩ := oct.open_bytes (hval 0 22 v0 rfl rfl) h0
  obtain ⟨a1, rfl, hd1, hp1, w1⟩ := open_int Try.underlying3 (hval 1 3 v1 rfl rfl) h1
  obtain ⟨a2, rfl, hd2, hp2, w2⟩ := open_int Try.underlying3 (hval 2 3 v2 rfl rfl) h2
  refine (Calls.mono (R := fun e w' => e = .returned (.bool true) ∧ Below W.heap.size W w') ?_ fun e W' ⟨he, hb⟩ => ?_)
  · exact walk W l0_ v0 r0_ s0_ u0_ a1 (bounds_i64 w1) a2 (bounds_i64 w2)
  · subst he
    exact ⟨_, rfl, law.post law.laidOut (by kernel_rfl) rfl rfl Try.underlying4 rfl hW' hb⟩

theorem over : Rows.octetPartsRow.holds Try.pinned (OpenSpec.ofChange Rows.octetPartsSpec) :=
  OpenClaim.holds_of_wide 8 Try.f8 rfl rfl rfl rfl rfl rfl rfl ⟨rfl, rfl, rfl, rfl, rfl⟩ rfl rfl rfl rfl rfl (by kernel_rfl) Try.func8 (by kernel_rfl)
    (of_decide_eq_true (by kernel_rfl)) (by unfold Func.isWrapper; first | (rw [if_pos (by decide +kernel)]; kernel_rfl) | (rw [if_neg (by decide +kernel)]; exact ⟨rfl, rfl⟩))
    (fun os started H enc _ => lifted os started H enc)

theorem proved : Rows.OctetPartsSaid := over
end Go.Proofs.Ytoclafnnbaddeaa.octetParts
