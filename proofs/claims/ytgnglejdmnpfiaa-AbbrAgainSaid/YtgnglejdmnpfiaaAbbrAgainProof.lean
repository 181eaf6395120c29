/-
  AbbrAgain: names that are handed in once more lay nothing more, and the same begin at one place, for any names. No condition.
-/
import Derived.Test.YtgnglejdmnpfiaaAbbrRow
import Derived.BigQuiet
namespace Go.Proofs.Ytgnglejdmnpfiaa.abbrAgain
open Go.ChangeShapes Go.WideShapes Go.ChangeAt Go.RowKit
open lx ab mem abr
set_option linter.unusedVariables false
set_option maxRecDepth 100000

theorem ret_bool {b : Bool} (h : b = true) : Ending.returned (.bool b) = .returned (.bool true) := by rw [h]
def THead (n : Nat) (w w2 : World) (i : Value) (W : World) : Prop := ∃ j : Nat, j ≤ n ∧ i = .int .i64 (j : Nat) ∧ Below w.heap.size w W ∧ Below w2.heap.size w2 W
theorem ints_cell {W : World} {A : Option Addr} {l : List Int} (h : Ints W A l) {n : Nat} (hn : l.length = n) (h0 : 0 < n) : ∃ g o, A = some ⟨g, o, none⟩ ∧ g < W.heap.size ∧ ∀ k (h : k < l.length), W.cell? ⟨g, o + k, none⟩ = some (.int .i64 l[k]) :=
  h (by intro e; rw [e] at hn; simp at hn; omega)
theorem of_own_n {w : World} {base : Nat} {v : Value} {l : List ByteArray} (h : SOwn base w v l) {n : Nat} (hn : l.length = n) : ∃ A c, v = .slice A n c ∧ Hid (lines.Strs w A l) := by
  subst hn
  obtain ⟨A, c, h1, h2, _⟩ := lines.Strs.of_own h
  exact ⟨A, c, h1, h2⟩
set_option maxRecDepth 100000 in
set_option maxHeartbeats 8000000 in
theorem walk (w : World) (A : Option Addr) (c : Nat) (l : List ByteArray) (hl : RowC w A c l) (T : lines.ML w) : Calls Try.prog 5 #[.slice A l.length c] w fun e w' => e = .returned (.bool true) ∧ Below w.heap.size w w' := by
  obtain ⟨⟨hA, hn, hz⟩, hc⟩ := hl
  have SM := Lib.hid (small_at w T)
  by_cases h1 : 50 < l.length
  · clear T hA hz hc
    go_enter Try.func5, Try.ntmps5
    go_wp2_with (go_at_call 7; (with_reducible refine SM.out.mono ?_); rintro e w1 ⟨rfl, hb1⟩)
    go_ret
    exact ⟨rfl, hb1⟩
  have h2 : l.length ≤ 50 := by omega
  have hll : (l ++ l).length < 8000000000 := by simp; omega
  clear h1 hn T
  have HA := Lib.hid hA
  have HC := Lib.hid hc
  have PO := Lib.hid (fun W (hb : Below w.heap.size w W) => pool_at l A c W (hA.below hb) (by omega) hz)
  have P2 := Lib.hid (fun W A c (h : lines.Strs W A (l ++ l)) => pool_at (l ++ l) A c W h (by simp; omega) (fun x hx => hz x (by simpa using hx)))
  have hN : (l ++ l).length = 2 * l.length := by rw [List.length_append]; omega
  have HN := Lib.hid hN
  rw [hN] at P2
  rw [show (l ++ l).map L = l.map L ++ l.map L by simp] at P2
  unfold PTold at PO P2
  rw [ok_twice, pT_twice, pN_twice] at P2
  have HL0 : Hid (([] ++ l : List ByteArray).length < 8000000000) := (by simp; omega : ([] ++ l : List ByteArray).length < 8000000000)
  have HLL := Lib.hid hll
  clear hA hc hz hN hll
  cases ho : okB (l.map L) with
  | false =>
    rw [ho] at PO P2
    clear ho
    go_enter Try.func5, Try.ntmps5
    go_wp2_with (first
      | (go_at_call 7; (with_reducible refine SM.out.mono ?_); rintro e w1 ⟨rfl, hb1⟩)
      | (go_at_call 8; (with_reducible refine (PO.out _ hb1).mono ?_); rintro e w2 ⟨A2, c2, rfl, hi2, hb2⟩; have HB2 := Lib.hid (btr hb1 hb2); clear hi2)
      | (at_builtin; refine app_names rfl _ _ rfl w2.heap.size (w2.alloc (.cells #[] 9)) _ [] l ([] ++ l) A c rfl rfl (sown_lit _ _ (Nat.le_refl _)) (HA.out.below (bal HB2.out _)) HC.out rfl HL0.out (by simp) ?_; intro v3 w3 ho3 hg3; have HS3 := Lib.hid ho3; have HB3 := Lib.hid (sown_below (sown_lit w2.heap.size w2 (Nat.le_refl _)) (bal (Below.refl _ w2) _) (by simp) hg3); clear ho3 hg3)
      | (at_builtin; refine app_names rfl _ _ rfl w2.heap.size w3 _ ([] ++ l) l (l ++ l) A c rfl rfl HS3.out (HA.out.below (btr HB2.out HB3.out)) HC.out rfl HLL.out HB3.out.size ?_; intro v4 w4 ho4 hg4; have HB4 := Lib.hid (sown_below HS3.out HB3.out HB3.out.size hg4); obtain ⟨A4, c4, rfl, HS4⟩ := of_own_n ho4 HN.out; clear ho4 hg4)
      | (go_at_call 8; (with_reducible refine (P2.out _ _ _ HS4.out).mono ?_); rintro e w5 ⟨A5, c5, rfl, hi5, hb5⟩; have HB5 := Lib.hid (btr HB2.out (btr HB4.out hb5)); clear hi5))
    go_ret
    exact ⟨ret_bool (by first | rfl | (simp; done)), HB5.out⟩
  | true =>
    have eN : pN (l.map L) = (l.map L).map (fun x => (st x (dst (l.map L)) : Int)) := if_pos ho
    have nN : (pN (l.map L)).length = l.length := by rw [eN]; simp
    have nNN : (pN (l.map L) ++ pN (l.map L)).length = 2 * l.length := by rw [List.length_append, nN]; omega
    rw [ho, nN] at PO
    rw [ho, nNN] at P2
    have gN : ∀ k (hk : k < l.length), (pN (l.map L))[k]'(by omega) = (st (L l[k]) (dst (l.map L)) : Int) := fun k hk => by simp [eN]
    have gNN : ∀ k (hk : k < l.length), (pN (l.map L) ++ pN (l.map L))[k]'(by omega) = (st (L l[k]) (dst (l.map L)) : Int) := fun k hk => by rw [List.getElem_append_left (by omega), gN k hk]
    have gN2 : ∀ k (hk : k < l.length), (pN (l.map L) ++ pN (l.map L))[l.length + k]'(by omega) = (st (L l[k]) (dst (l.map L)) : Int) := fun k hk => by
      rw [List.getElem_append_right (by omega)]
      simp only [nN, Nat.add_sub_cancel_left]
      exact gN k hk
    have SI : Hid (∀ i (hi : i < l.length) k (hk : k < l.length), ((st (L l[i]) (dst (l.map L)) : Int) == (st (L l[k]) (dst (l.map L)) : Int)) = decide (l[i] = l[k])) := fun i hi k hk => by
      rw [Bool.eq_iff_iff, beq_iff_eq, decide_eq_true_eq]
      constructor
      · intro e
        exact L_inj (st_inj ((dst_mem _ _).2 (List.mem_map.2 ⟨_, List.getElem_mem hi, rfl⟩)) ((dst_mem _ _).2 (List.mem_map.2 ⟨_, List.getElem_mem hk, rfl⟩)) (by omega))
      · intro e
        rw [e]
    have CP : Hid (∀ W A, Ints W A (pN (l.map L)) → 0 < l.length → ∃ g o, A = some ⟨g, o, none⟩ ∧ g < W.heap.size ∧ ∀ k (h : k < l.length), W.cell? ⟨g, o + k, none⟩ = some (.int .i64 (st (L l[k]) (dst (l.map L)) : Nat))) := fun W A h h0 => by
      obtain ⟨g, o, e1, e2, e3⟩ := ints_cell h nN h0
      refine ⟨g, o, e1, e2, fun k hk => ?_⟩
      rw [e3 k (by omega), gN k hk]
    have CQ : Hid (∀ W A, Ints W A (pN (l.map L) ++ pN (l.map L)) → 0 < l.length → ∃ g o, A = some ⟨g, o, none⟩ ∧ g < W.heap.size ∧ ∀ k (h : k < l.length), W.cell? ⟨g, o + k, none⟩ = some (.int .i64 (st (L l[k]) (dst (l.map L)) : Nat)) ∧ W.cell? ⟨g, o + (l.length + k), none⟩ = some (.int .i64 (st (L l[k]) (dst (l.map L)) : Nat))) := fun W A h h0 => by
      obtain ⟨g, o, e1, e2, e3⟩ := ints_cell h nNN (by omega)
      refine ⟨g, o, e1, e2, fun k hk => ⟨?_, ?_⟩⟩
      · rw [e3 k (by omega), gNN k hk]
      · rw [e3 (l.length + k) (by omega), gN2 k hk]
    clear ho eN nN nNN gN gNN gN2
    generalize B (pT (l.map L)) = P at *
    go_enter Try.func5, Try.ntmps5
    go_wp2_with (first
      | (go_at_call 7; (with_reducible refine SM.out.mono ?_); rintro e w1 ⟨rfl, hb1⟩)
      | (go_at_call 8; (with_reducible refine (PO.out _ hb1).mono ?_); rintro e w2 ⟨A2, c2, rfl, hi2, hb2⟩; have HB2 := Lib.hid (btr hb1 hb2); have HI2 := Lib.hid hi2; clear hi2)
      | (at_builtin; refine app_names rfl _ _ rfl w2.heap.size (w2.alloc (.cells #[] 9)) _ [] l ([] ++ l) A c rfl rfl (sown_lit _ _ (Nat.le_refl _)) (HA.out.below (bal HB2.out _)) HC.out rfl HL0.out (by simp) ?_; intro v3 w3 ho3 hg3; have HS3 := Lib.hid ho3; have HB3 := Lib.hid (sown_below (sown_lit w2.heap.size w2 (Nat.le_refl _)) (bal (Below.refl _ w2) _) (by simp) hg3); clear ho3 hg3)
      | (at_builtin; refine app_names rfl _ _ rfl w2.heap.size w3 _ ([] ++ l) l (l ++ l) A c rfl rfl HS3.out (HA.out.below (btr HB2.out HB3.out)) HC.out rfl HLL.out HB3.out.size ?_; intro v4 w4 ho4 hg4; have HB4 := Lib.hid (sown_below HS3.out HB3.out HB3.out.size hg4); obtain ⟨A4, c4, rfl, HS4⟩ := of_own_n ho4 HN.out; clear ho4 hg4)
      | (go_at_call 8; (with_reducible refine (P2.out _ _ _ HS4.out).mono ?_); rintro e w5 ⟨A5, c5, rfl, hi5, hb5⟩; have HB5 := Lib.hid (btr HB2.out (btr HB4.out hb5)); have HI5 := Lib.hid hi5; have HJ := Lib.hid (HI2.out.below (btr HB4.out hb5)); clear hi5))
    clear SM PO P2
    go_loopw [10] (fun i W => THead l.length w w5 i W) (fun i _ => l.length - (intOf i).toNat)
    case atStart => exact ⟨0, Nat.zero_le _, rfl, HB5.out, Below.refl _ _⟩
    case round =>
      obtain ⟨i, hi, rfl, hb, hbw⟩ := hrel
      by_cases hlt : i < l.length
      · obtain ⟨g, o, rfl, hgl, hcell⟩ := HA.out (by intro e; rw [e] at hlt; simp at hlt)
        obtain ⟨g2, o2, rfl, hg2, hc2⟩ := CP.out _ _ HJ.out (by omega)
        obtain ⟨g5, o5, rfl, hg5, hc5⟩ := CQ.out _ _ HI5.out (by omega)
        have CL := Lib.hid (fun W (hb : Below w.heap.size w W) k (hk : k < l.length) => (hb.cell (p := ⟨g, o + k, none⟩) hgl).trans (hcell k hk))
        have C2 := Lib.hid (fun W (hb : Below w5.heap.size w5 W) k (hk : k < l.length) => (hb.cell (p := ⟨g2, o2 + k, none⟩) hg2).trans (hc2 k hk))
        have C5 := Lib.hid (fun W (hb : Below w5.heap.size w5 W) k (hk : k < l.length) => (hb.cell (p := ⟨g5, o5 + k, none⟩) hg5).trans (hc5 k hk).1)
        have C6 := Lib.hid (fun W (hb : Below w5.heap.size w5 W) k (hk : k < l.length) => (hb.cell (p := ⟨g5, o5 + (l.length + k), none⟩) hg5).trans (hc5 k hk).2)
        have I0 : Hid (THead l.length w w5 (.int .i64 0) wr) := ⟨0, Nat.zero_le _, rfl, hb, hbw⟩
        clear hcell hc2 hc5
        generalize wr = W0 at *
        go_wp2
        go_loopw [11] (fun k W => THead l.length w w5 k W) (fun k _ => l.length - (intOf k).toNat)
        case atStart => exact I0.out
        case round =>
          clear I0
          obtain ⟨k, hk, rfl, hb3, hbw3⟩ := hrel
          by_cases hkl : k < l.length
          · have b1 := C2.out wr hbw3 i hlt
            have b2 := C2.out wr hbw3 k hkl
            have l1 := CL.out wr hb3 i hlt
            have l2 := CL.out wr hb3 k hkl
            have e1 := SI.out i hlt k hkl
            have e2 := beq_s l[i] l[k]
            clear C2 C5 C6 CL SI
            generalize ((st (L l[i]) (dst (l.map L)) : Nat) : Int) = a1 at *
            generalize ((st (L l[k]) (dst (l.map L)) : Nat) : Int) = a2 at *
            generalize l[i] = x1 at *
            generalize l[k] = x2 at *
            cases hd : decide (x1 = x2) with
            | true =>
              rw [hd] at e1 e2
              clear hd
              go_wp2
              go_quiet (fail)
              go_wp2
              go_roundw
              case rel => exact ⟨k + 1, hkl, rfl, bel_drewN hb3 _, bel_drewN hbw3 _⟩
              case measure => simp [intOf]; omega
            | false =>
              rw [hd] at e1 e2
              clear hd
              go_wp2
              go_quiet (fail)
              go_wp2
              go_roundw
              case rel => exact ⟨k + 1, hkl, rfl, bel_drewN hb3 _, bel_drewN hbw3 _⟩
              case measure => simp [intOf]; omega
          · obtain rfl : k = l.length := by omega
            have b1 := C2.out wr hbw3 i hlt
            have b5 := C5.out wr hbw3 i hlt
            have b6 := C6.out wr hbw3 i hlt
            clear C2 C5 C6 CL SI
            generalize ((st (L l[i]) (dst (l.map L)) : Nat) : Int) = a1 at *
            have e1 : (a1 != a1) = false := by simp
            go_wp2
            go_quiet (fail)
            go_wp2
            go_roundw
            case rel => exact ⟨i + 1, hlt, rfl, bel_drewN hb3 _, bel_drewN hbw3 _⟩
            case measure => simp [intOf]; omega
      · obtain rfl : i = l.length := by omega
        have E : (P.toList == P.toList) = true := by simp
        go_wp2
        go_ret
        exact ⟨ret_bool (by first | rfl | (simp; done)), hb⟩
set_option maxRecDepth 100000 in
theorem lifted (os : Os) (started : os.Started) (H : Type) (enc : TypeId × Value → H) :
    ReturnsInHanded {} Try.checked os 5 .any (Rows.abbrAgainSpec.pre6 enc Try.prog Try.f5 Rows.abbrAgainRow.domain false) (Rows.abbrAgainSpec.post enc Try.prog Try.f5 false true false false) := by
  refine returnsInHanded_of_change_shaped (C := Try.checked) law.own started (by kernel_rfl) Try.func5
    (ChangeSpec.witness6 (enc := enc) (C := Try.checked) false ⟨#[], #[.slice none 0 0], []⟩ 8 (by kernel_rfl) (by kernel_rfl) (by kernel_rfl) (by kernel_rfl)) ?_
  intro W base args ds gs before hval0 hW hcnd _ hsh _
  have hval : ∀ (j : Nat) t v, Try.f5.params[j]? = some t → args[j]? = some v → Value.okWide Try.prog W .any base t v := hval0
  have hW' := hW
  obtain ⟨p, q, hA0, hV, rfl, hfz, hnd⟩ := hW
  have hA : DataW.TrodAll enc Try.prog W 0 (fun _ => true) true Try.f5.params.toList args.toList ds p := hA0
  rw [Try.params5] at hA hval
  obtain ⟨v0, vs0, d0, ds0, p0, q0, hargs, rfl, rfl, h0, r0⟩ := trodAll_cons hA
  obtain ⟨rfl, rfl, rfl⟩ := trodAll_nil r0
  obtain rfl : args = #[v0] := by cases args; simp_all
  obtain ⟨rfl, rfl⟩ := trodVars_none hV
  clear hA0 hval0
  refine (Calls.mono (R := fun e w' => e = .returned (.bool true) ∧ Below W.heap.size W w') ?_ fun e W' ⟨he, hb⟩ => ?_)
  · obtain ⟨A0, c0, l0, rfl, i0⟩ := abr.open_names_c (hval 0 22 v0 rfl rfl) h0
    exact walk W _ _ _ i0 (lines.ml_of hsh)
  · subst he
    exact ⟨_, rfl, law.post law.laidOut (by kernel_rfl) rfl rfl Try.underlying4 rfl hW' hb⟩

theorem over : Rows.abbrAgainRow.holds Try.pinned (OpenSpec.ofChange Rows.abbrAgainSpec) :=
  OpenClaim.holds_of_wide 5 Try.f5 rfl rfl rfl rfl rfl rfl rfl ⟨rfl, rfl, rfl, rfl, rfl⟩ rfl rfl rfl rfl rfl (by kernel_rfl) Try.func5 (by kernel_rfl)
    (of_decide_eq_true (by kernel_rfl)) (by unfold Func.isWrapper; first | (rw [if_pos (by decide +kernel)]; kernel_rfl) | (rw [if_neg (by decide +kernel)]; exact ⟨rfl, rfl⟩))
    (fun os started H enc _ => lifted os started H enc)

theorem proved : Rows.AbbrAgainSaid := over
end Go.Proofs.Ytgnglejdmnpfiaa.abbrAgain
