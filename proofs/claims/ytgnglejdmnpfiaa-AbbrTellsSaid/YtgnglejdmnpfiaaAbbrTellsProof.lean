/-
  AbbrTells: which names are right, pools, and what stands where, are what the document's own answers say, for any names, any text, any place. No condition.
-/
import Derived.Test.YtgnglejdmnpfiaaAbbrLaw
import Derived.Test.YtgnglejdmnpfiaaRef14Pool
namespace Go.Proofs.Ytgnglejdmnpfiaa.abbrTells
open Go.ChangeShapes Go.WideShapes Go.ChangeAt Go.RowKit
open lx ab mem abr
set_option linter.unusedVariables false
set_option maxRecDepth 100000

theorem ret_bool {b : Bool} (h : b = true) : Ending.returned (.bool b) = .returned (.bool true) := by rw [h]
def THead (n : Nat) (w : World) (i : Value) (W : World) : Prop := ∃ j : Nat, j ≤ n ∧ i = .int .i64 (j : Nat) ∧ Below w.heap.size w W
theorem ints_k {w W : World} (hb : Below w.heap.size w W) (l : List Int) (A A' : Option Addr) (c c' : Nat) (hl : l.length < 4294967281) (h : Ints W A l) (h' : Ints W A' l) :
    Calls Try.prog 12 #[.slice A l.length c, .slice A' l.length c'] W fun e w' => e = .returned (.bool true) ∧ Below w.heap.size w w' := (ref14.ints_at W l A A' c c' hl h h').mono fun _ _ h => ⟨h.1, btr hb h.2⟩
set_option maxRecDepth 100000 in
set_option maxHeartbeats 8000000 in
theorem walk (w : World) (A : Option Addr) (c : Nat) (l : List ByteArray) (hl : RowN w A l) (s : ByteArray) (hs : s.size ≤ maxLen) (a : Int) (ha : -9223372036854775808 ≤ a ∧ a ≤ 9223372036854775807) (T : lines.ML w) : Calls Try.prog 3 #[.slice A l.length c, .string s, .int .i64 a] w fun e w' => e = .returned (.bool true) ∧ Below w.heap.size w w' := by
  unfold maxLen at hs
  obtain ⟨hA, hn, hz⟩ := hl
  have SM := Lib.hid (small_at w T)
  by_cases h1 : 100 < l.length
  · clear T hA hz
    go_enter Try.func3, Try.ntmps3
    go_wp2_with (go_at_call 7; (with_reducible refine SM.out.mono ?_); rintro e w1 ⟨rfl, hb1⟩)
    go_ret
    exact ⟨rfl, hb1⟩
  by_cases h2 : 500 < s.size
  · clear T hA hz
    go_enter Try.func3, Try.ntmps3
    go_wp2_with (go_at_call 7; (with_reducible refine SM.out.mono ?_); rintro e w1 ⟨rfl, hb1⟩)
    go_ret
    exact ⟨rfl, hb1⟩
  have h3 : l.length ≤ 100 := by omega
  have h4 : s.size ≤ 500 := by omega
  clear h1 h2 hn
  have HA := Lib.hid hA
  have HZ := Lib.hid hz
  have PO := Lib.hid (fun W (hb : Below w.heap.size w W) => pool_at l A c W (hA.below hb) (by omega) hz)
  have PR := Lib.hid (fun W (hb : Below w.heap.size w W) => ref14.pool_at l A c W (hA.below hb) h3 hz)
  have AT := Lib.hid (fun W (hb : Below w.heap.size w W) => at_at s a ha W (T.below hb) (by omega))
  have AR := Lib.hid (fun W (hb : Below w.heap.size w W) => ref14.at_at s a ha W (by omega))
  have RI := Lib.hid (fun W => right_at s W hs)
  have RR := Lib.hid (fun W => ref14.right_at s W hs)
  have HN : Hid ((pN (l.map L)).length < 4294967281) := by
    show _ < _
    rw [pN_len]
    split
    · rw [List.length_map]; omega
    · decide
  unfold PTold at PO PR
  unfold ATold at AT AR
  have E1 : ((B (pT (l.map L))).toList == (B (pT (l.map L))).toList) = true := by simp
  have E2 : ((B (aS (L s) a)).toList == (B (aS (L s) a)).toList) = true := by simp
  have E3 : (okB (l.map L) == okB (l.map L)) = true := by simp
  have E4 : (aB (L s) a == aB (L s) a) = true := by simp
  have E5 : (rt (L s) == rt (L s)) = true := by simp
  clear T hA hz ha
  generalize B (pT (l.map L)) = P at *
  generalize B (aS (L s) a) = Y at *
  generalize okB (l.map L) = y1 at *
  generalize aB (L s) a = y2 at *
  generalize rt (L s) = y3 at *
  generalize pN (l.map L) = ns at *
  go_enter Try.func3, Try.ntmps3
  go_wp2_with (go_at_call 7; (with_reducible refine SM.out.mono ?_); rintro e w1 ⟨rfl, hb1⟩)
  go_loopw [8] (fun i W => THead l.length w i W) (fun i _ => l.length - (intOf i).toNat)
  case atStart => exact ⟨0, Nat.zero_le _, rfl, hb1⟩
  case round =>
    clear hb1
    obtain ⟨i, hi, rfl, hb⟩ := hrel
    by_cases hlt : i < l.length
    · obtain ⟨g, o, rfl, hgl, hcell⟩ := HA.out (by intro e; rw [e] at hlt; simp at hlt)
      have ci := (hb.cell (p := ⟨g, o + i, none⟩) hgl).trans (hcell i hlt)
      have hxz := HZ.out _ (List.getElem_mem hlt)
      clear hcell PO PR AT AR RI RR
      generalize l[i] = x at *
      by_cases hx : 100 < x.size
      · go_wp2
        go_ret
        exact ⟨rfl, hb⟩
      · have hx2 : x.size ≤ 100 := by omega
        go_wp2
        go_roundw
        case rel => exact ⟨i + 1, hlt, rfl, hb⟩
        case measure => simp [intOf]; omega
    · obtain rfl : i = l.length := by omega
      clear HA HZ
      go_wp2_with (first
        | (go_at_call 8; (with_reducible refine (PO.out _ hb).mono ?_); rintro e w2 ⟨A2, c2, rfl, hi2, hb2⟩; have HB := Lib.hid (btr hb hb2); have HI := Lib.hid hi2; clear hi2 hb2 hb)
        | (go_at_call 9; (with_reducible refine (PR.out _ HB.out).mono ?_); rintro e w3 ⟨A3, c3, rfl, hi3, hb3⟩; replace HB := Lib.hid (btr HB.out hb3); replace HI := Lib.hid (HI.out.below hb3); have HJ := Lib.hid hi3; clear hi3 hb3)
        | (go_at_call 10; (with_reducible refine (AT.out _ HB.out).mono ?_); rintro e w4 ⟨rfl, hb4⟩; replace HB := Lib.hid (btr HB.out hb4); replace HI := Lib.hid (HI.out.below hb4); replace HJ := Lib.hid (HJ.out.below hb4); clear hb4)
        | (go_at_call 11; (with_reducible refine (AR.out _ HB.out).mono ?_); rintro e w5 ⟨rfl, hb5⟩; replace HB := Lib.hid (btr HB.out hb5); replace HI := Lib.hid (HI.out.below hb5); replace HJ := Lib.hid (HJ.out.below hb5); clear hb5)
        | (go_at_call 12; (with_reducible refine (ints_k HB.out ns _ _ _ _ HN.out HI.out HJ.out).mono ?_); rintro e w6 ⟨rfl, hb6⟩; replace HB := Lib.hid hb6; clear hb6)
        | (go_at_call 13; (with_reducible refine (RI.out _).mono ?_); rintro e w' ⟨rfl, rfl⟩)
        | (go_at_call 14; (with_reducible refine (RR.out _).mono ?_); rintro e w' ⟨rfl, rfl⟩))
      go_ret
      exact ⟨ret_bool (by first | rfl | (simp; done)), HB.out⟩
set_option maxRecDepth 100000 in
theorem lifted (os : Os) (started : os.Started) (H : Type) (enc : TypeId × Value → H) :
    ReturnsInHanded {} Try.checked os 3 .any (Rows.abbrTellsSpec.pre6 enc Try.prog Try.f3 Rows.abbrTellsRow.domain false) (Rows.abbrTellsSpec.post enc Try.prog Try.f3 false true false false) := by
  refine returnsInHanded_of_change_shaped (C := Try.checked) law.own started (by kernel_rfl) Try.func3
    (ChangeSpec.witness6 (enc := enc) (C := Try.checked) false ⟨#[], #[.slice none 0 0, .string ByteArray.empty, .int .i64 0], []⟩ 8 (by kernel_rfl) (by kernel_rfl) (by kernel_rfl) (by kernel_rfl)) ?_
  intro W base args ds gs before hval0 hW hcnd _ hsh _
  have hval : ∀ (j : Nat) t v, Try.f3.params[j]? = some t → args[j]? = some v → Value.okWide Try.prog W .any base t v := hval0
  have hW' := hW
  obtain ⟨p, q, hA0, hV, rfl, hfz, hnd⟩ := hW
  have hA : DataW.TrodAll enc Try.prog W 0 (fun _ => true) true Try.f3.params.toList args.toList ds p := hA0
  rw [Try.params3] at hA hval
  obtain ⟨v0, vs0, d0, ds0, p0, q0, hargs, rfl, rfl, h0, r0⟩ := trodAll_cons hA
  obtain ⟨v1, vs1, d1, ds1, p1, q1, rfl, rfl, rfl, h1, r1⟩ := trodAll_cons r0
  obtain ⟨v2, vs2, d2, ds2, p2, q2, rfl, rfl, rfl, h2, r2⟩ := trodAll_cons r1
  obtain ⟨rfl, rfl, rfl⟩ := trodAll_nil r2
  obtain rfl : args = #[v0, v1, v2] := by cases args; simp_all
  obtain ⟨rfl, rfl⟩ := trodVars_none hV
  clear hA0 hval0
  obtain ⟨a1, rfl, hd1, hp1, w1⟩ := ChangeMaps.open_string Try.underlying9 (hval 1 9 v1 rfl rfl) h1
  obtain ⟨a2, rfl, hd2, hp2, w2⟩ := open_int Try.underlying3 (hval 2 3 v2 rfl rfl) h2
  refine (Calls.mono (R := fun e w' => e = .returned (.bool true) ∧ Below W.heap.size W w') ?_ fun e W' ⟨he, hb⟩ => ?_)
  · obtain ⟨A0, c0, l0, rfl, i0⟩ := abr.open_names (hval 0 22 v0 rfl rfl) h0
    exact walk W _ _ _ i0 a1 w1 a2 (bounds_i64 w2) (lines.ml_of hsh)
  · subst he
    exact ⟨_, rfl, law.post law.laidOut (by kernel_rfl) rfl rfl Try.underlying4 rfl hW' hb⟩

theorem over : Rows.abbrTellsRow.holds Try.pinned (OpenSpec.ofChange Rows.abbrTellsSpec) :=
  OpenClaim.holds_of_wide 3 Try.f3 rfl rfl rfl rfl rfl rfl rfl ⟨rfl, rfl, rfl, rfl, rfl⟩ rfl rfl rfl rfl rfl (by kernel_rfl) Try.func3 (by kernel_rfl)
    (of_decide_eq_true (by kernel_rfl)) (by unfold Func.isWrapper; first | (rw [if_pos (by decide +kernel)]; kernel_rfl) | (rw [if_neg (by decide +kernel)]; exact ⟨rfl, rfl⟩))
    (fun os started H enc _ => lifted os started H enc)

theorem proved : Rows.AbbrTellsSaid := over
end Go.Proofs.Ytgnglejdmnpfiaa.abbrTells
