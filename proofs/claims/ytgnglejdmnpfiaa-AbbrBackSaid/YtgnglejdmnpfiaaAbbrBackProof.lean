/-
  AbbrBack: each name of a pool is where it is said to begin, and a pool is made just if all names are right, and there is room, for any names. No condition.
-/
import Derived.Test.YtgnglejdmnpfiaaAbbrLaw
import Derived.BigQuiet
namespace Go.Proofs.Ytgnglejdmnpfiaa.abbrBack
open Go.ChangeShapes Go.WideShapes Go.ChangeAt Go.RowKit
open lx ab mem abr
set_option linter.unusedVariables false
set_option maxRecDepth 100000

theorem ret_bool {b : Bool} (h : b = true) : Ending.returned (.bool b) = .returned (.bool true) := by rw [h]
def OHead (l : List ByteArray) (w : World) (r n i : Value) (W : World) : Prop :=
  ∃ (j : Nat) (q : Bool) (m : Int), j ≤ l.length ∧ r = .bool q ∧ n = .int .i64 m ∧ i = .int .i64 (j : Nat) ∧ ((l.take j).map L).all rt = q ∧ (q = true → m = ((pl (dst ((l.take j).map L))).length : Nat) ∧ m ≤ 17 * j) ∧ Below w.heap.size w W
def IHead (l : List ByteArray) (x : ByteArray) (i : Nat) (w : World) (h k : Value) (W : World) : Prop :=
  ∃ t : Nat, t ≤ i ∧ h = .bool (decide (L x ∈ (l.take t).map L)) ∧ k = .int .i64 (t : Nat) ∧ Below w.heap.size w W
def THead (n : Nat) (w w2 : World) (i : Value) (W : World) : Prop := ∃ j : Nat, j ≤ n ∧ i = .int .i64 (j : Nat) ∧ Below w.heap.size w W ∧ Below w2.heap.size w2 W
theorem mem_more {l : List ByteArray} {x : ByteArray} {t : Nat} (ht : t < l.length) : decide (L x ∈ (l.take (t + 1)).map L) = (decide (L x ∈ (l.take t).map L) || decide (l[t] = x)) := by
  rw [take_snoc ht, Bool.eq_iff_iff]
  simp only [decide_eq_true_eq, Bool.or_eq_true, List.mem_append, List.mem_singleton]
  constructor
  · rintro (h | h)
    · exact .inl h
    · exact .inr (L_inj h).symm
  · rintro (h | h)
    · exact .inl h
    · exact .inr (by rw [h])
set_option maxRecDepth 100000 in
set_option maxHeartbeats 8000000 in
theorem walk (w : World) (A : Option Addr) (c : Nat) (l : List ByteArray) (hl : RowN w A l) (T : lines.ML w) : Calls Try.prog 4 #[.slice A l.length c] w fun e w' => e = .returned (.bool true) ∧ Below w.heap.size w w' := by
  obtain ⟨hA, hn, hz⟩ := hl
  have SM := Lib.hid (small_at w T)
  by_cases h1 : 100 < l.length
  · clear T hA hz
    go_enter Try.func4, Try.ntmps4
    go_wp2_with (go_at_call 7; (with_reducible refine SM.out.mono ?_); rintro e w1 ⟨rfl, hb1⟩)
    go_ret
    exact ⟨rfl, hb1⟩
  have h2 : l.length ≤ 100 := by omega
  clear h1 hn
  have PO := Lib.hid (fun W (hb : Below w.heap.size w W) => pool_at l A c W (hA.below hb) (by omega) hz)
  have HZ := Lib.hid hz
  have HT := Lib.hid T
  clear hz T
  go_enter Try.func4, Try.ntmps4
  go_wp2_with (go_at_call 7; (with_reducible refine SM.out.mono ?_); rintro e w1 ⟨rfl, hb1⟩)
  clear SM
  go_loopw [4, 5, 6] (fun r n i W => OHead l w r n i W) (fun _ _ i _ => l.length - (intOf i).toNat)
  case atStart => exact ⟨0, true, 0, Nat.zero_le _, rfl, rfl, rfl, rfl, fun _ => ⟨rfl, by simp⟩, hb1⟩
  case round =>
    clear hb1
    obtain ⟨i, q, m, hi, rfl, rfl, rfl, hq, hm, hb⟩ := hrel
    by_cases hlt : i < l.length
    · obtain ⟨g, o, rfl, hgl, hcell⟩ := hA (by intro e; rw [e] at hlt; simp at hlt)
      have CE := Lib.hid (fun W (hb : Below w.heap.size w W) k (hk : k < l.length) => (hb.cell (p := ⟨g, o + k, none⟩) hgl).trans (hcell k hk))
      have hxz := HZ.out _ (List.getElem_mem hlt)
      have hsn := take_snoc hlt
      have CI := Lib.hid (fun W hb => CE.out W hb i hlt)
      generalize l[i] = x at *
      have hI0 : Hid (IHead l x i w (.bool false) (.int .i64 0) wr) := ⟨0, Nat.zero_le _, by simp, rfl, hb⟩
      have HM := Lib.hid hm
      have HQ := Lib.hid hq
      have HS := Lib.hid hsn
      have RI := Lib.hid (fun W => right_at x W hxz)
      have HXZ := Lib.hid hxz
      clear hm hq hsn hxz hcell hA PO
      generalize wr = W0 at *
      go_wp2
      go_loopw [7, 8] (fun h k W => IHead l x i w h k W) (fun _ k _ => i - (intOf k).toNat)
      case atStart => exact hI0.out
      case round =>
        clear hI0
        obtain ⟨t, ht, rfl, rfl, hb2⟩ := hrel
        by_cases htl : t < i
        · have ct := CE.out wr hb2 t (by omega)
          have ci := CI.out wr hb2
          have hmo := mem_more (x := x) (show t < l.length by omega)
          have exy := beq_s l[t] x
          generalize l[t] = y at *
          have htl2 : t < l.length := by omega
          cases hd : decide (L x ∈ (l.take t).map L) with
          | true =>
            rw [hd, Bool.true_or] at hmo
            have R : Hid (∀ W, Below w.heap.size w W → IHead l x i w (.bool true) (.int .i64 ((t : Int) + 1)) W) := fun W h => ⟨t + 1, htl, by rw [hmo], rfl, h⟩
            clear hmo exy hd CE HS HM HQ
            go_wp2
            go_quiet (fail)
            go_wp2
            go_roundw
            case rel => exact R.out _ (bel_drewN hb2 _)
            case measure => simp [intOf]; omega
          | false =>
            rw [hd, Bool.false_or] at hmo
            cases hy : decide (y = x) with
            | true =>
              rw [hy] at hmo exy
              have R : Hid (∀ W, Below w.heap.size w W → IHead l x i w (.bool true) (.int .i64 ((t : Int) + 1)) W) := fun W h => ⟨t + 1, htl, by rw [hmo], rfl, h⟩
              clear hmo hd CE HS HM HQ hy
              go_wp2
              go_quiet (fail)
              go_wp2
              go_roundw
              case rel => exact R.out _ (bel_drewN hb2 _)
              case measure => simp [intOf]; omega
            | false =>
              rw [hy] at hmo exy
              have R : Hid (∀ W, Below w.heap.size w W → IHead l x i w (.bool false) (.int .i64 ((t : Int) + 1)) W) := fun W h => ⟨t + 1, htl, by rw [hmo], rfl, h⟩
              clear hmo hd CE HS HM HQ hy
              go_wp2
              go_quiet (fail)
              go_wp2
              go_roundw
              case rel => exact R.out _ (bel_drewN hb2 _)
              case measure => simp [intOf]; omega
        · obtain rfl : i = t := by omega
          have ci := CI.out wr hb2
          cases q with
          | false =>
            have R : Hid (∀ m' W, Below w.heap.size w W → OHead l w (.bool false) (.int .i64 m') (.int .i64 ((i : Int) + 1)) W) := fun m' W h => by
              refine ⟨i + 1, false, m', hlt, rfl, rfl, rfl, ?_, fun e => (by cases e), h⟩
              rw [HS.out, List.all_append, HQ.out]
              rfl
            clear HM HQ HS CE RI
            cases hd : decide (L x ∈ (l.take i).map L) with
            | true =>
              clear hd
              go_wp2
              go_roundw
              case rel => exact R.out _ _ hb2
              case measure => simp [intOf]; omega
            | false =>
              clear hd
              go_wp2
              go_roundw
              case rel => exact R.out _ _ hb2
              case measure => simp [intOf]; omega
          | true =>
            obtain ⟨hm1, hm2⟩ := HM.out rfl
            cases hr : rt (L x) with
            | false =>
              rw [hr] at RI
              have R : Hid (∀ m' W, Below w.heap.size w W → OHead l w (.bool false) (.int .i64 m') (.int .i64 ((i : Int) + 1)) W) := fun m' W h => by
                refine ⟨i + 1, false, m', hlt, rfl, rfl, rfl, ?_, fun e => (by cases e), h⟩
                rw [HS.out, List.all_append, HQ.out]
                simp [hr]
              clear HM HQ HS CE hr hm1 hm2
              cases hd : decide (L x ∈ (l.take i).map L) with
              | true =>
                clear hd
                go_wp2_with (go_at_call 13; (with_reducible refine (RI.out _).mono ?_); rintro e w' ⟨rfl, rfl⟩)
                go_roundw
                case rel => exact R.out _ _ hb2
                case measure => simp [intOf]; omega
              | false =>
                clear hd
                go_wp2_with (go_at_call 13; (with_reducible refine (RI.out _).mono ?_); rintro e w' ⟨rfl, rfl⟩)
                go_roundw
                case rel => exact R.out _ _ hb2
                case measure => simp [intOf]; omega
            | true =>
              rw [hr] at RI
              have hxs : x.size ≤ 16 := ((rt_iff _).1 hr).2.1
              cases hd : decide (L x ∈ (l.take i).map L) with
              | true =>
                have hin := of_decide_eq_true hd
                have R : Hid (∀ W, Below w.heap.size w W → OHead l w (.bool true) (.int .i64 m) (.int .i64 ((i : Int) + 1)) W) := fun W h => by
                  refine ⟨i + 1, true, m, hlt, rfl, rfl, rfl, ?_, fun _ => ⟨?_, by omega⟩, h⟩
                  · rw [HS.out, List.all_append, HQ.out]
                    simp [hr]
                  · rw [HS.out, dst_snoc, nx_had ((dst_mem _ _).2 hin)]
                    exact hm1
                clear HM HQ HS CE hr hd hin hm1
                go_wp2_with (go_at_call 13; (with_reducible refine (RI.out _).mono ?_); rintro e w' ⟨rfl, rfl⟩)
                go_roundw
                case rel => exact R.out _ hb2
                case measure => simp [intOf]; omega
              | false =>
                have hin := of_decide_eq_false hd
                have hm0 : 0 ≤ m := by omega
                have R : Hid (∀ W, Below w.heap.size w W → OHead l w (.bool true) (.int .i64 (m + (x.size : Int) + 1)) (.int .i64 ((i : Int) + 1)) W) := fun W h => by
                  refine ⟨i + 1, true, m + (x.size : Int) + 1, hlt, rfl, rfl, rfl, ?_, fun _ => ⟨?_, by omega⟩, h⟩
                  · rw [HS.out, List.all_append, HQ.out]
                    simp [hr]
                  · rw [HS.out, dst_snoc, nx_new (fun k => hin ((dst_mem _ _).1 k)), pl_snoc, hm1, List.length_append, List.length_append, L_len, List.length_singleton]
                    omega
                clear HM HQ HS CE hr hd hin hm1
                go_wp2_with (go_at_call 13; (with_reducible refine (RI.out _).mono ?_); rintro e w' ⟨rfl, rfl⟩)
                go_roundw
                case rel => exact R.out _ hb2
                case measure => simp [intOf]; omega
    · obtain rfl : i = l.length := by omega
      rw [List.take_length] at hq hm
      clear HZ hlt hi
      have HA := Lib.hid hA
      cases ho : okB (l.map L) with
      | false =>
        have PB : Hid (∀ W, Below w.heap.size w W → Calls Try.prog 8 #[.slice A l.length c] W fun e w' => ∃ A c, e = .returned (.tuple #[.string ⟨#[]⟩, .slice A 0 c, .bool false]) ∧ Below W.heap.size W w') := fun W hb => (PO.out W hb).mono fun e w' ⟨A, c, he, _, h⟩ => by
          unfold pT pN at he
          rw [ho] at he
          exact ⟨A, c, he, h⟩
        clear PO hA HA HT
        cases q with
        | false =>
          clear hm ho hq
          go_wp2_with (go_at_call 8; (with_reducible refine (PB.out _ hb).mono ?_); rintro e w2 ⟨A2, c2, rfl, hb2⟩)
          go_ret
          exact ⟨ret_bool (by first | rfl | (simp; done)), btr hb hb2⟩
        | true =>
          obtain ⟨hm1, hm2⟩ := hm rfl
          have hm3 : 256 < m := by
            rcases Int.lt_or_le 256 m with h | h
            · exact h
            · have := (ok_iff (l.map L)).2 ⟨List.all_eq_true.1 hq, by omega⟩
              rw [ho] at this
              cases this
          clear hm hm1 ho hq
          go_wp2_with (go_at_call 8; (with_reducible refine (PB.out _ hb).mono ?_); rintro e w2 ⟨A2, c2, rfl, hb2⟩)
          go_ret
          exact ⟨ret_bool (by first | rfl | (simp; done)), btr hb hb2⟩
      | true =>
        have hok := (ok_iff _).1 ho
        obtain rfl : q = true := by rw [← hq]; exact List.all_eq_true.2 hok.1
        obtain ⟨hm1, hm2⟩ := hm rfl
        have hm3 : m ≤ 256 := by rw [hm1]; omega
        have hm0 : 0 ≤ m := by omega
        have eN : pN (l.map L) = (l.map L).map (fun x => (st x (dst (l.map L)) : Int)) := if_pos ho
        have PB : Hid (∀ W, Below w.heap.size w W → Calls Try.prog 8 #[.slice A l.length c] W fun e w' => ∃ A c, e = .returned (.tuple #[.string (B (pl (dst (l.map L)))), .slice A l.length c, .bool true]) ∧ Ints w' A (pN (l.map L)) ∧ Below W.heap.size W w') := fun W hb => (PO.out W hb).mono fun e w' ⟨A, c, he, hi, h⟩ => by
          unfold pT at he
          rw [ho, if_pos rfl, show (pN (l.map L)).length = l.length by rw [eN]; simp] at he
          exact ⟨A, c, he, hi, h⟩
        have AT : Hid (∀ j, (hj : j < l.length) → ∀ W, Below w.heap.size w W → Calls Try.prog 10 #[.string (B (pl (dst (l.map L)))), .int .i64 (st (L l[j]) (dst (l.map L)) : Nat)] W fun e w' => e = .returned (.tuple #[.string l[j], .bool true]) ∧ Below W.heap.size W w') := fun j hj W hb => by
          have hin : L l[j] ∈ l.map L := List.mem_map.2 ⟨_, List.getElem_mem hj, rfl⟩
          obtain ⟨r, hr⟩ := pl_at ((dst_mem _ _).2 hin)
          have hle := congrArg List.length hr
          rw [List.length_drop, List.length_append, List.length_cons] at hle
          refine (at_at (B (pl (dst (l.map L)))) (st (L l[j]) (dst (l.map L)) : Nat) (by omega) W (HT.out.below hb) (by rw [B_size]; omega)).mono ?_
          rintro e w' ⟨rfl, h⟩
          refine ⟨?_, h⟩
          unfold aS aB
          rw [L_B, aT_pool ho hin]
          show Ending.returned (.tuple #[.string (B (L l[j])), .bool true]) = _
          rw [B_L]
        have CP : Hid (∀ W A, Ints W A (pN (l.map L)) → ∀ j, j < l.length → ∃ g o, A = some ⟨g, o, none⟩ ∧ g < W.heap.size ∧ ∀ k (h : k < l.length), W.cell? ⟨g, o + k, none⟩ = some (.int .i64 (st (L l[k]) (dst (l.map L)) : Nat))) := fun W A h j hj => by
          rw [eN] at h
          obtain ⟨g, o, e1, e2, e3⟩ := h (by intro e; have := congrArg List.length e; simp at this; rw [this] at hj; simp at hj)
          refine ⟨g, o, e1, e2, fun k hk => ?_⟩
          rw [e3 k (by simpa using hk)]
          simp
        have hz : (B (pl (dst (l.map L)))).size = (pl (dst (l.map L))).length := B_size _
        rw [← hz] at hm1
        clear PO hA ho hq hok hm eN HT hz
        generalize B (pl (dst (l.map L))) = P at *
        subst hm1
        go_wp2_with (go_at_call 8; (with_reducible refine (PB.out _ hb).mono ?_); rintro e w2 ⟨A2, c2, rfl, hi2, hb2⟩)
        have HI := Lib.hid hi2
        have HB := btr hb hb2
        clear PB hi2
        go_loopw [12] (fun i W => THead l.length w w2 i W) (fun i _ => l.length - (intOf i).toNat)
        case atStart => exact ⟨0, Nat.zero_le _, rfl, HB, Below.refl _ _⟩
        case round =>
          clear HB hb hb2
          obtain ⟨j, hj, rfl, hb, hb2⟩ := hrel
          by_cases hlt : j < l.length
          · obtain ⟨g, o, rfl, hgl, hcell⟩ := HA.out (by intro e; rw [e] at hlt; simp at hlt)
            obtain ⟨g2, o2, rfl, hg2, hcell2⟩ := CP.out _ _ HI.out j hlt
            have c2 := (hb2.cell (p := ⟨g2, o2 + j, none⟩) hg2).trans (hcell2 j hlt)
            have CI := Lib.hid (fun W (hb : Below w.heap.size w W) => (hb.cell (p := ⟨g, o + j, none⟩) hgl).trans (hcell j hlt))
            have AJ := Lib.hid (AT.out j hlt)
            clear hcell hcell2 AT CP
            generalize l[j] = x at *
            generalize ((st (L x) (dst (l.map L)) : Nat) : Int) = a at *
            have E : (x.toList == x.toList) = true := by simp
            go_wp2_with (go_at_call 10; (with_reducible refine (AJ.out _ hb).mono ?_); rintro e w3 ⟨rfl, hb3⟩; have ci := CI.out _ (btr hb hb3))
            go_roundw
            case rel => exact ⟨j + 1, hlt, rfl, btr hb hb3, btr hb2 hb3⟩
            case measure => simp [intOf]; omega
          · obtain rfl : j = l.length := by omega
            clear AT CP
            go_wp2
            go_ret
            exact ⟨ret_bool (by first | rfl | (simp; done)), hb⟩
set_option maxRecDepth 100000 in
theorem lifted (os : Os) (started : os.Started) (H : Type) (enc : TypeId × Value → H) :
    ReturnsInHanded {} Try.checked os 4 .any (Rows.abbrBackSpec.pre6 enc Try.prog Try.f4 Rows.abbrBackRow.domain false) (Rows.abbrBackSpec.post enc Try.prog Try.f4 false true false false) := by
  refine returnsInHanded_of_change_shaped (C := Try.checked) law.own started (by kernel_rfl) Try.func4
    (ChangeSpec.witness6 (enc := enc) (C := Try.checked) false ⟨#[], #[.slice none 0 0], []⟩ 8 (by kernel_rfl) (by kernel_rfl) (by kernel_rfl) (by kernel_rfl)) ?_
  intro W base args ds gs before hval0 hW hcnd _ hsh _
  have hval : ∀ (j : Nat) t v, Try.f4.params[j]? = some t → args[j]? = some v → Value.okWide Try.prog W .any base t v := hval0
  have hW' := hW
  obtain ⟨p, q, hA0, hV, rfl, hfz, hnd⟩ := hW
  have hA : DataW.TrodAll enc Try.prog W 0 (fun _ => true) true Try.f4.params.toList args.toList ds p := hA0
  rw [Try.params4] at hA hval
  obtain ⟨v0, vs0, d0, ds0, p0, q0, hargs, rfl, rfl, h0, r0⟩ := trodAll_cons hA
  obtain ⟨rfl, rfl, rfl⟩ := trodAll_nil r0
  obtain rfl : args = #[v0] := by cases args; simp_all
  obtain ⟨rfl, rfl⟩ := trodVars_none hV
  clear hA0 hval0
  refine (Calls.mono (R := fun e w' => e = .returned (.bool true) ∧ Below W.heap.size W w') ?_ fun e W' ⟨he, hb⟩ => ?_)
  · obtain ⟨A0, c0, l0, rfl, i0⟩ := abr.open_names (hval 0 22 v0 rfl rfl) h0
    exact walk W _ _ _ i0 (lines.ml_of hsh)
  · subst he
    exact ⟨_, rfl, law.post law.laidOut (by kernel_rfl) rfl rfl Try.underlying4 rfl hW' hb⟩

theorem over : Rows.abbrBackRow.holds Try.pinned (OpenSpec.ofChange Rows.abbrBackSpec) :=
  OpenClaim.holds_of_wide 4 Try.f4 rfl rfl rfl rfl rfl rfl rfl ⟨rfl, rfl, rfl, rfl, rfl⟩ rfl rfl rfl rfl rfl (by kernel_rfl) Try.func4 (by kernel_rfl)
    (of_decide_eq_true (by kernel_rfl)) (by unfold Func.isWrapper; first | (rw [if_pos (by decide +kernel)]; kernel_rfl) | (rw [if_neg (by decide +kernel)]; exact ⟨rfl, rfl⟩))
    (fun os started H enc _ => lifted os started H enc)

theorem proved : Rows.AbbrBackSaid := over
end Go.Proofs.Ytgnglejdmnpfiaa.abbrBack
