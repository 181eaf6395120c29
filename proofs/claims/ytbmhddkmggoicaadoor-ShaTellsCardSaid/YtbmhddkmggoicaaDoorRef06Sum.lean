/-
  What the document's own Sum answers: the digest of the bytes. Conditions: the slice reads as bytes, at most 1000000 of them; and, as a premise (BlockOk), what its block answers.
-/
import Derived.Test.YtbmhddkmggoicaaDoorRef06Pad
import Derived.Test.YtbmhddkmggoicaaDoorRef06Rot
namespace Go.Proofs.YtbmhddkmggoicaaDoor.ref06
open Go.ChangeShapes Go.WideShapes Go.ChangeAt Go.RowKit
open sx sha
set_option linter.unusedVariables false

/-- what block answers. -/
def BlockOk : Prop := ∀ (h : V5) (f : Nat → Nat) (w : World) (b o cap : Nat), h.Ok → Byt f 64 → 64 ≤ cap → (∀ j, j < 64 → w.cell? ⟨b, o + j, none⟩ = some (.int .u8 (f j : Nat))) →
    Calls Tryd.prog 18 #[.agg (cs .u32 h.at 5), .slice (some ⟨b, o, none⟩) 64 cap] w fun e w' => e = .returned (.agg (cs .u32 (mixV h f).at 5)) ∧ Below w.heap.size w w'
def SHd (m : List Nat) (B : Nat) (W1 : World) (i : Value) (W : World) : Prop :=
  ∃ k c, c = 64 * k ∧ 64 * k ≤ m.length ∧ i = .int .i64 (c : Nat) ∧ W.heap[B]? = some (.cells (cs .u32 (hs m k).at 5) 28) ∧ Keep B W1 W
theorem dig24 (s : V5) (k : Nat) : s.at (k / 4) / 2 ^ (24 - 8 * (k % 4)) % 256 = dig s k := by
  unfold dig; rw [show 24 - 8 * (k % 4) = 8 * (3 - k % 4) by omega]
set_option maxHeartbeats 4000000 in
theorem sum_any (HB : BlockOk) (l : List Nat) (v : Value) (w : World) (hr : RdW w v l) (hby : Bys l) (hn : l.length ≤ 1000000) :
    Calls Tryd.prog 9 #[v] w fun e w' => e = .returned (.agg (cs .u8 (dig (sumV l)) 20)) ∧ Below w.heap.size w w' := by
  obtain ⟨W0, HW0⟩ : ∃ W0, W0 = (w.alloc (.cells z20 23)).alloc (.cells (cs .u32 sx.start.at 5) 28) := ⟨_, rfl⟩
  have B0 : Below w.heap.size w W0 := by rw [HW0]; exact bal (bal (Below.refl _ _) _) _
  have Z0 : W0.heap.size = w.heap.size + 1 + 1 := by rw [HW0]; simp
  have PD := Lib.hid (padded_any l v W0 (hr.below B0) hn)
  have G0 := Lib.hid (show W0.heap[w.heap.size]? = some (.cells z20 23) by rw [HW0]; exact hp_old (hp_new w _) _)
  have G1 := Lib.hid (show W0.heap[w.heap.size + 1]? = some (.cells (cs .u32 sx.start.at 5) 28) by rw [HW0]; exact hp_new1 w _ _)
  have HZ := Lib.hid Z0
  have HE : Hid (W0 = (w.alloc (.cells #[.int .u8 0, .int .u8 0, .int .u8 0, .int .u8 0, .int .u8 0, .int .u8 0, .int .u8 0, .int .u8 0, .int .u8 0, .int .u8 0, .int .u8 0, .int .u8 0, .int .u8 0, .int .u8 0, .int .u8 0, .int .u8 0, .int .u8 0, .int .u8 0, .int .u8 0, .int .u8 0] 23)).alloc (.cells #[.int .u32 1732584193, .int .u32 4023233417, .int .u32 2562383102, .int .u32 271733878, .int .u32 3285377520] 28)) := HW0
  clear HW0 Z0
  go_enter Tryd.func9, Tryd.ntmps9
  go_wp2_with (go_at_call 17; rw [← HE.out]; (with_reducible refine PD.out.mono ?_); rintro e W1 ⟨g, cap, rfl, ho, hb1⟩)
  obtain ⟨m, hm⟩ : ∃ m, m = l ++ pad l.length := ⟨_, rfl⟩
  have hml : m.length = l.length + (pad l.length).length := by rw [hm, List.length_append]
  have hmb : Bys m := by rw [hm]; exact bys_app hby (pad_bys _)
  have hm64 : m.length % 64 = 0 := by rw [hml]; exact pad_mult l.length
  have hmn : m.length ≤ 1000100 := by rw [hml, pad_len]; have : zz l.length < 64 := Nat.mod_lt _ (by decide); omega
  have SV := Lib.hid (show hs m (m.length / 64) = sumV l by rw [hm, List.length_append, pad_len]; rfl)
  rw [← hm] at ho
  rw [← hml]
  have RM := Lib.hid (own_rdW ho)
  have hgb : W0.heap.size ≤ g ∧ g < W1.heap.size := World.ownsRow.lt ho g rfl
  have hcap : m.length ≤ cap := by obtain ⟨_, _, e, hc, _⟩ := own_rdW ho; cases e; exact hc
  have K0 := Lib.hid (kept G0.out hb1)
  have K1 := Lib.hid (kept G1.out hb1)
  have bw := btr B0 hb1
  have hW0s := HZ.out
  clear hm hml ho HE PD
  generalize hBe : w.heap.size + 1 = B at *
  go_loopw [5] (fun i W => SHd m B W1 i W) (fun i _ => m.length - (intOf i).toNat)
  case atStart => exact ⟨0, 0, rfl, by omega, rfl, K1.out, Keep.refl _ _⟩
  case round =>
    obtain ⟨k, c, hc, hk, rfl, hB, hkp⟩ := hrel
    by_cases hlt : c < m.length
    · have hc2 : c + 64 ≤ m.length := by omega
      have CE : ∀ j, j < 64 → wr.cell? ⟨g, c + j, none⟩ = some (.int .u8 (at0 m k j : Nat)) := by
        intro j hj
        obtain ⟨A2, cap2, e2, _, _, hrd⟩ := RM.out
        obtain ⟨b2, o2, hA2, hcell⟩ := hrd (fun e => by rw [e] at hlt; simp at hlt)
        cases e2
        cases hA2
        have := hcell (c + j) (by omega)
        rw [Nat.zero_add] at this
        rw [hkp.cell (p := ⟨g, c + j, none⟩) (by show g ≠ B; omega) this]
        have e : m.getD (64 * k + j) 0 = m[c + j]'(by omega) := by rw [← hc, List.getD_eq_getElem?_getD, List.getElem?_eq_getElem (by omega), Option.getD_some]
        unfold at0
        rw [e]
      have BK := Lib.hid (fun W (hW : ∀ j, j < 64 → W.cell? ⟨g, c + j, none⟩ = some (.int .u8 (at0 m k j : Nat))) => HB (hs m k) (at0 m k) W g c (cap - c) (hs_ok m k) (fun j hj => getD_lt hmb _) (by omega) hW)
      have HC : Hid (∀ j, j < 64 → wr.drew.cell? ⟨g, c + j, none⟩ = some (.int .u8 (at0 m k j : Nat))) := CE
      have HBk := Lib.hid hB
      have HK := Lib.hid (show hs m (k + 1) = mixV (hs m k) (at0 m k) from rfl)
      have e1 : IntKind.i64.wrap ((c : Int) + 64) = (c : Int) + 64 := IntWalk.i64_in _ (by omega)
      have n1 : ((c : Int) + 64).toNat = c + 64 := by omega
      have p1 : (0 : Int) ≤ (c : Int) + 64 := by omega
      have p2 : (c : Int) ≤ (c : Int) + 64 := by omega
      have p3 : (c : Int) + 64 ≤ (cap : Int) := by omega
      have p4 : (cap = c) = False := eq_false (by omega)
      have HCk := Lib.hid hc
      clear CE hB hc
      go_wp2
      refine tail_region 6 (by kernel_rfl) (by kernel_rfl) ?_
      simp only [List.take_succ_cons, List.take_zero, List.drop_succ_cons, List.drop_zero]
      refine wpStill_load rfl 28 (.tmp 3) rfl ⟨B, 0, none⟩ rfl _ (run_loadVar_row _ B 28 28 _ (0, 0) _ HBk.out Tryd.underlying28 rfl (szc sz5 _ _)) ?_
      repeat still_step
      refine wpStill_nil ?_
      clear e1 n1 p4
      go_wp2_with (first
        | (go_at_call 18; (with_reducible refine (BK.out wr.drew HC.out).mono ?_); rintro e w5 ⟨rfl, hb5⟩; have G5 := Lib.hid (kept HBk.out ((Below.refl _ wr).drew.trans hb5)))
        | (refine wpList_store_row rfl 28 (.tmp 3) (.tmp 23) rfl B _ rfl rfl _ _ G5.out (szc sz5 _ _) (by rw [cs_size, cs_size]) (cs_one _ _ _) ?_))
      go_roundw
      case rel =>
        refine ⟨k + 1, c + 64, by have := HCk.out; omega, by have := HCk.out; omega, by go_num, ?_, ?_⟩
        · rw [HK.out]; exact setRow_heap _ _ _ _ _ _ G5.out
        · exact (hkp.below ((Below.refl _ wr).drew.trans hb5)).setRow _
      case measure => simp [intOf]; omega
    · obtain ⟨s, hs1⟩ : ∃ s, s = sumV l := ⟨_, rfl⟩
      have hkm : k = m.length / 64 := by omega
      rw [hkm, SV.out, ← hs1] at hB
      have sok : s.Ok := by rw [hs1]; exact sumV_ok l
      have bwr : Below w.heap.size w wr := hkp.to_below bw (by omega) (by have := bw.size; omega)
      have Kz : Hid (wr.heap[w.heap.size]? = some (.cells z20 23)) := by
        show wr.heap[w.heap.size]? = _
        rw [hkp.block _ (Array.getElem?_eq_some_iff.1 K0.out).1 (by omega)]; exact K0.out
      have HBk := Lib.hid hB
      have hBl : B < wr.heap.size := (Array.getElem?_eq_some_iff.1 hB).1
      have hwl : w.heap.size < wr.heap.size := (Array.getElem?_eq_some_iff.1 Kz.out).1
      have HS1 := Lib.hid hs1
      clear hB hkm hc hs1
      obtain ⟨W2, rfl⟩ : ∃ W2, W2 = wr := ⟨_, rfl⟩
      go_wp2
      go_loopw [7] (fun i W => ∃ k : Nat, k ≤ 20 ∧ i = .int .i64 k ∧ W = W2.alloc (.cells (cs .u8 (upto (dig s) k) 20) 23)) (fun i _ => 20 - (intOf i).toNat)
      case atStart => exact ⟨0, by omega, rfl, by rw [upto_zero]; rfl⟩
      case round =>
        obtain ⟨k, hk, rfl, rfl⟩ := hrel
        by_cases hlt : k < 20
        · have c1 := row_cell HBk.out (k / 4) _ (cs_get .u32 s.at 5 (k / 4) (by omega))
          have c2 := cs_get .u8 (upto (dig s) k) 20 k hlt
          have hd : ((s.at (k / 4) : Nat) : Int) / 2 ^ (24 - 8 * (k % 4)) % 256 = (dig s k : Nat) := by rw [← dig24 s k, Int.natCast_emod, Int.natCast_ediv, Int.natCast_pow]; rfl
          have ST := Lib.hid (upto_set .u8 (dig s) k 20 (.int .u8 (dig s k : Nat)) rfl)
          have sl := at_lt sok (k / 4)
          generalize s.at (k / 4) = X at *
          go_wp2
          rw [ST.out]
          go_roundw
          case rel => exact ⟨k + 1, by omega, by go_num, rfl⟩
          case measure => simp [intOf]; omega
        · obtain rfl : k = 20 := by omega
          rw [upto_all]
          go_wp2_with (first
            | (refine wpList_load_row rfl 23 (.tmp 6) rfl W2.heap.size rfl _ _ _ _ (hp_new W2 _) Tryd.underlying23 rfl (szc sz20 _ _) ?_)
            | (refine wpList_store_row rfl 23 (.tmp 2) (.tmp 40) rfl w.heap.size _ rfl rfl _ _ (hp_old Kz.out _) (szc sz20 _ _) (by rw [cs_size]; rfl) (cs_one _ _ _) ?_))
          refine end_row rfl _ _ w.heap.size _ _ _ _ rfl (setRow_heap _ _ _ _ _ _ (hp_old Kz.out _)) Tryd.underlying23 (szc sz20 _ _) rfl ⟨by rw [HS1.out], ?_⟩
          exact bel_setRow (bal bwr _) (Nat.le_refl _) _
end Go.Proofs.YtbmhddkmggoicaaDoor.ref06
