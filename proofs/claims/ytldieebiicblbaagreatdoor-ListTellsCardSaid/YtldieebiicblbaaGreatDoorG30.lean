/-
  What the document's own turn and mix answer. Condition: the arguments are words.
-/
import Derived.Test.YtldieebiicblbaaGreatDoorG02
import Derived.Test.YtldieebiicblbaaGreatDoorG29
import Derived.Test.YtldieebiicblbaaGreatDoorG13
import Derived.WalkSmall
namespace Go.Proofs.YtldieebiicblbaaGreatDoor.ref06
open Go.ChangeShapes Go.WideShapes Go.ChangeAt Go.RowKit
open sx sha
set_option linter.unusedVariables false
set_option maxRecDepth 100000

theorem turn_any (x : Nat) (n : Nat) (w : World) (hx : x < 4294967296) (h1 : 1 ≤ n) (h2 : n ≤ 31) : Calls Tryz.prog 90 #[.int .u32 (x : Nat), .int .i64 (n : Nat)] w fun e w' => e = .returned (.int .u32 (rot x n : Nat)) ∧ ∃ k, w' = w.drewN k := by
  have hr := Lib.hid (rot_bits x n hx)
  go_enter Tryz.func90, Tryz.ntmps90
  go_wp2
  go_quiet (fail)
  go_wp2
  go_ret
  exact ⟨ret_one hr.out, _, rfl⟩
theorem mix_any (i b c d : Nat) (w : World) (hi : i < 80) (hb : b < 4294967296) (hc : c < 4294967296) (hd : d < 4294967296) :
    Calls Tryz.prog 91 #[.int .i64 (i : Nat), .int .u32 (b : Nat), .int .u32 (c : Nat), .int .u32 (d : Nat)] w fun e w' => e = .returned (.int .u32 ((ff i b c d + kk i) % 4294967296 : Nat)) ∧ w = w' := by
  have hs : IntKind.u32.signed = false := rfl
  have E0 := Lib.hid (f0 b c d hb hc hd)
  have E1 := Lib.hid (f1 b c d hb hc hd)
  have E2 := Lib.hid (f2 b c d hb hc hd)
  rcases (show i < 20 ∨ (20 ≤ i ∧ i < 40) ∨ (40 ≤ i ∧ i < 60) ∨ 60 ≤ i by omega) with h | ⟨h, h'⟩ | ⟨h, h'⟩ | h
  · have F := Lib.hid (show ff i b c d = (b &&& c) ^^^ ((4294967295 - b) &&& d) from if_pos h)
    have G := Lib.hid (show kk i = 1518500249 from if_pos h)
    go_enter Tryz.func91, Tryz.ntmps91
    go_wp2
    go_ret
    exact ⟨ret_one (by rw [F.out, G.out, E0.out]; omega), rfl⟩
  · have F := Lib.hid (show ff i b c d = b ^^^ c ^^^ d by unfold ff; rw [if_neg (by omega), if_pos h'])
    have G := Lib.hid (show kk i = 1859775393 by unfold kk; rw [if_neg (by omega), if_pos h'])
    go_enter Tryz.func91, Tryz.ntmps91
    go_wp2
    go_ret
    exact ⟨ret_one (by rw [F.out, G.out, E1.out]; omega), rfl⟩
  · have F := Lib.hid (show ff i b c d = (b &&& c) ^^^ (b &&& d) ^^^ (c &&& d) by unfold ff; rw [if_neg (by omega), if_neg (by omega), if_pos h'])
    have G := Lib.hid (show kk i = 2400959708 by unfold kk; rw [if_neg (by omega), if_neg (by omega), if_pos h'])
    have h0 : 20 ≤ i := by omega
    go_enter Tryz.func91, Tryz.ntmps91
    go_wp2
    go_ret
    exact ⟨ret_one (by rw [F.out, G.out, E2.out]; omega), rfl⟩
  · have F := Lib.hid (show ff i b c d = b ^^^ c ^^^ d by unfold ff; rw [if_neg (by omega), if_neg (by omega), if_neg (by omega)])
    have G := Lib.hid (show kk i = 3395469782 by unfold kk; rw [if_neg (by omega), if_neg (by omega), if_neg (by omega)])
    have h0 : 20 ≤ i := by omega
    have h1 : 40 ≤ i := by omega
    go_enter Tryz.func91, Tryz.ntmps91
    go_wp2
    go_ret
    exact ⟨ret_one (by rw [F.out, G.out, E1.out]; omega), rfl⟩
end Go.Proofs.YtldieebiicblbaaGreatDoor.ref06

/-
  What the document's own Sum answers: the digest of the bytes. Conditions: the slice reads as bytes, at most 1000000 of them; and, as a premise (BlockOk), what its block answers.
-/
namespace Go.Proofs.YtldieebiicblbaaGreatDoor.ref06
open Go.ChangeShapes Go.WideShapes Go.ChangeAt Go.RowKit
open sx sha
set_option linter.unusedVariables false
set_option maxRecDepth 100000

/-- what block answers. -/
def BlockOk : Prop := ∀ (h : V5) (f : Nat → Nat) (w : World) (b o cap : Nat), h.Ok → Byt f 64 → 64 ≤ cap → (∀ j, j < 64 → w.cell? ⟨b, o + j, none⟩ = some (.int .u8 (f j : Nat))) →
    Calls Tryz.prog 65 #[.agg (cs .u32 h.at 5), .slice (some ⟨b, o, none⟩) 64 cap] w fun e w' => e = .returned (.agg (cs .u32 (mixV h f).at 5)) ∧ Below w.heap.size w w'
def SHd (m : List Nat) (B : Nat) (W1 : World) (i : Value) (W : World) : Prop :=
  ∃ k c, c = 64 * k ∧ 64 * k ≤ m.length ∧ i = .int .i64 (c : Nat) ∧ W.heap[B]? = some (.cells (cs .u32 (hs m k).at 5) 43) ∧ Keep B W1 W
theorem dig24 (s : V5) (k : Nat) : s.at (k / 4) / 2 ^ (24 - 8 * (k % 4)) % 256 = dig s k := by
  unfold dig; rw [show 24 - 8 * (k % 4) = 8 * (3 - k % 4) by omega]
set_option maxHeartbeats 4000000 in
theorem sum_any (HB : BlockOk) (l : List Nat) (v : Value) (w : World) (hr : RdW w v l) (hby : Bys l) (hn : l.length ≤ 1000000) :
    Calls Tryz.prog 37 #[v] w fun e w' => e = .returned (.agg (cs .u8 (dig (sumV l)) 20)) ∧ Below w.heap.size w w' := by
  obtain ⟨W0, HW0⟩ : ∃ W0, W0 = (w.alloc (.cells z20 35)).alloc (.cells (cs .u32 sx.start.at 5) 43) := ⟨_, rfl⟩
  have B0 : Below w.heap.size w W0 := by rw [HW0]; exact bal (bal (Below.refl _ _) _) _
  have Z0 : W0.heap.size = w.heap.size + 1 + 1 := by rw [HW0]; simp
  have PD := Lib.hid (padded_any l v W0 (hr.below B0) hn)
  have G0 := Lib.hid (show W0.heap[w.heap.size]? = some (.cells z20 35) by rw [HW0]; exact hp_old (hp_new w _) _)
  have G1 := Lib.hid (show W0.heap[w.heap.size + 1]? = some (.cells (cs .u32 sx.start.at 5) 43) by rw [HW0]; exact hp_new1 w _ _)
  have HZ := Lib.hid Z0
  have HE : Hid (W0 = (w.alloc (.cells #[.int .u8 0, .int .u8 0, .int .u8 0, .int .u8 0, .int .u8 0, .int .u8 0, .int .u8 0, .int .u8 0, .int .u8 0, .int .u8 0, .int .u8 0, .int .u8 0, .int .u8 0, .int .u8 0, .int .u8 0, .int .u8 0, .int .u8 0, .int .u8 0, .int .u8 0, .int .u8 0] 35)).alloc (.cells #[.int .u32 1732584193, .int .u32 4023233417, .int .u32 2562383102, .int .u32 271733878, .int .u32 3285377520] 43)) := HW0
  clear HW0 Z0
  go_enter Tryz.func37, Tryz.ntmps37
  go_wp2_with (go_at_call 64; rw [← HE.out]; (with_reducible refine PD.out.mono ?_); rintro e W1 ⟨g, cap, rfl, ho, hb1⟩)
  obtain ⟨m, hm⟩ : ∃ m, m = l ++ pad l.length := ⟨_, rfl⟩
  have hml : m.length = l.length + (pad l.length).length := by rw [hm, List.length_append]
  have hmb : Bys m := by rw [hm]; exact bys_app hby (pad_bys _)
  have hm64 : m.length % 64 = 0 := by rw [hml]; exact pad_mult l.length
  have hmn : m.length ≤ 1000100 := by rw [hml, pad_len]; have : zz l.length < 64 := Nat.mod_lt _ (by decide); omega
  have SV := Lib.hid (show hs m (m.length / 64) = sumV l by rw [hm, List.length_append, pad_len]; rfl)
  rw [← hm] at ho
  rw [← hml]
  have RM := Lib.hid (own_rdW ho)
  have hgb : W0.heap.size ≤ g ∧ g < W1.heap.size := World.ownsRow.lt ho g rfl
  have hcap : m.length ≤ cap := by obtain ⟨_, _, e, hc, _⟩ := own_rdW ho; cases e; exact hc
  have K0 := Lib.hid (kept G0.out hb1)
  have K1 := Lib.hid (kept G1.out hb1)
  have bw := btr B0 hb1
  have hW0s := HZ.out
  clear hm hml ho HE PD
  generalize hBe : w.heap.size + 1 = B at *
  go_loopw [5] (fun i W => SHd m B W1 i W) (fun i _ => m.length - (intOf i).toNat)
  case atStart => exact ⟨0, 0, rfl, by omega, rfl, K1.out, Keep.refl _ _⟩
  case round =>
    obtain ⟨k, c, hc, hk, rfl, hB, hkp⟩ := hrel
    by_cases hlt : c < m.length
    · have hc2 : c + 64 ≤ m.length := by omega
      have CE : ∀ j, j < 64 → wr.cell? ⟨g, c + j, none⟩ = some (.int .u8 (at0 m k j : Nat)) := by
        intro j hj
        obtain ⟨A2, cap2, e2, _, _, hrd⟩ := RM.out
        obtain ⟨b2, o2, hA2, hcell⟩ := hrd (fun e => by rw [e] at hlt; simp at hlt)
        cases e2
        cases hA2
        have := hcell (c + j) (by omega)
        rw [Nat.zero_add] at this
        rw [hkp.cell (p := ⟨g, c + j, none⟩) (by show g ≠ B; omega) this]
        have e : m.getD (64 * k + j) 0 = m[c + j]'(by omega) := by rw [← hc, List.getD_eq_getElem?_getD, List.getElem?_eq_getElem (by omega), Option.getD_some]
        unfold at0
        rw [e]
      have BK := Lib.hid (fun W (hW : ∀ j, j < 64 → W.cell? ⟨g, c + j, none⟩ = some (.int .u8 (at0 m k j : Nat))) => HB (hs m k) (at0 m k) W g c (cap - c) (hs_ok m k) (fun j hj => getD_lt hmb _) (by omega) hW)
      have HC : Hid (∀ j, j < 64 → wr.drew.cell? ⟨g, c + j, none⟩ = some (.int .u8 (at0 m k j : Nat))) := CE
      have HBk := Lib.hid hB
      have HK := Lib.hid (show hs m (k + 1) = mixV (hs m k) (at0 m k) from rfl)
      have e1 : IntKind.i64.wrap ((c : Int) + 64) = (c : Int) + 64 := IntWalk.i64_in _ (by omega)
      have n1 : ((c : Int) + 64).toNat = c + 64 := by omega
      have p1 : (0 : Int) ≤ (c : Int) + 64 := by omega
      have p2 : (c : Int) ≤ (c : Int) + 64 := by omega
      have p3 : (c : Int) + 64 ≤ (cap : Int) := by omega
      have p4 : (cap = c) = False := eq_false (by omega)
      have HCk := Lib.hid hc
      clear CE hB hc
      go_wp2
      refine tail_region 6 (by kernel_rfl) (by kernel_rfl) ?_
      simp only [List.take_succ_cons, List.take_zero, List.drop_succ_cons, List.drop_zero]
      refine wpStill_load rfl 43 (.tmp 3) rfl ⟨B, 0, none⟩ rfl _ (run_loadVar_row _ B 43 43 _ (0, 0) _ HBk.out Tryz.underlying43 rfl (szc sz5 _ _)) ?_
      repeat still_step
      refine wpStill_nil ?_
      clear e1 n1 p4
      go_wp2_with (first
        | (go_at_call 65; (with_reducible refine (BK.out wr.drew HC.out).mono ?_); rintro e w5 ⟨rfl, hb5⟩; have G5 := Lib.hid (kept HBk.out ((Below.refl _ wr).drew.trans hb5)))
        | (refine wpList_store_row rfl 43 (.tmp 3) (.tmp 23) rfl B _ rfl rfl _ _ G5.out (szc sz5 _ _) (by rw [cs_size, cs_size]) (cs_one _ _ _) ?_))
      go_roundw
      case rel =>
        refine ⟨k + 1, c + 64, by have := HCk.out; omega, by have := HCk.out; omega, by go_num, ?_, ?_⟩
        · rw [HK.out]; exact setRow_heap _ _ _ _ _ _ G5.out
        · exact (hkp.below ((Below.refl _ wr).drew.trans hb5)).setRow _
      case measure => simp [intOf]; omega
    · obtain ⟨s, hs1⟩ : ∃ s, s = sumV l := ⟨_, rfl⟩
      have hkm : k = m.length / 64 := by omega
      rw [hkm, SV.out, ← hs1] at hB
      have sok : s.Ok := by rw [hs1]; exact sumV_ok l
      have bwr : Below w.heap.size w wr := hkp.to_below bw (by omega) (by have := bw.size; omega)
      have Kz : Hid (wr.heap[w.heap.size]? = some (.cells z20 35)) := by
        show wr.heap[w.heap.size]? = _
        rw [hkp.block _ (Array.getElem?_eq_some_iff.1 K0.out).1 (by omega)]; exact K0.out
      have HBk := Lib.hid hB
      have hBl : B < wr.heap.size := (Array.getElem?_eq_some_iff.1 hB).1
      have hwl : w.heap.size < wr.heap.size := (Array.getElem?_eq_some_iff.1 Kz.out).1
      have HS1 := Lib.hid hs1
      clear hB hkm hc hs1
      obtain ⟨W2, rfl⟩ : ∃ W2, W2 = wr := ⟨_, rfl⟩
      go_wp2
      go_loopw [7] (fun i W => ∃ k : Nat, k ≤ 20 ∧ i = .int .i64 k ∧ W = W2.alloc (.cells (cs .u8 (upto (dig s) k) 20) 35)) (fun i _ => 20 - (intOf i).toNat)
      case atStart => exact ⟨0, by omega, rfl, by rw [upto_zero]; rfl⟩
      case round =>
        obtain ⟨k, hk, rfl, rfl⟩ := hrel
        by_cases hlt : k < 20
        · have c1 := row_cell HBk.out (k / 4) _ (cs_get .u32 s.at 5 (k / 4) (by omega))
          have c2 := cs_get .u8 (upto (dig s) k) 20 k hlt
          have hd : ((s.at (k / 4) : Nat) : Int) / 2 ^ (24 - 8 * (k % 4)) % 256 = (dig s k : Nat) := by rw [← dig24 s k, Int.natCast_emod, Int.natCast_ediv, Int.natCast_pow]; rfl
          have ST := Lib.hid (upto_set .u8 (dig s) k 20 (.int .u8 (dig s k : Nat)) rfl)
          have sl := at_lt sok (k / 4)
          generalize s.at (k / 4) = X at *
          go_wp2
          rw [ST.out]
          go_roundw
          case rel => exact ⟨k + 1, by omega, by go_num, rfl⟩
          case measure => simp [intOf]; omega
        · obtain rfl : k = 20 := by omega
          rw [upto_all]
          go_wp2_with (first
            | (refine wpList_load_row rfl 35 (.tmp 6) rfl W2.heap.size rfl _ _ _ _ (hp_new W2 _) Tryz.underlying35 rfl (szc sz20 _ _) ?_)
            | (refine wpList_store_row rfl 35 (.tmp 2) (.tmp 40) rfl w.heap.size _ rfl rfl _ _ (hp_old Kz.out _) (szc sz20 _ _) (by rw [cs_size]; rfl) (cs_one _ _ _) ?_))
          refine end_row rfl _ _ w.heap.size _ _ _ _ rfl (setRow_heap _ _ _ _ _ _ (hp_old Kz.out _)) Tryz.underlying35 (szc sz20 _ _) rfl ⟨by rw [HS1.out], ?_⟩
          exact bel_setRow (bal bwr _) (Nat.le_refl _) _
end Go.Proofs.YtldieebiicblbaaGreatDoor.ref06

/-
  The document's own text of what is hashed, and its digest, layer 10. Conditions: the slice reads as the rows of the lines, 1000000 bytes at most together; for the digest a text of at most 300000 bytes, and, as a premise, what the document's block of SHA-1 answers.
-/
namespace Go.Proofs.YtldieebiicblbaaGreatDoor.ref10
open Go.ChangeShapes Go.WideShapes Go.ChangeAt Go.RowKit
open lx ls mem
set_option linter.unusedVariables false
set_option maxRecDepth 100000

/-- what a line adds, of a kind. -/
def hF (k : Nat) (l : List UInt8) : List UInt8 := if k = 1 ∨ k = 2 ∨ k = 5 then hw k l else []
def hT (ls : List (List UInt8)) : Nat → List UInt8
  | 0 => []
  | k + 1 => hT ls k ++ ls.flatMap (hF k)
theorem hF_none {k : Nat} (h : ¬ (k = 1 ∨ k = 2 ∨ k = 5)) : ∀ ls : List (List UInt8), ls.flatMap (hF k) = []
  | [] => rfl
  | l :: r => by rw [List.flatMap_cons, hF_none h r]; unfold hF; rw [if_neg h]; rfl
theorem hF_some {k : Nat} (h : k = 1 ∨ k = 2 ∨ k = 5) (ls : List (List UInt8)) : ls.flatMap (hF k) = hs1 k ls := by
  have e : hF k = hw k := by funext l; unfold hF; rw [if_pos h]
  rw [e]; rfl
theorem hT_one (ls : List (List UInt8)) : hT ls 1 = [] := by rw [hT, hT, hF_none (by decide)]; rfl
theorem hT_six (ls : List (List UInt8)) : hT ls 6 = hsh ls := by
  rw [hT, hT, hT, hT, hT, hT_one, hF_some (by decide), hF_some (by decide), hF_none (by decide), hF_none (by decide), hF_some (by decide)]
  unfold hsh
  simp
theorem hF_len (k : Nat) : ∀ ls : List (List UInt8), (ls.flatMap (hF k)).length ≤ tot ls := fun ls => by
  by_cases h : k = 1 ∨ k = 2 ∨ k = 5
  · rw [hF_some h]; exact list.hs1_le k ls
  · rw [hF_none h]; simp
theorem hT_len (ls : List (List UInt8)) : ∀ k, (hT ls k).length ≤ k * tot ls
  | 0 => by simp [hT]
  | k + 1 => by
    have := hT_len ls k
    have := hF_len k ls
    rw [hT, List.length_append, Nat.add_mul]
    omega
theorem tot_take : ∀ (ls : List (List UInt8)) (k : Nat), tot (ls.take k) ≤ tot ls
  | [], k => by simp
  | l :: r, 0 => by simp [tot]
  | l :: r, k + 1 => by rw [List.take_succ_cons, tot, tot]; have := tot_take r k; omega
theorem take_D {ls : List (List UInt8)} {k : Nat} (h : k < ls.length) : ls.take (k + 1) = ls.take k ++ [ls.getD k []] := by
  rw [List.take_add_one, List.getElem?_eq_getElem h, List.getD_eq_getElem?_getD, List.getElem?_eq_getElem h]
  rfl
theorem hF_go {ls : List (List UInt8)} {i : Nat} (h : i < ls.length) (k : Nat) : (ls.take (i + 1)).flatMap (hF k) = (ls.take i).flatMap (hF k) ++ hF k (ls.getD i []) := by
  rw [take_D h, List.flatMap_append]
  simp
theorem hF_skip {k : Nat} {l : List UInt8} (h : ¬ ((k = 1 ∨ k = 2 ∨ k = 5) ∧ kd l = k ∧ ok l = true)) : hF k l = [] := by
  unfold hF
  by_cases g : k = 1 ∨ k = 2 ∨ k = 5
  · rw [if_pos g, hw_row k l g, if_neg (fun q => h ⟨g, q⟩)]
  · rw [if_neg g]
theorem hF_take {k : Nat} {l : List UInt8} (h : k = 1 ∨ k = 2 ∨ k = 5) (h1 : kd l = k) (h2 : ok l = true) : hF k l = (wo l).flatten := by
  unfold hF
  rw [if_pos h, hw_row k l h, if_pos ⟨h1, h2⟩]
theorem bapp (x y : List UInt8) : B x ++ B y = B (x ++ y) := by
  have e : (B x ++ B y).data = (B x).data ++ (B y).data := ByteArray.data_append
  apply ByteArray.ext
  rw [e]
  simp [B]
theorem wo_len (l : List UInt8) : (wo l).length ≤ 2 := by
  unfold wo
  split
  · simp
  · split
    · rename_i h
      unfold wk at h
      simp only [decide_eq_true_eq] at h
      rw [h.2]
      unfold cn
      split <;> omega
    · simp
theorem to_bytes (W : World) (X : ByteArray) : (convert 9 62 (.string X)).run Tryz.prog W = .ok (.slice (some ⟨W.heap.size, 0, none⟩) X.size (grownCap W X.size 0 5)) (Lib.bytesWorld W 5 X) :=
  Lib.run_convert_string_bytes W 9 62 5 X Tryz.underlying9 Tryz.underlying62 Tryz.underlying5
theorem to_rdw (W : World) (l : List UInt8) : sha.RdW (Lib.bytesWorld W 5 (B l)) (.slice (some ⟨W.heap.size, 0, none⟩) (B l).size (grownCap W (B l).size 0 5)) (sha.nats l) := by
  refine ⟨some ⟨W.heap.size, 0, none⟩, grownCap W (B l).size 0 5, by rw [sha.nats_len, B_size], ?_, (fun h => by cases h), fun _ => ⟨_, _, rfl, fun k hk => ?_⟩⟩
  · rw [sha.nats_len, ← B_size]
    exact grownCap_ge _ _ _ _
  · have hk' : k < l.length := by rw [sha.nats_len] at hk; exact hk
    have h : (Lib.bytesWorld W 5 (B l)).cell? ⟨W.heap.size, k, none⟩ = some (.int .u8 (bt (B l) k)) := Lib.bytesWorld_cell W 5 (B l) k (by rw [B_size]; exact hk')
    have e : (sha.nats l)[k] = bt (B l) k := by
      unfold bt
      rw [L_B]
      simp [sha.nats, List.getElem?_eq_getElem hk']
    rw [Nat.zero_add, h, e]
theorem below_bytes (W : World) (X : ByteArray) : Below W.heap.size W (Lib.bytesWorld W 5 X) := by
  refine ⟨rfl, rfl, rfl, ?_, fun j hj => Lib.bytesWorld_at_old W _ X j hj⟩
  have := Lib.bytesWorld_size W 5 X
  omega
def AHead (ls : List (List UInt8)) (w : World) (s k : Value) (W : World) : Prop := ∃ n : Nat, 1 ≤ n ∧ n ≤ 6 ∧ k = .int .i64 (n : Nat) ∧ s = .string (B (hT ls n)) ∧ Below w.heap.size w W
def BHead (ls : List (List UInt8)) (n : Nat) (w : World) (s i : Value) (W : World) : Prop := ∃ j : Nat, j ≤ ls.length ∧ i = .int .i64 (j : Nat) ∧ s = .string (B (hT ls n ++ (ls.take j).flatMap (hF n))) ∧ Below w.heap.size w W
def CHead (acc : List UInt8) (ws : List (List UInt8)) (w : World) (s q : Value) (W : World) : Prop := ∃ j : Nat, j ≤ ws.length ∧ q = .int .i64 (j : Nat) ∧ s = .string (B (acc ++ (ws.take j).flatten)) ∧ Below w.heap.size w W
theorem flat_take {ws : List (List UInt8)} {j : Nat} (h : j < ws.length) : (ws.take (j + 1)).flatten = (ws.take j).flatten ++ ws.getD j [] := by
  rw [take_D h, List.flatten_append]
  simp
set_option maxHeartbeats 8000000 in
theorem hashed_at (ls : List (List UInt8)) (A : Option Addr) (c : Nat) (w : World) (h : Rws w A ls) (hn : ls.length ≤ 1000000) (ht : tot ls ≤ 1000000) : Calls Tryz.prog 38 #[.slice A ls.length c] w fun e w' => e = .returned (.string (B (hsh ls))) ∧ Below w.heap.size w w' := by
  go_enter Tryz.func38, Tryz.ntmps38
  go_wp2
  go_loopw [3, 4] (fun s k W => AHead ls w s k W) (fun _ k _ => 6 - (intOf k).toNat)
  case atStart => exact ⟨1, by omega, by omega, rfl, by rw [hT_one]; rfl, Below.refl _ _⟩
  case round =>
    obtain ⟨n, h1, h6, rfl, rfl, hb⟩ := hrel
    by_cases hn6 : n ≤ 5
    · have t0 : decide ((n : Int) ≤ 5) = true := by simp; omega
      go_wp2
      go_loopw [3, 5] (fun s i W => BHead ls n w s i W) (fun _ i _ => ls.length - (intOf i).toNat)
      case atStart => exact ⟨0, Nat.zero_le _, rfl, by rw [List.take_zero]; simp, hb⟩
      case round =>
        obtain ⟨j, hj, rfl, rfl, hbj⟩ := hrel
        by_cases hlt : j < ls.length
        · obtain ⟨b, o, ps, rfl, hbl, hc⟩ := h.below hbj (fun e => by rw [e] at hlt; simp at hlt)
          obtain ⟨⟨x0, x1, x2, _, _⟩, hS⟩ := hc j hlt
          have hgo := hF_go hlt n
          by_cases hs : (n = 1 ∨ n = 2 ∨ n = 5) ∧ kd (ls.getD j []) = n ∧ ok (ls.getD j []) = true
          · obtain ⟨q1, q2, q3⟩ := hs
            have E := hF_take q1 q2 q3
            have HH := Lib.hid h
            have R : Hid (∀ W, Below w.heap.size w W → BHead ls n w (.string (B (hT ls n ++ (ls.take j).flatMap (hF n) ++ (wo (ls.getD j [])).flatten))) (.int .i64 ((j : Int) + 1)) W) := fun W hb => ⟨j + 1, hlt, rfl, by rw [hgo, E, List.append_assoc], hb⟩
            have ha : (hT ls n ++ (ls.take j).flatMap (hF n)).length ≤ 6 * tot ls := by
              have z1 := hT_len ls n
              have z2 := hF_len n (ls.take j)
              have z3 := tot_take ls j
              have z4 : n * tot ls ≤ 5 * tot ls := Nat.mul_le_mul_right _ hn6
              rw [List.length_append]
              omega
            have hwl : (wo (ls.getD j [])).flatten.length ≤ tot ls := by
              rw [← E]
              have z1 := hF_len n [ls.getD j []]
              simp only [List.flatMap_cons, List.flatMap_nil, List.append_nil] at z1
              have z2 : (ls.getD j []).length ≤ tot ls := by
                rw [List.getD_eq_getElem?_getD, List.getElem?_eq_getElem hlt]
                exact list.mem_tot (List.getElem_mem hlt)
              simp only [tot] at z1
              omega
            have t1 : ((kd (ls.getD j []) : Int) != (n : Int)) = false := by rw [q2]; simp
            have t3 : ((n : Int) == 3) = false := by rw [beq_eq_false_iff_ne]; omega
            have t4 : ((n : Int) == 4) = false := by rw [beq_eq_false_iff_ne]; omega
            rw [q3] at x1
            clear hc h hS hgo E q1 q2 q3
            generalize hT ls n ++ (ls.take j).flatMap (hF n) = acc at *
            generalize kd (ls.getD j []) = K at *
            generalize hY : ls.getD j [] = Y at *
            generalize hm : ls.length = m at *
            go_wp2_with fail
            go_loopw [3, 6] (fun s q W => CHead acc (wo Y) w s q W) (fun _ q _ => (wo Y).length - (intOf q).toNat)
            case atStart => exact ⟨0, Nat.zero_le _, rfl, by simp, hbj⟩
            case round =>
              clear x0 x1 x2
              obtain ⟨q, hq, rfl, rfl, hb3⟩ := hrel
              obtain ⟨b2, o2, ps2, e2, hbl2, hc2⟩ := HH.out.below hb3 (fun e => by rw [e] at hm; simp at hm; omega)
              cases e2
              obtain ⟨⟨_, _, y2, _, _⟩, hS2⟩ := hc2 j (by omega)
              rw [hY] at y2 hS2
              by_cases hq2 : q < (wo Y).length
              · obtain ⟨b4, o4, e4, hb4, hc4⟩ := strs_cell hS2 (by omega)
                have y4 := hc4 q hq2
                rw [e4] at y2
                have hz : ((wo Y).getD q []).length ≤ tot ls := by
                  have : (wo Y).getD q [] ∈ wo Y := by
                    rw [List.getD_eq_getElem?_getD, List.getElem?_eq_getElem hq2]
                    exact List.getElem_mem hq2
                  have := list.mem_tot this
                  rw [list.flat_tot] at hwl
                  omega
                have hz2 : ((wo Y).take q).flatten.length ≤ tot ls := by
                  have := tot_take (wo Y) q
                  rw [list.flat_tot] at hwl ⊢
                  omega
                have s1 := B_size (acc ++ ((wo Y).take q).flatten)
                have s2 := B_size ((wo Y).getD q [])
                rw [List.length_append] at s1
                have R3 : Hid (CHead acc (wo Y) w (.string (B (acc ++ ((wo Y).take q).flatten) ++ B ((wo Y).getD q []))) (.int .i64 ((q : Int) + 1)) wr) := ⟨q + 1, hq2, rfl, by rw [bapp, flat_take hq2, List.append_assoc], hb3⟩
                have hv2 := wo_len Y
                clear hc2 hS2 hc4 R HH
                generalize B (acc ++ ((wo Y).take q).flatten) = SS at *
                generalize B ((wo Y).getD q []) = ZZ at *
                generalize hv : (wo Y).length = v at *
                as_aux_lemma =>
                  go_wp2_with fail
                  exact ⟨R3.out, by simp [intOf]; omega⟩
              · obtain rfl : q = (wo Y).length := by omega
                have R4 : Hid (BHead ls n w (.string (B (acc ++ ((wo Y).take (wo Y).length).flatten))) (.int .i64 ((j : Int) + 1)) wr) := by
                  have := R.out wr hb3
                  rw [List.take_of_length_le (Nat.le_refl _)]
                  exact this
                clear hc2 hS2 R HH
                generalize B (acc ++ ((wo Y).take (wo Y).length).flatten) = SS at *
                generalize (wo Y).length = v at *
                as_aux_lemma =>
                  go_wp2_with fail
                  exact ⟨R4.out, by simp [intOf]; omega⟩
          · have R : Hid (BHead ls n w (.string (B (hT ls n ++ (ls.take j).flatMap (hF n)))) (.int .i64 ((j : Int) + 1)) wr) := ⟨j + 1, hlt, rfl, by rw [hgo, hF_skip hs, List.append_nil], hbj⟩
            have D : (kd (ls.getD j []) ≠ n) ∨ (kd (ls.getD j []) = n ∧ ok (ls.getD j []) = false) ∨ (kd (ls.getD j []) = n ∧ ok (ls.getD j []) = true ∧ n = 3) ∨ (kd (ls.getD j []) = n ∧ ok (ls.getD j []) = true ∧ n = 4) := by
              by_cases a : kd (ls.getD j []) = n
              · cases b : ok (ls.getD j [])
                · exact .inr (.inl ⟨a, rfl⟩)
                · refine .inr (.inr ?_)
                  have : ¬ (n = 1 ∨ n = 2 ∨ n = 5) := fun q => hs ⟨q, a, b⟩
                  rcases (show n = 3 ∨ n = 4 by omega) with q | q
                  · exact .inl ⟨a, rfl, q⟩
                  · exact .inr ⟨a, rfl, q⟩
              · exact .inl a
            clear hc h hS hgo hs
            generalize kd (ls.getD j []) = K at *
            generalize ok (ls.getD j []) = O at *
            generalize B (hT ls n ++ (ls.take j).flatMap (hF n)) = SS at *
            generalize hm : ls.length = m at *
            rcases D with d | ⟨rfl, rfl⟩ | ⟨rfl, rfl, rfl⟩ | ⟨rfl, rfl, rfl⟩
            · have t1 : ((K : Int) != (n : Int)) = true := by simp; omega
              as_aux_lemma =>
                go_wp2_with fail
                exact ⟨R.out, by simp [intOf]; omega⟩
            · have t1 : ((K : Int) != (K : Int)) = false := by simp
              as_aux_lemma =>
                go_wp2_with fail
                exact ⟨R.out, by simp [intOf]; omega⟩
            · as_aux_lemma =>
                go_wp2_with fail
                exact ⟨R.out, by simp [intOf]; omega⟩
            · as_aux_lemma =>
                go_wp2_with fail
                exact ⟨R.out, by simp [intOf]; omega⟩
        · obtain rfl : j = ls.length := by omega
          have R : Hid (AHead ls w (.string (B (hT ls n ++ (ls.take ls.length).flatMap (hF n)))) (.int .i64 ((n : Int) + 1)) wr) := ⟨n + 1, by omega, by omega, rfl, by rw [List.take_of_length_le (Nat.le_refl _)]; rfl, hbj⟩
          clear h
          generalize B (hT ls n ++ (ls.take ls.length).flatMap (hF n)) = SS at *
          go_wp2_with fail
          go_roundw
          case rel => exact R.out
          case measure => simp [intOf]; omega
    · obtain rfl : n = 6 := by omega
      have R : Hid (hT ls 6 = hsh ls) := hT_six ls
      clear h
      generalize ls.length = m at *
      go_wp2_with fail
      go_ret
      exact ⟨by rw [R.out]; rfl, hb⟩
set_option maxHeartbeats 4000000 in
theorem hash_at (HB : ref06.BlockOk) (s : ByteArray) (w : World) (hs : s.size ≤ 300000) : Calls Tryz.prog 12 #[.string s] w fun e w' => e = .returned (.agg (sx.cs .u8 (sx.dig (sx.sumV (sha.nats (hsh ((splitS s).map L))))) 20)) ∧ Below w.heap.size w w' := by
  have RO := Lib.hid (fun W => rows_at s W hs)
  unfold RowsTold at RO
  have hn : ((splitS s).map L).length ≤ 1000000 := by rw [List.length_map]; have := list.lines_len s; omega
  have ht : tot ((splitS s).map L) ≤ 1000000 := by
    have := list.spl_tot (L s) []
    unfold splitS
    rw [List.map_map, show (L ∘ B) = id by funext x; exact L_B x, List.map_id]
    rw [L_len] at this
    simp at this
    omega
  have HS : Hid (∀ W A c, Rws W A ((splitS s).map L) → Calls Tryz.prog 38 #[.slice A ((splitS s).map L).length c] W fun e w' => e = .returned (.string (B (hsh ((splitS s).map L)))) ∧ Below W.heap.size W w') := fun W A c h => hashed_at _ A c W h hn ht
  have ht' : tot ((splitS s).map L) ≤ 300000 := by
    have := list.spl_tot (L s) []
    unfold splitS
    rw [List.map_map, show (L ∘ B) = id by funext x; exact L_B x, List.map_id]
    rw [L_len] at this
    simp at this
    omega
  have hl := list.hsh_le ((splitS s).map L)
  have SU : Hid (∀ W v, sha.RdW W v (sha.nats (hsh ((splitS s).map L))) → Calls Tryz.prog 37 #[v] W fun e w' => e = .returned (.agg (sx.cs .u8 (sx.dig (sx.sumV (sha.nats (hsh ((splitS s).map L))))) 20)) ∧ Below W.heap.size W w') := fun W v h => ref06.sum_any HB _ v W h (list.bys_nats _) (by rw [sha.nats_len]; omega)
  clear hn ht ht' hl
  have hD1 := sx.cs_size .u8 (sx.dig (sx.sumV (sha.nats (hsh ((splitS s).map L))))) 20
  have hD2 := sx.cs_one .u8 (sx.dig (sx.sumV (sha.nats (hsh ((splitS s).map L))))) 20
  generalize hsh ((splitS s).map L) = H at *
  generalize (splitS s).map L = ls at *
  have TB := fun W => to_bytes W (B H)
  have TR := fun W => to_rdw W H
  generalize sx.cs .u8 (sx.dig (sx.sumV (sha.nats H))) 20 = DG at *
  have HD := Lib.hid (And.intro hD1 hD2)
  clear hD1 hD2
  have k0 : (w.alloc (.cells sha.z20 35)).heap[w.heap.size]? = some (.cells sha.z20 35) := hp_new _ _
  have K0 := Lib.hid k0
  clear k0
  go_enter Tryz.func12, Tryz.ntmps12
  go_wp2_with (first
    | (go_at_call 18; (with_reducible refine (RO.out _).mono ?_); rintro e w1 ⟨A, c, rfl, hR, hb1⟩; have hB := btr (bal (Below.refl w.heap.size w) _) hb1; have K1 := Lib.hid (kept (hp_new w _) hb1))
    | (go_at_call 38; (with_reducible refine (HS.out _ _ _ hR).mono ?_); rintro e w2 ⟨rfl, hb2⟩; have hB := btr hB hb2; have K1 := Lib.hid (kept K1.out hb2); have BW := Lib.hid (below_bytes w2 (B H)))
    | (go_at_call 37; (with_reducible refine (SU.out _ _ (TR w2)).mono ?_); rintro e w3 ⟨rfl, hb3⟩; have hB := btr (btr hB BW.out) hb3; have K1 := Lib.hid (kept (kept K1.out BW.out) hb3))
    | ((with_reducible refine wpList_store_row ?_ 35 (.tmp 2) (.tmp 7) ?_ w.heap.size DG ?_ ?_ 35 sha.z20 ?_ ?_ ?_ ?_ ?_); (next => rfl); (next => rfl); (next => rfl); (next => rfl); (next => exact K1.out); (next => rw [HD.out.1]; exact sha.sz20); (next => rw [HD.out.1]; rfl); (next => exact HD.out.2)))
  refine sha.end_row rfl _ _ w.heap.size _ _ _ _ rfl (setRow_heap _ _ _ _ _ _ K1.out) Tryz.underlying35 (by rw [HD.out.1]; exact sha.sz20) rfl ⟨rfl, bel_setRow hB (Nat.le_refl _) _⟩
end Go.Proofs.YtldieebiicblbaaGreatDoor.ref10

/-
  What the document's own Sub and Div of layer 1 answer, for seats that have no more of them. Conditions: the numbers are of 64 bits.
-/
namespace Go.Proofs.YtldieebiicblbaaGreatDoor.ref01
open Go.ChangeShapes Go.WideShapes Go.ChangeAt Go.RowKit
open mem
set_option linter.unusedVariables false
set_option maxRecDepth 100000

def fit (x : Int) : Prop := -9223372036854775808 ≤ x ∧ x ≤ 9223372036854775807
theorem tdiv_neg' (a b : Int) (ha : a < 0) (hb : 1 ≤ b) (h : a % b = 0) : a.tdiv b = a / b ∧ a.tmod b = 0 := by
  have hd : b ∣ a := Int.dvd_of_emod_eq_zero h
  obtain ⟨c, rfl⟩ := hd
  refine ⟨by rw [Int.mul_tdiv_cancel_left _ (by omega), Int.mul_ediv_cancel_left _ (by omega)], Int.mul_tmod_right _ _⟩
theorem tdiv_neg (a b : Int) (ha : a < 0) (hb : 1 ≤ b) (h : a % b ≠ 0) : a.tdiv b = a / b + 1 ∧ a.tmod b = a % b - b := by
  have hd : ¬ b ∣ a := fun hd => h (Int.emod_eq_zero_of_dvd hd)
  have h1 := Int.tdiv_eq_ediv (a := a) (b := b)
  have h2 := Int.tmod_eq_emod (a := a) (b := b)
  have hs : b.sign = 1 := Int.sign_eq_one_of_pos (by omega)
  have hn : ((b.natAbs : Nat) : Int) = b := by omega
  rw [if_neg (by rintro (h | h); omega; exact hd h)] at h1 h2
  exact ⟨by omega, by omega⟩
theorem div_yes (a b : Int) (w : World) (ha : fit a) (hb : fit b) (h : 1 ≤ b) :
    Calls Tryz.prog 46 #[.int .i64 a, .int .i64 b] w fun e w' => e = .returned (.tuple #[.int .i64 (a / b), .int .i64 (a % b), .bool true]) ∧ Below w.heap.size w w' := by
  have hb0 : b ≠ 0 := by omega
  have m1 := Int.emod_nonneg a hb0
  have m2 := Int.emod_lt_of_pos a (b := b) (by omega)
  unfold fit at ha hb
  obtain ⟨ha1, ha2⟩ := ha; obtain ⟨hb1, hb2⟩ := hb
  by_cases h0 : 0 ≤ a
  · go_enter Tryz.func46, Tryz.ntmps46
    go_wp2
    go_ret3
    exact ⟨rfl, Below.refl _ _⟩
  · have q1 : a / b < 0 := Int.ediv_neg_of_neg_of_pos (by omega) (by omega)
    have q2 : -9223372036854775808 ≤ a / b := by
      have := Int.mul_ediv_add_emod a b
      have h3 : -9223372036854775808 * b ≤ a := by omega
      exact Int.le_ediv_of_mul_le (by omega) h3
    by_cases hz : a % b = 0
    · obtain ⟨e1, e2⟩ := tdiv_neg' a b (by omega) h hz
      rw [hz]
      clear m1 m2 hz
      generalize a / b = Q at *
      go_enter Tryz.func46, Tryz.ntmps46
      go_wp2
      go_ret3
      exact ⟨rfl, Below.refl _ _⟩
    · obtain ⟨e1, e2⟩ := tdiv_neg a b (by omega) h hz
      generalize a / b = Q at *
      generalize a % b = R at *
      go_enter Tryz.func46, Tryz.ntmps46
      go_wp2
      go_ret3
      exact ⟨rfl, Below.refl _ _⟩
end Go.Proofs.YtldieebiicblbaaGreatDoor.ref01
