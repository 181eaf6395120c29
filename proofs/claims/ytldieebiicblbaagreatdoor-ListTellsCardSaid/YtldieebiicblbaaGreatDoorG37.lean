/-
  What the document's own block answers: the five words behind a block. Condition: the words are words, the slice reads as 64 bytes.
-/
import Derived.Test.YtldieebiicblbaaGreatDoorG12
import Derived.Test.YtldieebiicblbaaGreatDoorG30
import Derived.Test.YtldieebiicblbaaGreatDoorG36
namespace Go.Proofs.YtldieebiicblbaaGreatDoor.ref06
open Go.ChangeShapes Go.WideShapes Go.ChangeAt Go.RowKit
open sx sha
set_option linter.unusedVariables false
set_option maxRecDepth 100000

/-! words in a row of the call's own -/
theorem infoW : (Tryz.prog.info? 42).map (fun i => (i.zero, i.size, i.bytes)) = some (some (.int .u32 0), 1, 4) := by kernel_rfl
def wc (g : Nat → Nat) (k : Nat) : List Value := (List.range k).map fun j => .int .u32 (g j : Nat)
theorem wc_len (g : Nat → Nat) (k : Nat) : (wc g k).length = k := by simp [wc]
theorem wc_one (g : Nat → Nat) (k : Nat) : ∀ u ∈ wc g k, u.oneCell' = true := by
  intro u hu
  obtain ⟨x, _, rfl⟩ := List.mem_map.1 hu
  rfl
def OwnW (base : Nat) (W : World) (v : Value) (g : Nat → Nat) (k : Nat) : Prop := W.ownsRow base 42 1 v k (wc g k)
theorem app_word {ops : Array Oper} {rest : List Oper} {o : Oper} {a : Act} {Q : Exit → Act → World → Prop} (hgd : o.guard = none) (s x : Operand)
    (ho : o.op = .call { callee := .builtin .append, args := #[s, x], argTypes := #[126, 126] }) (base : Nat) (W : World) (v : Value) (g : Nat → Nat) (k : Nat) (z : Int) (hz : z = (g k : Nat))
    (hs : a.eval s = v) (hx : a.eval x = .slice (some ⟨W.heap.size, 0, none⟩) 1 1) (hown : OwnW base W v g k) (hn : k < 1000) (hbase : base ≤ W.heap.size)
    (h : ∀ G cap w', OwnW base w' (.slice (some ⟨G, 0, none⟩) (k + 1) cap) g (k + 1) → W.grownBy w' v.ownBlock → wpList Tryz.prog ops Q rest (a.put o.dst (.slice (some ⟨G, 0, none⟩) (k + 1) cap)) w') :
    wpList Tryz.prog ops Q (o :: rest) a (W.alloc (.cells #[.int .u32 z] 42)) := by
  subst hz
  obtain ⟨i0, hi, hz0, hz1, hz2⟩ := info_parts infoW
  refine wpList_append_own _ hgd s x 126 ho base 42 i0 _ 1 4 Tryz.underlying126 hi hz0 hz1 hz2 rfl (by decide) v k (wc g k) hs (World.ownsRow.alloc hown _) ⟨W.heap.size, 0, none⟩ 1 1 [.int .u32 (g k : Nat)] hx rfl (cell_one_new _ _ _) (fun u hu => by simp at hu; subst hu; rfl) ?_ (by omega) (by simp; omega) ?_
  · unfold maxLen; omega
  · intro v' w' h1 h2 _
    have e : wc g (k + 1) = wc g k ++ [.int .u32 (g k : Nat)] := by unfold wc; rw [List.range_succ]; simp
    have h1' : OwnW base w' v' g (k + 1) := by unfold OwnW; rw [e]; exact h1
    obtain ⟨G, cap, rfl⟩ : ∃ G cap, v' = .slice (some ⟨G, 0, none⟩) (k + 1) cap := by
      rcases h1'.2 with ⟨_, q⟩ | ⟨G, cap, cur, q, _⟩
      · omega
      · exact ⟨G, cap, q⟩
    exact h G cap w' h1' ((World.grownBy_alloc W _ _).trans h2)
theorem ownW_below {base : Nat} {w W W' : World} {v : Value} {g : Nat → Nat} {k : Nat} (ho : OwnW base W v g k) (hb : Below base w W) (hbs : base ≤ W.heap.size) (hg : W.grownBy W' v.ownBlock) : Below base w W' :=
  hb.grown hg hbs (fun k hk => (World.ownsRow.lt ho k hk).1)
theorem or_four (x0 x1 x2 x3 : Nat) (h0 : x0 < 256) (h1 : x1 < 256) (h2 : x2 < 256) (h3 : x3 < 256) :
    bits .or .u32 (bits .or .u32 (bits .or .u32 (IntKind.u32.wrap (IntKind.u32.wrap (x0 : Int) * 16777216)) (IntKind.u32.wrap (IntKind.u32.wrap (x1 : Int) * 65536))) (IntKind.u32.wrap (IntKind.u32.wrap (x2 : Int) * 256))) (IntKind.u32.wrap (x3 : Int)) = (((((0 * 256 + x0) * 256 + x1) * 256 + x2) * 256 + x3 : Nat) : Int) := by
  simp only [IntKind.wrap_u32']
  rw [show (x0 : Int) % 4294967296 * 16777216 % 4294967296 = ((2 ^ 24 * x0 : Nat) : Int) by omega, show (x1 : Int) % 4294967296 * 65536 % 4294967296 = ((65536 * x1 : Nat) : Int) by omega, show (x2 : Int) % 4294967296 * 256 % 4294967296 = ((256 * x2 : Nat) : Int) by omega, show (x3 : Int) % 4294967296 = ((x3 : Nat) : Int) by omega]
  rw [u32_or_nat _ _ (by omega) (by omega), ← Nat.two_pow_add_eq_or_of_lt (by omega)]
  rw [show 2 ^ 24 * x0 + 65536 * x1 = 2 ^ 16 * (256 * x0 + x1) by omega, u32_or_nat _ _ (by omega) (by omega), ← Nat.two_pow_add_eq_or_of_lt (by omega)]
  rw [show 2 ^ 16 * (256 * x0 + x1) + 256 * x2 = 2 ^ 8 * (65536 * x0 + 256 * x1 + x2) by omega, u32_or_nat _ _ (by omega) (by omega), ← Nat.two_pow_add_eq_or_of_lt (by omega)]
  omega
theorem drewN_drewN (W : World) (n k : Nat) : (W.drewN n).drewN k = W.drewN (n + k) := by unfold World.drewN; simp [Nat.add_assoc]
theorem turn_q (x n : Nat) (hx : x < 4294967296) (h1 : 1 ≤ n) (h2 : n ≤ 31) (W : World) (m : Nat) : Calls Tryz.prog 90 #[.int .u32 (x : Nat), .int .i64 (n : Nat)] (W.drewN m) fun e w' => e = .returned (.int .u32 (rot x n : Nat)) ∧ ∃ j, w' = W.drewN j :=
  (turn_any x n (W.drewN m) hx h1 h2).mono fun e w' ⟨he, k, hw⟩ => ⟨he, m + k, by rw [hw, drewN_drewN]⟩
theorem mix_q (i b c d : Nat) (hi : i < 80) (hb : b < 4294967296) (hc : c < 4294967296) (hd : d < 4294967296) (W : World) (m : Nat) :
    Calls Tryz.prog 91 #[.int .i64 (i : Nat), .int .u32 (b : Nat), .int .u32 (c : Nat), .int .u32 (d : Nat)] (W.drewN m) fun e w' => e = .returned (.int .u32 ((ff i b c d + kk i) % 4294967296 : Nat)) ∧ ∃ j, w' = W.drewN j :=
  (mix_any i b c d (W.drewN m) hi hb hc hd).mono fun e w' ⟨he, hw⟩ => ⟨he, m, hw.symm⟩
theorem ownW_cell {base : Nat} {W : World} {G k cap : Nat} {g : Nat → Nat} (h : OwnW base W (.slice (some ⟨G, 0, none⟩) k cap) g k) (j : Nat) (hj : j < k) : W.cell? ⟨G, j, none⟩ = some (.int .u32 (g j : Nat)) := by
  rw [World.ownsRow.cellAt h j (by omega)]; simp [wc, hj]
def CHead (f : Nat → Nat) (W0 : World) (t i : Value) (W : World) : Prop :=
  ∃ k G cap, 16 ≤ k ∧ k ≤ 80 ∧ t = .slice (some ⟨G, 0, none⟩) k cap ∧ i = .int .i64 (k : Nat) ∧ OwnW W0.heap.size W (.slice (some ⟨G, 0, none⟩) k cap) (wd f) k ∧ Below W0.heap.size W0 W
theorem set_lastN (W : World) (c c' : Array Value) (t : TypeId) (n : Nat) : ((W.alloc (.cells c t)).drewN n).setRow W.heap.size c' = (W.alloc (.cells c' t)).drewN n := congrArg (fun x => World.drewN x n) (World.setRow_alloc_new W c c' t)
def DHead (f : Nat → Nat) (h : V5) (W2 : World) (i : Value) (W : World) : Prop :=
  ∃ k n, k ≤ 80 ∧ i = .int .i64 (k : Nat) ∧ W = (W2.alloc (.cells (cs .u32 (stps (wd f) h k).at 5) 43)).drewN n
/-- words added as far as place k. -/
def addTo (h s : V5) (k j : Nat) : Nat := if j < k then add32 (s.at j) (h.at j) else s.at j
def EHead (h s : V5) (W2 : World) (i : Value) (W : World) : Prop :=
  ∃ k n, k ≤ 5 ∧ i = .int .i64 (k : Nat) ∧ W = (W2.alloc (.cells (cs .u32 (addTo h s k) 5) 43)).drewN n
theorem addTo_set (h s : V5) (k : Nat) : (cs .u32 (addTo h s k) 5).setIfInBounds k (.int .u32 (((s.at k : Int) + (h.at k : Int)) % 4294967296)) = cs .u32 (addTo h s (k + 1)) 5 :=
  cs_set _ _ _ _ _ _ (by unfold addTo; rw [if_pos (Nat.lt_succ_self _), add32_int]) (fun j _ hj => by unfold addTo; by_cases hh : j < k; (rw [if_pos hh, if_pos (by omega)]); (rw [if_neg hh, if_neg (by omega)]))
theorem addTo_all (h s : V5) : cs .u32 (addTo h s 5) 5 = cs .u32 (fin h s).at 5 := by
  apply cs_congr
  intro j hj
  unfold addTo
  rw [if_pos hj]
  rcases (show j = 0 ∨ j = 1 ∨ j = 2 ∨ j = 3 ∨ j = 4 by omega) with rfl | rfl | rfl | rfl | rfl <;> (show add32 _ _ = add32 _ _; unfold add32; rw [Nat.add_comm]; rfl)
theorem built5 (v0 v1 v2 v3 v4 : Nat) : Tryz.prog.built 43 [(0, .int .u32 (v0 : Nat)), (1, .int .u32 (v1 : Nat)), (2, .int .u32 (v2 : Nat)), (3, .int .u32 (v3 : Nat)), (4, .int .u32 (v4 : Nat))] = some (cs .u32 (V5.mk v0 v1 v2 v3 v4).at 5) := by kernel_rfl
/-- [5]uint32{..} out of five slots. -/
theorem build5 (v0 v1 v2 v3 v4 : Nat) {ops : Array Oper} {rest : List Oper} {o : Oper} {a : Act} {w : World} {Q : Exit → Act → World → Prop} (hgd : o.guard = none) (ho : o.op = .build 43 #[(0, .tmp 108), (1, .tmp 110), (2, .tmp 113), (3, .tmp 115), (4, .tmp 117)])
    (h0 : a.eval (.tmp 108) = .int .u32 (v0 : Nat)) (h1 : a.eval (.tmp 110) = .int .u32 (v1 : Nat)) (h2 : a.eval (.tmp 113) = .int .u32 (v2 : Nat)) (h3 : a.eval (.tmp 115) = .int .u32 (v3 : Nat)) (h4 : a.eval (.tmp 117) = .int .u32 (v4 : Nat))
    (h : wpList Tryz.prog ops Q rest (a.put o.dst (.agg (cs .u32 (V5.mk v0 v1 v2 v3 v4).at 5))) w) : wpList Tryz.prog ops Q (o :: rest) a w := by
  have e : Tryz.prog.built 43 ((#[((0 : Nat), Operand.tmp 108), (1, .tmp 110), (2, .tmp 113), (3, .tmp 115), (4, .tmp 117)]).map fun (i, x) => (i, a.eval x)).toList = some (cs .u32 (V5.mk v0 v1 v2 v3 v4).at 5) := by
    have e1 : ((#[((0 : Nat), Operand.tmp 108), (1, .tmp 110), (2, .tmp 113), (3, .tmp 115), (4, .tmp 117)]).map fun (i, x) => (i, a.eval x)).toList = [(0, a.eval (.tmp 108)), (1, a.eval (.tmp 110)), (2, a.eval (.tmp 113)), (3, a.eval (.tmp 115)), (4, a.eval (.tmp 117))] := by simp
    rw [e1, h0, h1, h2, h3, h4]; exact built5 v0 v1 v2 v3 v4
  refine wpList_build hgd 43 _ ho (by rw [e]; rfl) ?_
  rw [e]
  exact h
def BHead (f : Nat → Nat) (W0 : World) (t i : Value) (W : World) : Prop :=
  ∃ k vv, k ≤ 16 ∧ vv = t ∧ i = .int .i64 (k : Nat) ∧ OwnW W0.heap.size W vv (wd f) k ∧ Below W0.heap.size W0 W
set_option maxHeartbeats 40000000 in
set_option maxRecDepth 100000 in
theorem block_any (h : V5) (f : Nat → Nat) (w : World) (b o cap : Nat) (hh : h.Ok) (hf : Byt f 64) (hcap : 64 ≤ cap) (hc : ∀ j, j < 64 → w.cell? ⟨b, o + j, none⟩ = some (.int .u8 (f j : Nat))) :
    Calls Tryz.prog 65 #[.agg (cs .u32 h.at 5), .slice (some ⟨b, o, none⟩) 64 cap] w fun e w' => e = .returned (.agg (cs .u32 (mixV h f).at 5)) ∧ Below w.heap.size w w' := by
  have hbl : b < w.heap.size := World.block_lt_of_cell? w ⟨b, o + 0, none⟩ (hc 0 (by omega))
  have HC := Lib.hid hc
  clear hc
  go_enter Tryz.func65, Tryz.ntmps65
  go_wp2
  obtain ⟨W0, HW0⟩ : ∃ W0, W0 = (w.alloc (.cells (cs .u32 h.at 5) 43)).alloc (.cells z5 43) := ⟨_, rfl⟩
  unfold z5 at HW0
  rw [← HW0]
  have B0 : Below w.heap.size w W0 := by rw [HW0]; exact bal (bal (Below.refl _ _) _) _
  have G0 := Lib.hid (show W0.heap[w.heap.size]? = some (.cells (cs .u32 h.at 5) 43) by rw [HW0]; exact hp_old (hp_new w _) _)
  have G1 := Lib.hid (show W0.heap[w.heap.size + 1]? = some (.cells z5 43) by rw [HW0]; exact hp_new1 w _ _)
  clear HW0
  go_loopw [5, 6] (fun t i W => BHead f W0 t i W) (fun _ i _ => 16 - (intOf i).toNat)
  case atStart => exact ⟨0, _, by omega, rfl, rfl, ⟨rfl, Or.inl ⟨rfl, rfl⟩⟩, Below.refl _ _⟩
  case round =>
    obtain ⟨k, vv, hk, rfl, rfl, ho, hb⟩ := hrel
    have HO := Lib.hid ho
    have hbs := hb.size
    have bw := btr B0 hb
    clear ho
    by_cases hlt : k < 16
    · as_aux_lemma =>
        have C := fun j hj => (bw.cell (p := ⟨b, o + j, none⟩) hbl).trans (HC.out j hj)
        have c0 := C (4 * k) (by omega)
        have c1 := C (4 * k + 1) (by omega)
        have c2 := C (4 * k + 2) (by omega)
        have c3 := C (4 * k + 3) (by omega)
        have b0 := hf (4 * k) (by omega)
        have b1 := hf (4 * k + 1) (by omega)
        have b2 := hf (4 * k + 2) (by omega)
        have b3 := hf (4 * k + 3) (by omega)
        clear C
        have e0 : IntKind.i64.wrap (4 * (k : Int)) = 4 * (k : Int) := IntWalk.i64_in _ (by omega)
        have e1 : IntKind.i64.wrap (4 * (k : Int) + 1) = 4 * (k : Int) + 1 := IntWalk.i64_in _ (by omega)
        have e2 : IntKind.i64.wrap (4 * (k : Int) + 2) = 4 * (k : Int) + 2 := IntWalk.i64_in _ (by omega)
        have e3 : IntKind.i64.wrap (4 * (k : Int) + 3) = 4 * (k : Int) + 3 := IntWalk.i64_in _ (by omega)
        have n0 : (4 * (k : Int)).toNat = 4 * k := by omega
        have n1 : (4 * (k : Int) + 1).toNat = 4 * k + 1 := by omega
        have n2 : (4 * (k : Int) + 2).toNat = 4 * k + 2 := by omega
        have n3 : (4 * (k : Int) + 3).toNat = 4 * k + 3 := by omega
        have p0 : (0 : Int) ≤ 4 * (k : Int) := by omega
        have p1 : (0 : Int) ≤ 4 * (k : Int) + 1 := by omega
        have p2 : (0 : Int) ≤ 4 * (k : Int) + 2 := by omega
        have p3 : (0 : Int) ≤ 4 * (k : Int) + 3 := by omega
        have q0 : 4 * (k : Int) < 64 := by omega
        have q1 : 4 * (k : Int) + 1 < 64 := by omega
        have q2 : 4 * (k : Int) + 2 < 64 := by omega
        have q3 : 4 * (k : Int) + 3 < 64 := by omega
        have OR := or_four _ _ _ _ b0 b1 b2 b3
        have WK : Hid (((((0 * 256 + f (4 * k)) * 256 + f (4 * k + 1)) * 256 + f (4 * k + 2)) * 256 + f (4 * k + 3) : Nat) = wd f k) := by show _ = _; rw [wd_small f k hlt]; rfl
        rw [WK.out] at OR
        clear WK
        generalize f (4 * k) = x0 at *
        generalize f (4 * k + 1) = x1 at *
        generalize f (4 * k + 2) = x2 at *
        generalize f (4 * k + 3) = x3 at *
        go_wp2
        refine wp_region_any (by kernel_rfl) ?_
        change wpAny _ _ _ _ _ _ _ wr.drew
        refine wpAny_take (i := 0) (v := vv) rfl (by kernel_rfl) (by kernel_rfl) (by kernel_rfl) (fun _ _ _ h => h) (Or.inl ⟨by rfl, by (intro w; go_simp; try with_reducible rfl)⟩) ?_
        simp only [List.getElem_toArray, List.getElem_cons_zero]
        refine ht.quiet_tail (C := fun w' => ∃ n, w' = wr.drewN n) 34 (of_decide_eq_true (by kernel_rfl)) rfl (by kernel_rfl) (by kernel_rfl) (by decide) (by kernel_rfl) (by kernel_rfl) (by kernel_rfl) (by kernel_rfl) (by kernel_rfl) (by kernel_rfl) ⟨1, rfl⟩ ?_
        simp only [List.take_succ_cons, List.take_zero, List.drop_succ_cons, List.drop_zero]
        repeat quiet_step (fail)
        refine wpQuiet_nil ?_
        intro _ hw'
        obtain ⟨nq, hw''⟩ := hw'
        subst hw''
        have HOq : Hid (OwnW W0.heap.size (wr.drewN nq) vv (wd f) k) := HO.out
        go_wp2_with (at_builtin; refine app_word rfl _ _ rfl W0.heap.size (wr.drewN nq) vv (wd f) k _ rfl rfl rfl HOq.out (by omega) hbs ?_; intro G cap' w2 ho' hg)
        go_roundw
        case rel => exact ⟨k + 1, _, by omega, rfl, by go_num, ho', ownW_below HOq.out (bel_drewN hb _) hbs hg⟩
        case measure => simp [intOf]; omega
    · obtain rfl : k = 16 := by omega
      obtain ⟨G, cap1, rfl⟩ : ∃ G cap1, vv = .slice (some ⟨G, 0, none⟩) 16 cap1 := by
        rcases HO.out.2 with ⟨_, q⟩ | ⟨G, cap1, cur, q, _⟩
        · omega
        · exact ⟨G, cap1, q⟩
      rw [show ((16 : Nat) : Int) = 16 from rfl]
      go_wp2
      go_loopw [5, 7] (fun t i W => CHead f W0 t i W) (fun _ i _ => 80 - (intOf i).toNat)
      case atStart => exact ⟨16, G, cap1, by omega, by omega, rfl, rfl, HO.out, hb⟩
      case round =>
        clear HO hb hbs bw
        obtain ⟨k, G, cap1, hk1, hk2, rfl, rfl, ho, hb⟩ := hrel
        have HO := Lib.hid ho
        have hbs := hb.size
        by_cases hlt : k < 80
        · as_aux_lemma =>
            have c1 := ownW_cell ho (k - 3) (by omega)
            have c2 := ownW_cell ho (k - 8) (by omega)
            have c3 := ownW_cell ho (k - 14) (by omega)
            have c4 := ownW_cell ho (k - 16) (by omega)
            have l1 := wd_lt f hf (k - 3)
            have l2 := wd_lt f hf (k - 8)
            have l3 := wd_lt f hf (k - 14)
            have l4 := wd_lt f hf (k - 16)
            have hx := xor4 _ _ _ _ l1 l2 l3 l4
            have R := Lib.hid (fun W m => turn_q _ 1 (xor32 (xor32 (xor32 l1 l2) l3) l4) (by decide) (by decide) W m)
            rw [← wd_great f k hk1] at R
            clear ho
            have q3a : IntKind.i64.wrap ((k : Int) - 3) = (k : Int) - 3 := IntWalk.i64_in _ (by omega)
            have q3b : (0 : Int) ≤ (k : Int) - 3 := by omega
            have q3c : (k : Int) - 3 < (k : Int) := by omega
            have q3d : (3 : Int) ≤ (k : Int) := by omega
            have q3e : (3 : Nat) ≤ k := by omega
            have q3f : ((k : Int) - 3).toNat = k - 3 := by omega
            have q8a : IntKind.i64.wrap ((k : Int) - 8) = (k : Int) - 8 := IntWalk.i64_in _ (by omega)
            have q8b : (0 : Int) ≤ (k : Int) - 8 := by omega
            have q8c : (k : Int) - 8 < (k : Int) := by omega
            have q8d : (8 : Int) ≤ (k : Int) := by omega
            have q8e : (8 : Nat) ≤ k := by omega
            have q8f : ((k : Int) - 8).toNat = k - 8 := by omega
            have q14a : IntKind.i64.wrap ((k : Int) - 14) = (k : Int) - 14 := IntWalk.i64_in _ (by omega)
            have q14b : (0 : Int) ≤ (k : Int) - 14 := by omega
            have q14c : (k : Int) - 14 < (k : Int) := by omega
            have q14d : (14 : Int) ≤ (k : Int) := by omega
            have q14e : (14 : Nat) ≤ k := by omega
            have q14f : ((k : Int) - 14).toNat = k - 14 := by omega
            have q16a : IntKind.i64.wrap ((k : Int) - 16) = (k : Int) - 16 := IntWalk.i64_in _ (by omega)
            have q16b : (0 : Int) ≤ (k : Int) - 16 := by omega
            have q16c : (k : Int) - 16 < (k : Int) := by omega
            have q16d : (16 : Int) ≤ (k : Int) := by omega
            have q16e : (16 : Nat) ≤ k := by omega
            have q16f : ((k : Int) - 16).toNat = k - 16 := by omega
            generalize wd f (k - 3) = X1 at *
            generalize wd f (k - 8) = X2 at *
            generalize wd f (k - 14) = X3 at *
            generalize wd f (k - 16) = X4 at *
            go_wp2
            refine wp_region_any (by kernel_rfl) ?_
            change wpAny _ _ _ _ _ _ _ wr.drew
            refine wpAny_take (i := 0) (v := .slice (some ⟨G, 0, none⟩) k cap1) rfl (by kernel_rfl) (by kernel_rfl) (by kernel_rfl) (fun _ _ _ h => h) (Or.inl ⟨by rfl, by (intro w; go_simp; try with_reducible rfl)⟩) ?_
            simp only [List.getElem_toArray, List.getElem_cons_zero]
            refine ht.quiet_tail (C := fun w' => ∃ n, w' = wr.drewN n) 25 (of_decide_eq_true (by kernel_rfl)) rfl (by kernel_rfl) (by kernel_rfl) (by decide) (by kernel_rfl) (by kernel_rfl) (by kernel_rfl) (by kernel_rfl) (by kernel_rfl) (by kernel_rfl) ⟨1, rfl⟩ ?_
            simp only [List.take_succ_cons, List.take_zero, List.drop_succ_cons, List.drop_zero]
            repeat quiet_step (fail)
            quiet_step ((go_at_call 90; exact R.out _ _))
            refine wpQuiet_nil ?_
            intro _ hw'
            obtain ⟨nq, hw''⟩ := hw'
            subst hw''
            have HOq : Hid (OwnW W0.heap.size (wr.drewN nq) (.slice (some ⟨G, 0, none⟩) k cap1) (wd f) k) := HO.out
            clear hx
            go_wp2_with (at_builtin; refine app_word rfl _ _ rfl W0.heap.size (wr.drewN nq) (.slice (some ⟨G, 0, none⟩) k cap1) (wd f) k _ rfl rfl rfl HOq.out (by omega) hbs ?_; intro G' cap' w2 ho' hg)
            go_roundw
            case rel => exact ⟨k + 1, G', cap', by omega, by omega, rfl, by go_num, ho', ownW_below HOq.out (bel_drewN hb _) hbs hg⟩
            case measure => simp [intOf]; omega
        · obtain rfl : k = 80 := by omega
          have bw := btr B0 hb
          have K0 := Lib.hid (kept G0.out hb)
          have K1 := Lib.hid (kept G1.out hb)
          have GW := Lib.hid (fun j hj => ownW_cell ho j hj)
          have hGl : G < wr.heap.size := World.block_lt_of_cell? wr ⟨G, 0, none⟩ (GW.out 0 (by omega))
          have hg0 : w.heap.size < wr.heap.size := (Array.getElem?_eq_some_iff.1 K0.out).1
          clear ho HO
          rw [show ((80 : Nat) : Int) = 80 from rfl]
          go_wp2_with (first
            | (refine wpList_load_row rfl 43 (.tmp 2) rfl w.heap.size rfl _ _ _ _ K0.out Tryz.underlying43 rfl (szc sz5 _ _) ?_)
            | (refine wpList_store_row rfl 43 (.tmp 8) (.tmp 83) rfl _ _ rfl rfl _ _ (hp_new _ _) (szc sz5 _ _) (by rw [cs_size]; rfl) (cs_one _ _ _) ?_; rw [World.setRow_alloc_new]))
          obtain ⟨W2, rfl⟩ : ∃ W2, W2 = wr := ⟨_, rfl⟩
          go_loopw [9] (fun i W => DHead f h W2 i W) (fun i _ => 80 - (intOf i).toNat)
          case atStart => exact ⟨0, 0, by omega, rfl, rfl⟩
          case round =>
            obtain ⟨k, n, hk, rfl, hW⟩ := hrel
            by_cases hlt : k < 80
            · as_aux_lemma =>
                obtain ⟨s, hs⟩ : ∃ s, s = stps (wd f) h k := ⟨_, rfl⟩
                have NX := Lib.hid (show stps (wd f) h (k + 1) = sx.step k (wd f k) (stps (wd f) h k) from rfl)
                have ok := stps_ok (wd f) hh k
                rw [← hs] at hW NX ok
                have s0 : wr.cell? ⟨W2.heap.size, 0, none⟩ = some (.int .u32 (s.a : Nat)) := by rw [hW]; exact row_cell (hp_new W2 _) 0 _ rfl
                have s1 : wr.cell? ⟨W2.heap.size, 1, none⟩ = some (.int .u32 (s.b : Nat)) := by rw [hW]; exact row_cell (hp_new W2 _) 1 _ rfl
                have s2 : wr.cell? ⟨W2.heap.size, 2, none⟩ = some (.int .u32 (s.c : Nat)) := by rw [hW]; exact row_cell (hp_new W2 _) 2 _ rfl
                have s3 : wr.cell? ⟨W2.heap.size, 3, none⟩ = some (.int .u32 (s.d : Nat)) := by rw [hW]; exact row_cell (hp_new W2 _) 3 _ rfl
                have s4 : wr.cell? ⟨W2.heap.size, 4, none⟩ = some (.int .u32 (s.e : Nat)) := by rw [hW]; exact row_cell (hp_new W2 _) 4 _ rfl
                have sw : wr.cell? ⟨G, k, none⟩ = some (.int .u32 (wd f k : Nat)) := by
                  rw [hW]
                  exact (Below.cell (bal (Below.refl W2.heap.size W2) _) (p := ⟨G, k, none⟩) hGl).trans (GW.out k hlt)
                have HW := Lib.hid hW
                have lw := wd_lt f hf k
                clear hW hs
                obtain ⟨la, lb, lc, ld, le⟩ := ok
                have R5 := Lib.hid (fun W m => turn_q s.a 5 la (by decide) (by decide) W m)
                have R30 := Lib.hid (fun W m => turn_q s.b 30 lb (by decide) (by decide) W m)
                have MX := Lib.hid (fun W m => mix_q k s.b s.c s.d hlt lb lc ld W m)
                have TT := Lib.hid (show tt k (wd f k) s = (rot s.a 5 + ff k s.b s.c s.d + s.e + kk k + wd f k) % 4294967296 from rfl)
                generalize ff k s.b s.c s.d = F at *
                generalize kk k = KK at *
                generalize rot s.a 5 = RA at *
                obtain ⟨X, hX⟩ : ∃ X, X = wd f k := ⟨_, rfl⟩
                rw [← hX] at sw lw TT NX
                clear hX
                go_wp2
                go_quiet (first | (go_at_call 90; exact R5.out _ _) | (go_at_call 91; exact MX.out _ _))
                rw [show ((((RA : Int) + ((F : Int) + (KK : Int)) + (s.e : Int)) % 4294967296 + (X : Int)) % 4294967296) = ((tt k X s : Nat) : Int) by rw [TT.out]; omega]
                obtain ⟨TV, hTV⟩ : ∃ TV, TV = tt k X s := ⟨_, rfl⟩
                rw [← hTV]
                have HT := Lib.hid hTV
                clear hTV
                obtain ⟨RB, hRB⟩ : ∃ RB, RB = rot s.b 30 := ⟨_, rfl⟩
                rw [← hRB] at R30
                have HRB := Lib.hid hRB
                clear hRB
                go_wp2
                refine ht.quiet_region (C := fun w' => ∃ n, w' = wr.drewN n) 10 (by kernel_rfl) (of_decide_eq_true (by kernel_rfl)) (by kernel_rfl) (by kernel_rfl) (by kernel_rfl) (by kernel_rfl) (by kernel_rfl) (by kernel_rfl) (by kernel_rfl) ⟨nq + 1, rfl⟩ ?_
                simp only [List.take_succ_cons, List.take_zero, List.drop_succ_cons, List.drop_zero]
                repeat quiet_step (first | fail | (go_at_call 90; exact R30.out _ _))
                refine wpQuiet_nil ?_
                intro _ hw'
                obtain ⟨nr, hw''⟩ := hw'
                subst hw''
                have HG : Hid ((wr.drewN nr).heap[W2.heap.size]? = some (.cells (cs .u32 s.at 5) 43)) := by
                  show wr.heap[W2.heap.size]? = _
                  rw [HW.out]; exact hp_new W2 _
                go_wp2_with (first | (refine build5 TV s.a RB s.c s.d rfl rfl rfl rfl rfl rfl rfl ?_) | refine wpList_store_row rfl 43 (.tmp 8) (.tmp 118) rfl W2.heap.size (cs .u32 (V5.mk TV s.a RB s.c s.d).at 5) rfl rfl _ _ HG.out (szc sz5 _ _) (by rw [cs_size, cs_size]) (cs_one _ _ _) ?_)
                go_roundw
                case rel =>
                  refine ⟨k + 1, n + nr, by omega, by go_num, ?_⟩
                  rw [HW.out, drewN_drewN, set_lastN, NX.out]
                  rw [show sx.step k X s = V5.mk TV s.a RB s.c s.d by rw [HT.out, HRB.out]; rfl]
                case measure => simp [intOf]; omega
            · obtain rfl : k = 80 := by omega
              obtain ⟨s, hs⟩ : ∃ s, s = stps (wd f) h 80 := ⟨_, rfl⟩
              have HF := Lib.hid (show mixV h f = fin h s by rw [hs]; exact mixV_fin h f)
              have sok : s.Ok := by rw [hs]; exact stps_ok (wd f) hh 80
              rw [← hs] at hW
              subst hW
              clear hs GW
              rw [show ((80 : Nat) : Int) = 80 from rfl]
              go_wp2
              go_loopw [11] (fun i W => EHead h s W2 i W) (fun i _ => 5 - (intOf i).toNat)
              case atStart => exact ⟨0, n, by omega, rfl, by rw [cs_congr .u32 (addTo h s 0) s.at 5 (fun j _ => if_neg (by omega))]⟩
              case round =>
                obtain ⟨k, n, hk, rfl, rfl⟩ := hrel
                by_cases hlt : k < 5
                · as_aux_lemma =>
                    have c1 : (cs .u32 (addTo h s k) 5)[k]? = some (.int .u32 (s.at k : Nat)) := by rw [cs_get _ _ _ _ hlt]; unfold addTo; rw [if_neg (Nat.lt_irrefl _)]
                    have c2 := row_cell K0.out k _ (cs_get .u32 h.at 5 k hlt)
                    have ST := Lib.hid (addTo_set h s k)
                    have l1 := at_lt sok k
                    have l2 := at_lt hh k
                    have qk : (k : Int) < 5 := by omega
                    generalize s.at k = X1 at *
                    generalize h.at k = X2 at *
                    go_wp2
                    go_region
                    rw [set_last _ _ _ _ _ _ _ _ rfl ST.out]
                    clear c1 c2
                    go_wp2
                    go_roundw
                    case rel => exact ⟨k + 1, n + 1, by omega, by go_num, rfl⟩
                    case measure => simp [intOf]; omega
                · obtain rfl : k = 5 := by omega
                  rw [addTo_all, ← HF.out]
                  go_wp2_with (first
                    | (refine wpList_load_row rfl 43 (.tmp 8) rfl W2.heap.size rfl _ _ _ _ (hp_new W2 _) Tryz.underlying43 rfl (szc sz5 _ _) ?_)
                    | (refine wpList_store_row rfl 43 (.tmp 4) (.tmp 132) rfl (w.heap.size + 1) _ rfl rfl _ _ (hp_old K1.out _) (szc sz5 _ _) (by rw [cs_size]; rfl) (cs_one _ _ _) ?_))
                  refine end_row rfl _ _ (w.heap.size + 1) _ _ _ _ rfl (setRow_heap _ _ _ _ _ _ (hp_old K1.out _)) Tryz.underlying43 (szc sz5 _ _) rfl ⟨rfl, ?_⟩
                  exact bel_setRow (bel_drewN (bal bw _) _) (by omega) _
end Go.Proofs.YtldieebiicblbaaGreatDoor.ref06
