/-
  What the document's own Encode of layer 15 answers. Condition: none.
-/
import Derived.Test.YtkbpmopnphcfjaaRef15
import Derived.Lib.SmallJoins
namespace Go.Proofs.Ytkbpmopnphcfjaa.ref15
open Go.ChangeShapes Go.WideShapes Go.ChangeAt Go.RowKit
open om mem oct hd head
set_option linter.unusedVariables false
set_option maxRecDepth 100000

/-- at the head of a round that lays noughts. -/
def ZHead (l : List Nat) (base : Nat) (W0 : World) (b i : Value) (W : World) : Prop :=
  ∃ (k : Nat) (v : Value), k ≤ 15 ∧ i = .int .i64 (k : Nat) ∧ v = b ∧ Own base W v (l ++ List.replicate k 0) ∧ Below base W0 W
theorem put_one (h : Hd) (hok : Ok h) (k : Nat) (hk : k < 6) (base : Nat) (W8 W : World) (v : Value) (ho : Own base W v (pref h.v ++ lay4s ((nums h).take k))) (hb : Below W8.heap.size W8 W) (hbs : base ≤ W8.heap.size) :
    Calls Try.prog 19 #[v, .int .i64 ((nums h)[k]'(by exact hk)), .int .i64 4] W fun e w' => ∃ v', e = .returned (.tuple #[v', .bool true]) ∧ Own base w' v' (pref h.v ++ lay4s ((nums h).take (k + 1))) ∧ Below W8.heap.size W8 w' := by
  have hk' : k < (nums h).length := hk
  have bd : -2147483648 ≤ (nums h)[k]'(by exact hk) ∧ (nums h)[k]'(by exact hk) ≤ 2147483647 := by
    obtain ⟨k1, k2, k3, k4, k5, k6, k7⟩ := hok
    obtain rfl | rfl | rfl | rfl | rfl | rfl : k = 0 ∨ k = 1 ∨ k = 2 ∨ k = 3 ∨ k = 4 ∨ k = 5 := by omega
    all_goals simp only [nums, List.getElem_cons_zero, List.getElem_cons_succ]; omega
  have hf : fitB ((nums h)[k]'(by exact hk)) 4 = true := fit_iff.2 (fits4 bd)
  have hl : (pref h.v ++ lay4s ((nums h).take k)).length < 2000000000000 := by
    rw [List.length_append, lay4s_len, List.length_take]
    have : (pref h.v).length = 20 := rfl
    omega
  refine (ref13.put_at _ v _ 4 W ⟨by omega, by omega⟩ ⟨by decide, by decide⟩ (own_by ho).rd hl).mono ?_
  rintro e w' ⟨v', rfl, ho', hb'⟩
  rw [put_yes hf] at ho'
  refine ⟨v', by rw [hf], ?_, btr hb hb'⟩
  rw [List.take_succ_eq_append_getElem hk', lay4s_snoc, ← List.append_assoc]
  exact own_mono ho' (Nat.le_trans hbs hb.size)
/-- at the head of a round that lays numbers. -/
def EHead (h : Hd) (base : Nat) (W8 : World) (b i : Value) (W : World) : Prop :=
  ∃ (k : Nat) (v : Value), k ≤ 6 ∧ i = .int .i64 (k : Nat) ∧ v = b ∧ Own base W v (pref h.v ++ lay4s ((nums h).take k)) ∧ Below W8.heap.size W8 W
theorem ints6 (h : Hd) (w W : World) (k : Nat) (hk : k < 6) (hb : Below (w.alloc (.cells #[.int .i64 h.ut, .int .i64 h.sd, .int .i64 h.lp, .int .i64 h.tm, .int .i64 h.ty, .int .i64 h.ch] 3)).heap.size (w.alloc (.cells #[.int .i64 h.ut, .int .i64 h.sd, .int .i64 h.lp, .int .i64 h.tm, .int .i64 h.ty, .int .i64 h.ch] 3)) W) :
    W.cell? ⟨w.heap.size, k, none⟩ = some (.int .i64 ((nums h)[k]'(by exact hk))) := by
  rw [row_cell (kept (hp_new w _) hb) k]
  obtain rfl | rfl | rfl | rfl | rfl | rfl : k = 0 ∨ k = 1 ∨ k = 2 ∨ k = 3 ∨ k = 4 ∨ k = 5 := by omega
  all_goals rfl
set_option maxHeartbeats 8000000 in
theorem encode_at (h : Hd) (w : World) : Calls Try.prog 10 #[(.agg #[.int .i64 h.v, .int .i64 h.ut, .int .i64 h.sd, .int .i64 h.lp, .int .i64 h.tm, .int .i64 h.ty, .int .i64 h.ch])] w (EncTold w h) := by
  have R := Lib.hid (fun w => right_at h w)
  have T := box_tells h w
  by_cases hok : hd.okB h = true
  · have HK := hd.ok_iff.1 hok
    rw [hok] at R
    have kc := fun (w : World) (C : Array Value) (n c g : Nat) (hg : g = w.heap.size) => Joins.run_convert_bytes_const_at (P := Try.prog) w 24 5 C n c g hg Try.underlying24 Try.underlying5
    have FIN : Hid (∀ v W, Own (w.alloc (.cells #[.int .i64 h.v, .int .i64 h.ut, .int .i64 h.sd, .int .i64 h.lp, .int .i64 h.tm, .int .i64 h.ty, .int .i64 h.ch] 23)).heap.size W v (pref h.v ++ lay4s ((nums h).take 6)) → Below (w.alloc (.cells #[.int .i64 h.v, .int .i64 h.ut, .int .i64 h.sd, .int .i64 h.lp, .int .i64 h.tm, .int .i64 h.ty, .int .i64 h.ch] 23)).heap.size (w.alloc (.cells #[.int .i64 h.v, .int .i64 h.ut, .int .i64 h.sd, .int .i64 h.lp, .int .i64 h.tm, .int .i64 h.ty, .int .i64 h.ch] 23)) W → EncTold w h (.returned (.tuple #[v, .bool true])) W) := Lib.hid fun v W ho hb => ⟨v, by rw [hok], by rw [enc_yes hok]; exact own_mono ho (by simp), btr (bal (Below.refl _ _) _) hb⟩
    by_cases h1 : h.v = 1
    · have HV : Hid (((vb h.v : Nat) : Int) = 0) := Lib.hid (by unfold vb; rw [if_pos h1]; rfl)
      have t1 : decide (1 < h.v) = false := by simp only [decide_eq_false_iff_not]; omega
      clear h1 hok
      go_enter Try.func10, Try.ntmps10
      go_wp2_with (first
        | (go_at_call 14; (with_reducible refine (R.out _).mono ?_); rintro e w1 ⟨rfl, hb1⟩; have HA1 := Lib.hid hb1; obtain ⟨c0, c1, c2, c3, c4, c5, c6, hb2, hs1⟩ := T.out _ hb1; clear hb1)
        | (at_builtin; refine app_full rfl _ _ rfl (w.alloc (.cells #[.int .i64 h.v, .int .i64 h.ut, .int .i64 h.sd, .int .i64 h.lp, .int .i64 h.tm, .int .i64 h.ty, .int .i64 h.ch] 23)).heap.size (w1.alloc (.cells #[.int .u8 84, .int .u8 90, .int .u8 105, .int .u8 102] 5 (4, 5))) w1.heap.size 4 [84, 90, 105, 102] [vb h.v] #[.int .u8 84, .int .u8 90, .int .u8 105, .int .u8 102] #[.int .u8 0] (4, 5) 1 rfl (by simp only [bc, List.map]; rw [HV.out]; first | done | rfl) rfl (w1.heap.size + 1) (by simp) rfl rfl (hp_new w1 _) rfl (show 0 < 1 by decide) (show 4 + 1 < 8000000000000 by decide) (Nat.le_trans HA1.out.size (by simp)) ?_; intro v2 w2 ho2 hb2; have O2 := Lib.hid ho2; have HA2 := Lib.hid (btr (bal HA1.out _) hb2); clear ho2 hb2))
      clear c0 c1 c2 c3 c4 c5 c6 hb2 hs1
      go_loopw [4, 6] (fun b i W => ZHead ([84, 90, 105, 102] ++ [vb h.v]) (w.alloc (.cells #[.int .i64 h.v, .int .i64 h.ut, .int .i64 h.sd, .int .i64 h.lp, .int .i64 h.tm, .int .i64 h.ty, .int .i64 h.ch] 23)).heap.size (w.alloc (.cells #[.int .i64 h.v, .int .i64 h.ut, .int .i64 h.sd, .int .i64 h.lp, .int .i64 h.tm, .int .i64 h.ty, .int .i64 h.ch] 23)) b i W) (fun _ i _ => 15 - (intOf i).toNat)
      case atStart => exact ⟨0, v2, by decide, rfl, rfl, by rw [List.replicate, List.append_nil]; exact O2.out, HA2.out⟩
      case round =>
        obtain ⟨k, v, hk, rfl, rfl, ho, hb⟩ := hrel
        have HO := Lib.hid ho
        have HB := Lib.hid hb
        clear ho hb
        by_cases hlt : k < 15
        · have LB : Hid ((([84, 90, 105, 102] ++ [vb h.v]) ++ List.replicate k 0).length + 1 < 8000000000000) := Lib.hid (by simp; omega)
          have RN : Hid (∀ v' w', Own (w.alloc (.cells #[.int .i64 h.v, .int .i64 h.ut, .int .i64 h.sd, .int .i64 h.lp, .int .i64 h.tm, .int .i64 h.ty, .int .i64 h.ch] 23)).heap.size w' v' (([84, 90, 105, 102] ++ [vb h.v]) ++ List.replicate k 0 ++ [0]) → Below (w.alloc (.cells #[.int .i64 h.v, .int .i64 h.ut, .int .i64 h.sd, .int .i64 h.lp, .int .i64 h.tm, .int .i64 h.ty, .int .i64 h.ch] 23)).heap.size (w.alloc (.cells #[.int .i64 h.v, .int .i64 h.ut, .int .i64 h.sd, .int .i64 h.lp, .int .i64 h.tm, .int .i64 h.ty, .int .i64 h.ch] 23)) w' → ZHead ([84, 90, 105, 102] ++ [vb h.v]) (w.alloc (.cells #[.int .i64 h.v, .int .i64 h.ut, .int .i64 h.sd, .int .i64 h.lp, .int .i64 h.tm, .int .i64 h.ty, .int .i64 h.ch] 23)).heap.size (w.alloc (.cells #[.int .i64 h.v, .int .i64 h.ut, .int .i64 h.sd, .int .i64 h.lp, .int .i64 h.tm, .int .i64 h.ty, .int .i64 h.ch] 23)) v' (.int .i64 ((k : Int) + 1)) w') := Lib.hid fun v' w' a b => ⟨k + 1, v', by omega, rfl, rfl, by rw [List.replicate_succ', ← List.append_assoc]; exact a, b⟩
          generalize ([84, 90, 105, 102] ++ [vb h.v]) ++ List.replicate k 0 = lz at *
          go_wp2_with (at_builtin; refine app_lit rfl _ _ rfl (w.alloc (.cells #[.int .i64 h.v, .int .i64 h.ut, .int .i64 h.sd, .int .i64 h.lp, .int .i64 h.tm, .int .i64 h.ty, .int .i64 h.ch] 23)).heap.size wr v lz [0] #[.int .u8 0] 1 rfl rfl rfl rfl HO.out LB.out HB.out.size ?_; intro v3 w3 ho3 hg3; have RD := Lib.hid (RN.out _ _ ho3 (own_below HO.out HB.out HB.out.size hg3)); clear ho3 hg3)
          go_roundw
          case rel => exact RD.out
          case measure => simp [intOf]; omega
        · obtain rfl : k = 15 := by omega
          obtain ⟨c0, c1, c2, c3, c4, c5, c6, hb2, hs1⟩ := T.out _ HB.out
          have HO5 : Hid (∀ W, Below wr.heap.size wr W → Own (w.alloc (.cells #[.int .i64 h.v, .int .i64 h.ut, .int .i64 h.sd, .int .i64 h.lp, .int .i64 h.tm, .int .i64 h.ty, .int .i64 h.ch] 23)).heap.size W v (pref h.v ++ lay4s ((nums h).take 0))) := Lib.hid fun W hb => own_kept HO.out hb
          have HB8 := Lib.hid (bal HB.out (.cells #[.int .i64 h.ut, .int .i64 h.sd, .int .i64 h.lp, .int .i64 h.tm, .int .i64 h.ty, .int .i64 h.ch] 3))
          have I6 := Lib.hid (fun W k hk hb => ints6 h wr W k hk hb)
          clear HO HB
          generalize wr = W5 at *
          go_wp2
          clear c0 c1 c2 c3 c4 c5 c6 hb2 hs1
          rw [show ((15 : Nat) : Int) = 15 from rfl]
          go_loopw [4, 8] (fun b i W => EHead h (w.alloc (.cells #[.int .i64 h.v, .int .i64 h.ut, .int .i64 h.sd, .int .i64 h.lp, .int .i64 h.tm, .int .i64 h.ty, .int .i64 h.ch] 23)).heap.size (W5.alloc (.cells #[.int .i64 h.ut, .int .i64 h.sd, .int .i64 h.lp, .int .i64 h.tm, .int .i64 h.ty, .int .i64 h.ch] 3)) b i W) (fun _ i _ => 6 - (intOf i).toNat)
          case atStart => exact ⟨0, v, by decide, rfl, rfl, HO5.out _ (bal (Below.refl _ _) _), Below.refl _ _⟩
          case round =>
            obtain ⟨k, v, hk, rfl, rfl, ho, hb⟩ := hrel
            have HB := Lib.hid hb
            by_cases hlt : k < 6
            · have PT := Lib.hid (put_one h HK k hlt _ _ _ v ho hb HB8.out.size)
              have cell := I6.out _ k hlt hb
              have RN : Hid (∀ v' w', Own (w.alloc (.cells #[.int .i64 h.v, .int .i64 h.ut, .int .i64 h.sd, .int .i64 h.lp, .int .i64 h.tm, .int .i64 h.ty, .int .i64 h.ch] 23)).heap.size w' v' (pref h.v ++ lay4s ((nums h).take (k + 1))) → Below (W5.alloc (.cells #[.int .i64 h.ut, .int .i64 h.sd, .int .i64 h.lp, .int .i64 h.tm, .int .i64 h.ty, .int .i64 h.ch] 3)).heap.size (W5.alloc (.cells #[.int .i64 h.ut, .int .i64 h.sd, .int .i64 h.lp, .int .i64 h.tm, .int .i64 h.ty, .int .i64 h.ch] 3)) w' → EHead h (w.alloc (.cells #[.int .i64 h.v, .int .i64 h.ut, .int .i64 h.sd, .int .i64 h.lp, .int .i64 h.tm, .int .i64 h.ty, .int .i64 h.ch] 23)).heap.size (W5.alloc (.cells #[.int .i64 h.ut, .int .i64 h.sd, .int .i64 h.lp, .int .i64 h.tm, .int .i64 h.ty, .int .i64 h.ch] 3)) v' (.int .i64 ((k : Int) + 1)) w') := Lib.hid fun v' w' a b => ⟨k + 1, v', by omega, rfl, rfl, a, b⟩
              clear ho hb hk
              generalize (nums h)[k]'(by exact hlt) = n at *
              go_wp2_with (go_at_call 19; (with_reducible refine PT.out.mono ?_); rintro e w4 ⟨v4, rfl, ho4, hb4⟩; have RD := Lib.hid (RN.out _ _ ho4 hb4); clear ho4 hb4)
              go_roundw
              case rel => exact RD.out
              case measure => simp [intOf]; omega
            · obtain rfl : k = 6 := by omega
              have Q := Lib.hid (FIN.out _ _ ho (btr HB8.out hb))
              clear ho hb hk hlt
              go_wp2
              go_ret2
              exact Q.out
    · have HV : Hid (((vb h.v : Nat) : Int) = 48 + h.v) := Lib.hid (by unfold vb; rw [if_neg h1]; have := HK.1; omega)
      have t1 : decide (1 < h.v) = true := by have := HK.1; simp only [decide_eq_true_eq]; omega
      have b1 : 1 ≤ h.v := HK.1.1
      have b2 : h.v ≤ 4 := HK.1.2
      clear h1 hok
      go_enter Try.func10, Try.ntmps10
      go_wp2_with (first
        | (go_at_call 14; (with_reducible refine (R.out _).mono ?_); rintro e w1 ⟨rfl, hb1⟩; have HA1 := Lib.hid hb1; obtain ⟨c0, c1, c2, c3, c4, c5, c6, hb2, hs1⟩ := T.out _ hb1; clear hb1)
        | (at_builtin; refine app_full rfl _ _ rfl (w.alloc (.cells #[.int .i64 h.v, .int .i64 h.ut, .int .i64 h.sd, .int .i64 h.lp, .int .i64 h.tm, .int .i64 h.ty, .int .i64 h.ch] 23)).heap.size (w1.alloc (.cells #[.int .u8 84, .int .u8 90, .int .u8 105, .int .u8 102] 5 (4, 5))) w1.heap.size 4 [84, 90, 105, 102] [vb h.v] #[.int .u8 84, .int .u8 90, .int .u8 105, .int .u8 102] #[.int .u8 (48 + h.v)] (4, 5) 1 rfl (by simp only [bc, List.map]; rw [HV.out]; first | done | rfl) rfl (w1.heap.size + 1) (by simp) rfl rfl (hp_new w1 _) rfl (show 0 < 1 by decide) (show 4 + 1 < 8000000000000 by decide) (Nat.le_trans HA1.out.size (by simp)) ?_; intro v2 w2 ho2 hb2; have O2 := Lib.hid ho2; have HA2 := Lib.hid (btr (bal HA1.out _) hb2); clear ho2 hb2))
      clear c0 c1 c2 c3 c4 c5 c6 hb2 hs1
      go_loopw [4, 6] (fun b i W => ZHead ([84, 90, 105, 102] ++ [vb h.v]) (w.alloc (.cells #[.int .i64 h.v, .int .i64 h.ut, .int .i64 h.sd, .int .i64 h.lp, .int .i64 h.tm, .int .i64 h.ty, .int .i64 h.ch] 23)).heap.size (w.alloc (.cells #[.int .i64 h.v, .int .i64 h.ut, .int .i64 h.sd, .int .i64 h.lp, .int .i64 h.tm, .int .i64 h.ty, .int .i64 h.ch] 23)) b i W) (fun _ i _ => 15 - (intOf i).toNat)
      case atStart => exact ⟨0, v2, by decide, rfl, rfl, by rw [List.replicate, List.append_nil]; exact O2.out, HA2.out⟩
      case round =>
        obtain ⟨k, v, hk, rfl, rfl, ho, hb⟩ := hrel
        have HO := Lib.hid ho
        have HB := Lib.hid hb
        clear ho hb
        by_cases hlt : k < 15
        · have LB : Hid ((([84, 90, 105, 102] ++ [vb h.v]) ++ List.replicate k 0).length + 1 < 8000000000000) := Lib.hid (by simp; omega)
          have RN : Hid (∀ v' w', Own (w.alloc (.cells #[.int .i64 h.v, .int .i64 h.ut, .int .i64 h.sd, .int .i64 h.lp, .int .i64 h.tm, .int .i64 h.ty, .int .i64 h.ch] 23)).heap.size w' v' (([84, 90, 105, 102] ++ [vb h.v]) ++ List.replicate k 0 ++ [0]) → Below (w.alloc (.cells #[.int .i64 h.v, .int .i64 h.ut, .int .i64 h.sd, .int .i64 h.lp, .int .i64 h.tm, .int .i64 h.ty, .int .i64 h.ch] 23)).heap.size (w.alloc (.cells #[.int .i64 h.v, .int .i64 h.ut, .int .i64 h.sd, .int .i64 h.lp, .int .i64 h.tm, .int .i64 h.ty, .int .i64 h.ch] 23)) w' → ZHead ([84, 90, 105, 102] ++ [vb h.v]) (w.alloc (.cells #[.int .i64 h.v, .int .i64 h.ut, .int .i64 h.sd, .int .i64 h.lp, .int .i64 h.tm, .int .i64 h.ty, .int .i64 h.ch] 23)).heap.size (w.alloc (.cells #[.int .i64 h.v, .int .i64 h.ut, .int .i64 h.sd, .int .i64 h.lp, .int .i64 h.tm, .int .i64 h.ty, .int .i64 h.ch] 23)) v' (.int .i64 ((k : Int) + 1)) w') := Lib.hid fun v' w' a b => ⟨k + 1, v', by omega, rfl, rfl, by rw [List.replicate_succ', ← List.append_assoc]; exact a, b⟩
          generalize ([84, 90, 105, 102] ++ [vb h.v]) ++ List.replicate k 0 = lz at *
          go_wp2_with (at_builtin; refine app_lit rfl _ _ rfl (w.alloc (.cells #[.int .i64 h.v, .int .i64 h.ut, .int .i64 h.sd, .int .i64 h.lp, .int .i64 h.tm, .int .i64 h.ty, .int .i64 h.ch] 23)).heap.size wr v lz [0] #[.int .u8 0] 1 rfl rfl rfl rfl HO.out LB.out HB.out.size ?_; intro v3 w3 ho3 hg3; have RD := Lib.hid (RN.out _ _ ho3 (own_below HO.out HB.out HB.out.size hg3)); clear ho3 hg3)
          go_roundw
          case rel => exact RD.out
          case measure => simp [intOf]; omega
        · obtain rfl : k = 15 := by omega
          obtain ⟨c0, c1, c2, c3, c4, c5, c6, hb2, hs1⟩ := T.out _ HB.out
          have HO5 : Hid (∀ W, Below wr.heap.size wr W → Own (w.alloc (.cells #[.int .i64 h.v, .int .i64 h.ut, .int .i64 h.sd, .int .i64 h.lp, .int .i64 h.tm, .int .i64 h.ty, .int .i64 h.ch] 23)).heap.size W v (pref h.v ++ lay4s ((nums h).take 0))) := Lib.hid fun W hb => own_kept HO.out hb
          have HB8 := Lib.hid (bal HB.out (.cells #[.int .i64 h.ut, .int .i64 h.sd, .int .i64 h.lp, .int .i64 h.tm, .int .i64 h.ty, .int .i64 h.ch] 3))
          have I6 := Lib.hid (fun W k hk hb => ints6 h wr W k hk hb)
          clear HO HB
          generalize wr = W5 at *
          go_wp2
          clear c0 c1 c2 c3 c4 c5 c6 hb2 hs1
          rw [show ((15 : Nat) : Int) = 15 from rfl]
          go_loopw [4, 8] (fun b i W => EHead h (w.alloc (.cells #[.int .i64 h.v, .int .i64 h.ut, .int .i64 h.sd, .int .i64 h.lp, .int .i64 h.tm, .int .i64 h.ty, .int .i64 h.ch] 23)).heap.size (W5.alloc (.cells #[.int .i64 h.ut, .int .i64 h.sd, .int .i64 h.lp, .int .i64 h.tm, .int .i64 h.ty, .int .i64 h.ch] 3)) b i W) (fun _ i _ => 6 - (intOf i).toNat)
          case atStart => exact ⟨0, v, by decide, rfl, rfl, HO5.out _ (bal (Below.refl _ _) _), Below.refl _ _⟩
          case round =>
            obtain ⟨k, v, hk, rfl, rfl, ho, hb⟩ := hrel
            have HB := Lib.hid hb
            by_cases hlt : k < 6
            · have PT := Lib.hid (put_one h HK k hlt _ _ _ v ho hb HB8.out.size)
              have cell := I6.out _ k hlt hb
              have RN : Hid (∀ v' w', Own (w.alloc (.cells #[.int .i64 h.v, .int .i64 h.ut, .int .i64 h.sd, .int .i64 h.lp, .int .i64 h.tm, .int .i64 h.ty, .int .i64 h.ch] 23)).heap.size w' v' (pref h.v ++ lay4s ((nums h).take (k + 1))) → Below (W5.alloc (.cells #[.int .i64 h.ut, .int .i64 h.sd, .int .i64 h.lp, .int .i64 h.tm, .int .i64 h.ty, .int .i64 h.ch] 3)).heap.size (W5.alloc (.cells #[.int .i64 h.ut, .int .i64 h.sd, .int .i64 h.lp, .int .i64 h.tm, .int .i64 h.ty, .int .i64 h.ch] 3)) w' → EHead h (w.alloc (.cells #[.int .i64 h.v, .int .i64 h.ut, .int .i64 h.sd, .int .i64 h.lp, .int .i64 h.tm, .int .i64 h.ty, .int .i64 h.ch] 23)).heap.size (W5.alloc (.cells #[.int .i64 h.ut, .int .i64 h.sd, .int .i64 h.lp, .int .i64 h.tm, .int .i64 h.ty, .int .i64 h.ch] 3)) v' (.int .i64 ((k : Int) + 1)) w') := Lib.hid fun v' w' a b => ⟨k + 1, v', by omega, rfl, rfl, a, b⟩
              clear ho hb hk
              generalize (nums h)[k]'(by exact hlt) = n at *
              go_wp2_with (go_at_call 19; (with_reducible refine PT.out.mono ?_); rintro e w4 ⟨v4, rfl, ho4, hb4⟩; have RD := Lib.hid (RN.out _ _ ho4 hb4); clear ho4 hb4)
              go_roundw
              case rel => exact RD.out
              case measure => simp [intOf]; omega
            · obtain rfl : k = 6 := by omega
              have Q := Lib.hid (FIN.out _ _ ho (btr HB8.out hb))
              clear ho hb hk hlt
              go_wp2
              go_ret2
              exact Q.out
  · have hok' : hd.okB h = false := by simpa using hok
    rw [hok'] at R
    have Q : Hid (∀ w', Below w.heap.size w w' → EncTold w h (.returned (.tuple #[.slice none 0 0, .bool false])) w') := Lib.hid fun w' hb => ⟨_, by rw [hok'], by rw [enc_no hok']; exact own_none _ _, hb⟩
    clear hok hok'
    obtain ⟨v, ut, sd, lp, tm, ty, ch⟩ := h
    simp only at *
    go_enter Try.func10, Try.ntmps10
    go_wp2_with (go_at_call 14; (with_reducible refine (R.out _).mono ?_); rintro e w1 ⟨rfl, hb1⟩; obtain ⟨c0, c1, c2, c3, c4, c5, c6, hb2, hs1⟩ := T.out _ hb1; have HB := Lib.hid hb2; clear hb1 hb2)
    go_ret2
    exact Q.out _ HB.out
end Go.Proofs.Ytkbpmopnphcfjaa.ref15
