/-
  The small case of layer 6 comes out true, walked. Condition: package sha's variable start holds what its initialiser lays.
-/
import Derived.Test.YtbmhddkmggoicaaDoorShaSmall
import Derived.Lib.SlBytesConst
import Derived.Lib.SmallJoins
namespace Go.Proofs.YtbmhddkmggoicaaDoor.sha
open Go.ChangeShapes Go.WideShapes Go.ChangeAt Go.RowKit
open sx
set_option linter.unusedVariables false

theorem sum_abc_at (w : World) (T : St w) :
    Calls Tryd.prog 8 #[.slice (some ⟨w.heap.size + 1, 0, none⟩) 1 1] ((w.alloc (.cells #[.int .u8 97, .int .u8 98, .int .u8 99] 5 (3, 4))).alloc (.cells #[.slice (some ⟨w.heap.size, 0, none⟩) 3 3] 22)) fun e w' => e = .returned (.agg (cs .u8 (dig abc) 20)) ∧
      Below w.heap.size w w' := by
  have hp := pts_one (rd_lit w [97, 98, 99] #[.int .u8 97, .int .u8 98, .int .u8 99] (3, 4) rfl)
  rw [show (w.alloc (.cells #[.int .u8 97, .int .u8 98, .int .u8 99] 5 (3, 4))).heap.size = w.heap.size + 1 by simp] at hp
  have hb : Below w.heap.size w ((w.alloc (.cells #[.int .u8 97, .int .u8 98, .int .u8 99] 5 (3, 4))).alloc (.cells #[.slice (some ⟨w.heap.size, 0, none⟩) 3 3] 22)) := bal (bal (Below.refl _ _) _) _
  refine (sum_walk [[97, 98, 99]] _ _ (T.below hb) hp (fun l hl => ?_) (by decide) (by decide)).mono fun e w' ⟨he, hw⟩ => ⟨?_, btr hb hw⟩
  · obtain rfl : l = [97, 98, 99] := by simpa using hl
    intro x hx; simp at hx; omega
  · rw [he, show flat [[97, 98, 99]] = [97, 98, 99] from rfl, sum_abc]
theorem sum_nil_at {w : World} (T : St w) (W : World) (hb : Below w.heap.size w W) :
    Calls Tryd.prog 8 #[.slice none 0 0] W fun e w' => e = .returned (.agg (cs .u8 (dig sx.nil) 20)) ∧ Below W.heap.size W w' := by
  refine (sum_walk [] _ _ (T.below hb) ⟨none, 0, rfl, fun h => absurd rfl h⟩ (fun l hl => by cases hl) (by decide) (by decide)).mono fun e w' ⟨he, hw⟩ => ⟨?_, hw⟩
  rw [he, show flat [] = [] from rfl, sum_nil]
theorem sum_three_at {w : World} (T : St w) (W : World) (hbW : Below w.heap.size w W) :
    Calls Tryd.prog 8 #[.slice (some ⟨W.heap.size + 1 + 1, 0, none⟩) 3 3] (((W.alloc (.cells #[.int .u8 97] 5 (1, 2))).alloc (.cells #[.int .u8 98, .int .u8 99] 5 (2, 3))).alloc (.cells #[.slice (some ⟨W.heap.size, 0, none⟩) 1 1, .slice none 0 0, .slice (some ⟨W.heap.size + 1, 0, none⟩) 2 2] 22)) fun e w' => e = .returned (.agg (cs .u8 (dig abc) 20)) ∧
      Below W.heap.size W w' := by
  have r1 := rd_lit W [97] #[.int .u8 97] (1, 2) rfl
  have r3 := rd_lit (W.alloc (.cells #[.int .u8 97] 5 (1, 2))) [98, 99] #[.int .u8 98, .int .u8 99] (2, 3) rfl
  rw [show (W.alloc (.cells #[.int .u8 97] 5 (1, 2))).heap.size = W.heap.size + 1 by simp] at r3
  have b1 : Below (W.alloc (.cells #[.int .u8 97] 5 (1, 2))).heap.size (W.alloc (.cells #[.int .u8 97] 5 (1, 2))) ((W.alloc (.cells #[.int .u8 97] 5 (1, 2))).alloc (.cells #[.int .u8 98, .int .u8 99] 5 (2, 3))) := (Below.refl _ _).alloc (Nat.le_refl _) _
  generalize hX : ((W.alloc (.cells #[.int .u8 97] 5 (1, 2))).alloc (.cells #[.int .u8 98, .int .u8 99] 5 (2, 3))) = X at *
  have hXs : X.heap.size = W.heap.size + 1 + 1 := by rw [← hX]; simp
  have bX : Below W.heap.size W X := by rw [← hX]; exact bal (bal (Below.refl _ _) _) _
  have b2 : Below X.heap.size X (X.alloc (.cells #[.slice (some ⟨W.heap.size, 0, none⟩) 1 1, .slice none 0 0, .slice (some ⟨W.heap.size + 1, 0, none⟩) 2 2] 22)) := (Below.refl _ _).alloc (Nat.le_refl _) _
  have hb := btr bX b2
  have hg := hp_new X (.cells #[.slice (some ⟨W.heap.size, 0, none⟩) 1 1, .slice none 0 0, .slice (some ⟨W.heap.size + 1, 0, none⟩) 2 2] 22)
  rw [hXs] at hg
  refine (sum_walk [[97], [], [98, 99]] _ _ (T.below (btr hbW hb)) ⟨_, _, rfl, fun _ => ⟨W.heap.size + 1 + 1, 0, rfl, fun k hk => ?_⟩⟩ (fun l hl => ?_) (by decide) (by decide)).mono fun e w' ⟨he, hw⟩ => ⟨?_, btr hb hw⟩
  · simp at hk
    rcases (show k = 0 ∨ k = 1 ∨ k = 2 by omega) with rfl | rfl | rfl
    · exact ⟨_, row_cell hg 0 _ rfl, (r1.below b1).below b2⟩
    · exact ⟨_, row_cell hg 1 _ rfl, ⟨none, 0, rfl, by simp, fun _ => rfl, fun h => absurd rfl h⟩⟩
    · exact ⟨_, row_cell hg 2 _ rfl, r3.below b2⟩
  · simp at hl
    rcases hl with rfl | rfl | rfl <;> (intro x hx; simp at hx; try omega)
  · rw [he, show flat [[97], [], [98, 99]] = [97, 98, 99] from rfl, sum_abc]
theorem sum_three_on {w : World} (T : St w) (W : World) (G : Nat) (hG : G = W.heap.size) (hbW : Below w.heap.size w W) :
    Calls Tryd.prog 8 #[.slice (some ⟨G + 1 + 1, 0, none⟩) 3 3] (((W.alloc (.cells #[.int .u8 97] 5 (1, 2))).alloc (.cells #[.int .u8 98, .int .u8 99] 5 (2, 3))).alloc (.cells #[.slice (some ⟨G, 0, none⟩) 1 1, .slice none 0 0, .slice (some ⟨G + 1, 0, none⟩) 2 2] 22)) fun e w' => e = .returned (.agg (cs .u8 (dig abc) 20)) ∧
      Below W.heap.size W w' := by
  subst hG; exact sum_three_at T W hbW
set_option maxHeartbeats 4000000 in
theorem small_true (w : World) (T : St w) : Calls Tryd.prog 7 #[] w fun e w' => e = .returned (.bool true) ∧ Below w.heap.size w w' := by
  have S1 := Lib.hid (sum_abc_at w T)
  have S2 := Lib.hid (fun W => sum_nil_at T W)
  have S3 := Lib.hid (fun W G hG => sum_three_on T W G hG)
  have WD := Lib.hid (fun W => words_any (dig abc) W (dig_byt _ _))
  rw [w0_abc, w4_abc] at WD
  have H1 := Lib.hid (fun W => hex_any (dig abc) W (dig_byt _ _))
  rw [hex_abc] at H1
  have H2 := Lib.hid (fun W => hex_any (dig sx.nil) W (dig_byt _ _))
  rw [hex_nil] at H2
  unfold sABC at H1
  unfold sNil at H2
  have EQ := fun W => eq20 (dig abc) (dig abc) W
  simp only [same_self] at EQ
  have kc := fun (w : World) (C : Array Value) (n c g : Nat) (hg : g = w.heap.size) => Joins.run_convert_bytes_const_at (P := Tryd.prog) w 22 5 C n c g hg Tryd.underlying22 Tryd.underlying5
  go_enter Tryd.func7, Tryd.ntmps7
  go_wp2_with (first
    | (go_at_call 8; (with_reducible refine S1.out.mono ?_); rintro e w1 ⟨rfl, hb1⟩; clear S1)
    | (refine wpList_store_row rfl 23 (.tmp 1) (.tmp 8) rfl _ _ rfl rfl _ _ (hp_new _ _) (szc sz20 _ _) (by rw [cs_size]; rfl) (cs_one _ _ _) ?_; rw [World.setRow_alloc_new])
    | (go_at_call 8; (with_reducible refine (S2.out _ (bal hb1 _)).mono ?_); rintro e w2 ⟨rfl, hb2⟩; clear S2; have GA := Lib.hid (kept (hp_new _ _) hb2); have B2 := btr (bal hb1 _) hb2)
    | (refine wpList_store_row rfl 23 (.tmp 2) (.tmp 9) rfl _ _ rfl rfl _ _ (hp_new _ _) (szc sz20 _ _) (by rw [cs_size]; rfl) (cs_one _ _ _) ?_; rw [World.setRow_alloc_new])
    | (go_at_call 8; (with_reducible refine (S3.out _ _ (by simp) (bal B2 _)).mono ?_); rintro e w3 ⟨rfl, hb3⟩; clear S3; have GA3 := Lib.hid (kept (hp_old GA.out _) hb3); have GB3 := Lib.hid (kept (hp_new _ _) hb3); have B3 := btr (bal B2 _) hb3)
    | (refine wpList_store_row rfl 23 (.tmp 3) (.tmp 15) rfl _ _ rfl rfl _ _ (hp_new _ _) (szc sz20 _ _) (by rw [cs_size]; rfl) (cs_one _ _ _) ?_; rw [World.setRow_alloc_new])
    | (refine wpList_load_row rfl 23 (.tmp 1) rfl _ rfl _ _ _ _ (hp_old GA3.out _) Tryd.underlying23 rfl (szc sz20 _ _) ?_)
    | (go_at_call 10; (with_reducible refine (WD.out _).mono ?_); rintro e w4 ⟨rfl, hb4⟩; clear WD; have GA4 := Lib.hid (kept (hp_old GA3.out _) hb4); have GB4 := Lib.hid (kept (hp_old GB3.out _) hb4); have GC4 := Lib.hid (kept (hp_new _ _) hb4); have B4 := btr (bal B3 _) hb4)
    | (refine wpList_load_row rfl 23 (.tmp 1) rfl _ rfl _ _ _ _ (hp_old GA4.out _) Tryd.underlying23 rfl (szc sz20 _ _) ?_)
    | (go_at_call 12; (with_reducible refine (H1.out _).mono ?_); rintro e w5 ⟨rfl, hb5⟩; clear H1; have GA5 := Lib.hid (kept (hp_old GA4.out _) hb5); have GB5 := Lib.hid (kept (hp_old GB4.out _) hb5); have GC5 := Lib.hid (kept (hp_old GC4.out _) hb5); have GW5 := Lib.hid (kept (hp_new _ _) hb5); have B5 := btr (bal B4 _) hb5)
    | (refine gload rfl 23 (.tmp 2) rfl _ rfl _ _ GB5.out _ _ Tryd.underlying23 (szc sz20 _ _) ?_)
    | (go_at_call 12; (with_reducible refine (H2.out _).mono ?_); rintro e w6 ⟨rfl, hb6⟩; clear H2; have GA6 := Lib.hid (kept GA5.out hb6); have GC6 := Lib.hid (kept GC5.out hb6); have GW6 := kept GW5.out hb6; have x0 := row_cell GW6 0 _ rfl; have x4 := row_cell GW6 4 _ rfl; clear GW6; have B6 := btr B5 hb6)
    | (refine gload rfl 23 (.tmp 1) rfl _ rfl _ _ GA6.out _ _ Tryd.underlying23 (szc sz20 _ _) ?_)
    | (refine gload rfl 23 (.tmp 3) rfl _ rfl _ _ GC6.out _ _ Tryd.underlying23 (szc sz20 _ _) ?_))
  go_ret
  exact ⟨rfl, B6⟩
end Go.Proofs.YtbmhddkmggoicaaDoor.sha
