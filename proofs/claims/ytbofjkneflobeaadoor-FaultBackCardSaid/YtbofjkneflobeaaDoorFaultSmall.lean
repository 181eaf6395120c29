/-
  The small case that each statement of layer 8 begins with comes out true. Conditions: the words of package fault and the library's table of powers of ten hold what their initialisers lay.
-/
import Derived.Test.YtbofjkneflobeaaDoorFaultErr
import Derived.Test.YtbofjkneflobeaaDoorFaultFirst
import Derived.Deep.RegionHeld3
namespace Go.Proofs.YtbofjkneflobeaaDoor.fault
open Go.ChangeShapes Go.WideShapes Go.ChangeAt Go.RowKit
open fx mem
set_option linter.unusedVariables false

theorem txt_gap : txt 3 7 = ⟨#[108, 105, 110, 101, 32, 51, 58, 32, 103, 97, 112]⟩ := by
  unfold txt
  rw [show dec 3 = ⟨#[51]⟩ from dec_small 3 (by omega)]
  rfl
theorem txt_err : txt (-1) 99 = ⟨#[108, 105, 110, 101, 32, 45, 49, 58, 32, 101, 114, 114, 111, 114]⟩ := by
  unfold txt
  rw [show dec (-1) = ⟨#[45]⟩ ++ dec 1 from dec_neg1 1 (by omega) (by omega), show dec 1 = ⟨#[49]⟩ from dec_small 1 (by omega)]
  rfl
theorem flts_three (W : World) : Flts (W.alloc (.cells #[.int .i64 9, .int .i64 2, .int .i64 1, .int .i64 0, .int .i64 3, .int .i64 7] 24)) (some ⟨W.heap.size, 0, none⟩) [(9, 2), (1, 0), (3, 7)] := by
  intro _
  refine ⟨W.heap.size, 0, rfl, by simp, fun k hk => ?_⟩
  have h3 : k < 3 := hk
  rcases (show k = 0 ∨ k = 1 ∨ k = 2 by omega) with rfl | rfl | rfl <;> exact ⟨row_cell (hp_new _ _) _, row_cell (hp_new _ _) _⟩
theorem first_three (W : World) : Calls Tryd.prog 11 #[.slice (some ⟨W.heap.size, 0, none⟩) 3 3] (W.alloc (.cells #[.int .i64 9, .int .i64 2, .int .i64 1, .int .i64 0, .int .i64 3, .int .i64 7] 24)) fun e w' => e = .returned (.agg #[.int .i64 3, .int .i64 7]) ∧
    Below (W.alloc (.cells #[.int .i64 9, .int .i64 2, .int .i64 1, .int .i64 0, .int .i64 3, .int .i64 7] 24)).heap.size (W.alloc (.cells #[.int .i64 9, .int .i64 2, .int .i64 1, .int .i64 0, .int .i64 3, .int .i64 7] 24)) w' :=
  first_at [(9, 2), (1, 0), (3, 7)] _ 3 _ (flts_three W) (by decide)
theorem first_none (W : World) : Calls Tryd.prog 11 #[.slice none 0 0] W fun e w' => e = .returned (.agg #[.int .i64 0, .int .i64 0]) ∧ Below W.heap.size W w' :=
  first_at [] none 0 W (fun h => absurd rfl h) (by decide)
theorem is_nil (v : Value) (W : World) : (binOp .eql 29 (.iface 43 v) .nilIface).run Tryd.prog W = .ok (.bool false) W := by kernel_rfl
theorem nil_nil (W : World) : (binOp .eql 29 .nilIface .nilIface).run Tryd.prog W = .ok (.bool true) W := by kernel_rfl

theorem s_keep {N2 N6 : Nat} {w W W' : World} (h : W.cell? ⟨N2, 0, none⟩ = some (.int .i64 3) ∧ W.cell? ⟨N2, 1, none⟩ = some (.int .i64 7) ∧ W.cell? ⟨N6, 0, none⟩ = some (.int .i64 3) ∧ W.cell? ⟨N6, 1, none⟩ = some (.int .i64 7) ∧ Below w.heap.size w W) (hb : Below W.heap.size W W') :
    W'.cell? ⟨N2, 0, none⟩ = some (.int .i64 3) ∧ W'.cell? ⟨N2, 1, none⟩ = some (.int .i64 7) ∧ W'.cell? ⟨N6, 0, none⟩ = some (.int .i64 3) ∧ W'.cell? ⟨N6, 1, none⟩ = some (.int .i64 7) ∧ Below w.heap.size w W' :=
  ⟨(hb.cell (World.block_lt_of_cell? W _ h.1)).trans h.1, (hb.cell (World.block_lt_of_cell? W _ h.2.1)).trans h.2.1, (hb.cell (World.block_lt_of_cell? W _ h.2.2.1)).trans h.2.2.1, (hb.cell (World.block_lt_of_cell? W _ h.2.2.2.1)).trans h.2.2.2.1, btr h.2.2.2.2 hb⟩
theorem s_start (w w1 w2 : World) (hb1 : Below w.heap.size w w1) (hb2 : Below (w1.alloc (.cells #[.int .i64 3, .int .i64 7] 24)).heap.size (w1.alloc (.cells #[.int .i64 3, .int .i64 7] 24)) w2) (W : World)
    (e : W = ((w2.alloc (.cells #[.int .i64 0, .int .i64 0] 24)).alloc (.cells #[.int .i64 3, .int .i64 7] 24))) :
    W.drew.cell? ⟨w1.heap.size, 0, none⟩ = some (.int .i64 3) ∧ W.drew.cell? ⟨w1.heap.size, 1, none⟩ = some (.int .i64 7) ∧ W.drew.cell? ⟨w2.heap.size + 1, 0, none⟩ = some (.int .i64 3) ∧ W.drew.cell? ⟨w2.heap.size + 1, 1, none⟩ = some (.int .i64 7) ∧ Below w.heap.size w W.drew := by
  subst e
  have g1 := hp_old (hp_old (kept (hp_new w1 (.cells #[.int .i64 3, .int .i64 7] 24)) hb2) (.cells #[.int .i64 0, .int .i64 0] 24)) (.cells #[.int .i64 3, .int .i64 7] 24)
  have g2 := hp_new1 w2 (.cells #[.int .i64 0, .int .i64 0] 24) (.cells #[.int .i64 3, .int .i64 7] 24)
  exact ⟨row_cell g1 0, row_cell g1 1, row_cell g2 0, row_cell g2 1, bel_drewN (bal (bal (btr (bal hb1 _) hb2) _) _) 1⟩

set_option maxHeartbeats 4000000 in
theorem small_at (w : World) (T : Tb w) : Calls Tryd.prog 7 #[] w fun e w' => e = .returned (.bool true) ∧ Below w.heap.size w w' := by
  have N1 := Lib.hid (fun W => new_err 3 7 (by omega) W)
  have N0 := Lib.hid (fun W => new_ok 3 W)
  have O1 := Lib.hid (fun W => of_some 3 7 W)
  have O0 := Lib.hid (fun W => of_nil W)
  have E1 : Hid (∀ (N2 N6 : Nat) W, (W.cell? ⟨N2, 0, none⟩ = some (.int .i64 3) ∧ W.cell? ⟨N2, 1, none⟩ = some (.int .i64 7) ∧ W.cell? ⟨N6, 0, none⟩ = some (.int .i64 3) ∧ W.cell? ⟨N6, 1, none⟩ = some (.int .i64 7) ∧ Below w.heap.size w W) → Calls Tryd.prog 46 #[.agg #[.int .i64 3, .int .i64 7]] W fun e w' => e = .returned (.string ⟨#[108, 105, 110, 101, 32, 51, 58, 32, 103, 97, 112]⟩) ∧ Below W.heap.size W w') := fun _ _ W hb => by
    rw [← txt_gap]; exact error_at 3 7 (by unfold Fit; omega) W (T.below hb.2.2.2.2)
  have X1 : Hid (∀ (N2 N6 : Nat) W, (W.cell? ⟨N2, 0, none⟩ = some (.int .i64 3) ∧ W.cell? ⟨N2, 1, none⟩ = some (.int .i64 7) ∧ W.cell? ⟨N6, 0, none⟩ = some (.int .i64 3) ∧ W.cell? ⟨N6, 1, none⟩ = some (.int .i64 7) ∧ Below w.heap.size w W) → Calls Tryd.prog 10 #[.agg #[.int .i64 (-1), .int .i64 99]] W fun e w' => e = .returned (.string ⟨#[108, 105, 110, 101, 32, 45, 49, 58, 32, 101, 114, 114, 111, 114]⟩) ∧ Below W.heap.size W w') := fun _ _ W hb => by
    rw [← txt_err]; exact text_at (-1) 99 (by unfold Fit; omega) W (T.below hb.2.2.2.2)
  have M1 := Lib.hid (fun W => must_some 3 7 W)
  have F1 := Lib.hid first_three
  have F0 := Lib.hid first_none
  have q1 := is_nil
  have q0 := nil_nil
  have me := meth
  clear T
  go_enter Tryd.func7, Tryd.ntmps7
  go_wp2_with (first
    | (go_at_call 9; with_reducible refine (N1.out _).mono ?_; rintro e w' ⟨rfl, rfl⟩)
    | (go_at_call 13; first | (with_reducible refine (O1.out _).mono ?_; rintro e w1 ⟨rfl, hb1⟩) | (with_reducible refine (O0.out _).mono ?_; rintro e w2 ⟨rfl, hb2⟩)))
  have s0 := s_start w w1 w2 hb1 hb2 _ rfl
  generalize hN2 : w1.heap.size = N2 at *
  generalize hN6 : w2.heap.size + 1 = N6 at *
  clear hb1 hb2
  generalize ((w2.alloc (.cells #[.int .i64 0, .int .i64 0] 24)).alloc (.cells #[.int .i64 3, .int .i64 7] 24)) = W6 at *
  go_region_held3 (fun w' => w'.cell? ⟨N2, 0, none⟩ = some (.int .i64 3) ∧ w'.cell? ⟨N2, 1, none⟩ = some (.int .i64 7) ∧ w'.cell? ⟨N6, 0, none⟩ = some (.int .i64 3) ∧ w'.cell? ⟨N6, 1, none⟩ = some (.int .i64 7) ∧ Below w.heap.size w w') (first | exact s0 | exact s_keep (by assumption) (by assumption) | exact s_keep (by assumption) (bal (Below.refl _ _) _))
    (first
    | (go_at_call 9; with_reducible refine (N0.out _).mono ?_; rintro e w' ⟨rfl, rfl⟩)
    | (go_at_call 46; with_reducible refine (E1.out N2 N6 _ (by assumption)).mono ?_; rintro e w3 ⟨rfl, hb3⟩)
    | (go_at_call 14; with_reducible refine (M1.out _).mono ?_; rintro e w4 ⟨rfl, hb4⟩)
    | (go_at_call 10; with_reducible refine (X1.out N2 N6 _ (by assumption)).mono ?_; rintro e w5 ⟨rfl, hb5⟩)
    | (go_at_call 11; first | (with_reducible refine (F1.out _).mono ?_; rintro e w6 ⟨rfl, hb6⟩) | (with_reducible refine (F0.out _).mono ?_; rintro e w7 ⟨rfl, hb7⟩)))
  rename_i HH
  obtain ⟨_, _, _, _, hz⟩ := HH
  clear q1 q0 me
  go_wp2
  go_ret
  exact ⟨rfl, hz⟩
theorem small_true {w : World} (T : Tb w) (W : World) (hb : Below w.heap.size w W) : Calls Tryd.prog 7 #[] W fun e w' => e = .returned (.bool true) ∧ Below w.heap.size w w' :=
  (small_at W (T.below hb)).mono fun e w' ⟨he, hw⟩ => ⟨he, btr hb hw⟩
end Go.Proofs.YtbofjkneflobeaaDoor.fault
