/-
  ZicMonths: months are told by three letters, or more, of their names, whatever is great, for every two numbers. Condition: the row's own (the listed tables hold what their initialisers lay; the card ties that).
-/
import Derived.Test.YtajfblfkohemeaaDoorZicLaw
import Derived.Test.YtajfblfkohemeaaDoorCards
import Derived.Test.YtajfblfkohemeaaDoorTie
import Derived.SevenTiedAt
namespace Go.Proofs.YtajfblfkohemeaaDoor.zicMonths
open Go.ChangeShapes Go.WideShapes Go.ChangeAt Go.RowKit
open zic mem lx zs
set_option linter.unusedVariables false
set_option maxRecDepth 100000

def bg (j : Nat) : List UInt8 := gr (names.getD j [])
theorem bg_nine : ∀ j, j < 12 → (bg j).length ≤ 9 ∧ 3 ≤ (bg j).length := by decide +kernel
theorem bg_mon : ∀ j, j < 12 → ∀ k, k < 10 → monN ((bg j).take k) = (if k < 3 then 0 else j + 1) ∧ monN (((bg j).take k).map fld) = (if k < 3 then 0 else j + 1) := by decide +kernel
theorem bg_more : ∀ j, j < 12 → monN (bg j ++ [120]) = 0 := by decide +kernel
theorem bg_take (j : Nat) (hj : j < 12) (n : Int) (h : 0 ≤ n) : mon ((bg j).take n.toNat) = (if n < 3 then 0 else (j : Int) + 1) ∧ mon (((bg j).take n.toNat).map fld) = (if n < 3 then 0 else (j : Int) + 1) := by
  have h9 := bg_nine j hj
  have e : (bg j).take n.toNat = (bg j).take (min n.toNat 9) := by
    by_cases k : n.toNat ≤ 9
    · rw [Nat.min_eq_left k]
    · rw [List.take_of_length_le (by omega), List.take_of_length_le (by omega)]
  obtain ⟨a, b⟩ := bg_mon j hj (min n.toNat 9) (by omega)
  unfold mon
  rw [e, a, b]
  by_cases k : n < 3
  · rw [if_pos k, if_pos (by omega)]
    exact ⟨rfl, rfl⟩
  · rw [if_neg k, if_neg (by omega)]
    exact ⟨by omega, by omega⟩
theorem big_at (j : Nat) (hj : j < 12) : (#[.string ⟨#[74, 97, 110, 117, 97, 114, 121]⟩, .string ⟨#[70, 101, 98, 114, 117, 97, 114, 121]⟩, .string ⟨#[77, 97, 114, 99, 104]⟩, .string ⟨#[65, 112, 114, 105, 108]⟩, .string ⟨#[77, 97, 121]⟩, .string ⟨#[74, 117, 110, 101]⟩, .string ⟨#[74, 117, 108, 121]⟩, .string ⟨#[65, 117, 103, 117, 115, 116]⟩, .string ⟨#[83, 101, 112, 116, 101, 109, 98, 101, 114]⟩, .string ⟨#[79, 99, 116, 111, 98, 101, 114]⟩, .string ⟨#[78, 111, 118, 101, 109, 98, 101, 114]⟩, .string ⟨#[68, 101, 99, 101, 109, 98, 101, 114]⟩] : Array Value)[j]? = some (.string (B (bg j))) := by
  rcases (show j = 0 ∨ j = 1 ∨ j = 2 ∨ j = 3 ∨ j = 4 ∨ j = 5 ∨ j = 6 ∨ j = 7 ∨ j = 8 ∨ j = 9 ∨ j = 10 ∨ j = 11 by omega) with rfl | rfl | rfl | rfl | rfl | rfl | rfl | rfl | rfl | rfl | rfl | rfl <;> rfl
theorem big_cell (w1 W' : World) (j : Nat) (hj : j < 12) (hb : Below (w1.alloc (.cells #[.string ⟨#[74, 97, 110, 117, 97, 114, 121]⟩, .string ⟨#[70, 101, 98, 114, 117, 97, 114, 121]⟩, .string ⟨#[77, 97, 114, 99, 104]⟩, .string ⟨#[65, 112, 114, 105, 108]⟩, .string ⟨#[77, 97, 121]⟩, .string ⟨#[74, 117, 110, 101]⟩, .string ⟨#[74, 117, 108, 121]⟩, .string ⟨#[65, 117, 103, 117, 115, 116]⟩, .string ⟨#[83, 101, 112, 116, 101, 109, 98, 101, 114]⟩, .string ⟨#[79, 99, 116, 111, 98, 101, 114]⟩, .string ⟨#[78, 111, 118, 101, 109, 98, 101, 114]⟩, .string ⟨#[68, 101, 99, 101, 109, 98, 101, 114]⟩] 9)).heap.size (w1.alloc (.cells #[.string ⟨#[74, 97, 110, 117, 97, 114, 121]⟩, .string ⟨#[70, 101, 98, 114, 117, 97, 114, 121]⟩, .string ⟨#[77, 97, 114, 99, 104]⟩, .string ⟨#[65, 112, 114, 105, 108]⟩, .string ⟨#[77, 97, 121]⟩, .string ⟨#[74, 117, 110, 101]⟩, .string ⟨#[74, 117, 108, 121]⟩, .string ⟨#[65, 117, 103, 117, 115, 116]⟩, .string ⟨#[83, 101, 112, 116, 101, 109, 98, 101, 114]⟩, .string ⟨#[79, 99, 116, 111, 98, 101, 114]⟩, .string ⟨#[78, 111, 118, 101, 109, 98, 101, 114]⟩, .string ⟨#[68, 101, 99, 101, 109, 98, 101, 114]⟩] 9)) W') : W'.cell? ⟨w1.heap.size, j, none⟩ = some (.string (B (bg j))) :=
  (row_cell (kept (hp_new w1 _) hb) j).trans (big_at j hj)
set_option maxHeartbeats 4000000 in
theorem walk (m : Int) (hm : -9223372036854775808 ≤ m ∧ m ≤ 9223372036854775807) (n : Int) (hn : -9223372036854775808 ≤ n ∧ n ≤ 9223372036854775807) (w : World) (T : zic.All w) :
    Calls Tryd.prog 6 #[.int .i64 m, .int .i64 n] w fun e w' => e = .returned (.bool true) ∧ Below w.heap.size w w' := by
  have hA : Below w.heap.size w w := Below.refl _ _
  have SM : Hid (∀ W, Below w.heap.size w W → Calls Tryd.prog 7 #[] W fun e w' => e = .returned (.bool true) ∧ Below W.heap.size W w') := fun W hb => zic.small_at W (T.below hb)
  by_cases g : 1 ≤ m ∧ m ≤ 12 ∧ 0 ≤ n
  · obtain ⟨j, rfl, hj⟩ : ∃ j : Nat, m = (j : Int) + 1 ∧ j < 12 := ⟨(m - 1).toNat, by omega, by omega⟩
    obtain ⟨t1, t2⟩ := bg_take j hj n g.2.2
    have h9 := bg_nine j hj
    have t3 : mon (bg j ++ [120]) = 0 := by unfold mon; rw [bg_more j hj]; rfl
    have hsz := B_size (bg j)
    have htk : ((bg j).take n.toNat).length ≤ 9 := by rw [List.length_take]; omega
    have M1 : Hid (∀ W, Below w.heap.size w W → Calls Tryd.prog 16 #[.string (B ((bg j).take n.toNat))] W fun e w' => e = .returned (.tuple #[.int .i64 (if n < 3 then 0 else (j : Int) + 1), .bool (decide ((if n < 3 then 0 else (j : Int) + 1) ≠ 0))]) ∧ Below W.heap.size W w') := fun W hb => by
      have := month_at (B ((bg j).take n.toNat)) W (T.below hb).nm (by rw [B_size]; omega)
      rw [L_B, t1] at this
      exact this
    have M2 : Hid (∀ W, Below w.heap.size w W → Calls Tryd.prog 16 #[.string (B (((bg j).take n.toNat).map fld))] W fun e w' => e = .returned (.tuple #[.int .i64 (if n < 3 then 0 else (j : Int) + 1), .bool (decide ((if n < 3 then 0 else (j : Int) + 1) ≠ 0))]) ∧ Below W.heap.size W w') := fun W hb => by
      have := month_at (B (((bg j).take n.toNat).map fld)) W (T.below hb).nm (by rw [B_size, List.length_map]; omega)
      rw [L_B, t2] at this
      exact this
    have M3 : Hid (∀ W, Below w.heap.size w W → Calls Tryd.prog 16 #[.string (B (bg j) ++ ⟨#[120]⟩)] W fun e w' => e = .returned (.tuple #[.int .i64 0, .bool false]) ∧ Below W.heap.size W w') := fun W hb => by
      have := month_at (B (bg j) ++ ⟨#[120]⟩) W (T.below hb).nm (by rw [show B (bg j) ++ ⟨#[120]⟩ = B (bg j ++ [120]) from B_app _ _, B_size, List.length_append, List.length_singleton]; omega)
      rw [L_app, L_B, show L ⟨#[120]⟩ = [120] from rfl, t3] at this
      exact this
    have FO : Hid (∀ W, Calls Tryd.prog 15 #[.string (B ((bg j).take n.toNat))] W fun e w' => e = .returned (.string (B (((bg j).take n.toNat).map fld))) ∧ Below W.heap.size W w') := fun W => by
      have := lines.fold_at (B ((bg j).take n.toNat)) W (by rw [B_size]; omega)
      unfold foldS at this
      rw [L_B] at this
      exact this
    have SL : n < ((B (bg j)).size : Nat) → ∀ W, (Instr.slice 9 (.string (B (bg j))) none (some (.int .i64 n)) none).run Tryd.prog W = .ok (.string (B ((bg j).take n.toNat))) W := fun h W => sl_to W (bg j) n.toNat n (by omega) (by omega)
    have AL : ¬ n < ((B (bg j)).size : Nat) → B ((bg j).take n.toNat) = B (bg j) := fun h => by rw [List.take_of_length_le (by omega)]
    have wm : IntKind.i64.wrap ((j : Int) + 1 - 1) = (j : Int) := (IntWalk.i64_in _ (by omega)).trans (by omega)
    have ba := big_at j hj
    have gl : (9223372036854775807 < (B (bg j)).size + 1) = False := by simp; omega
    have CC := Lib.hid (fun w1 W' hb => big_cell w1 W' j hj hb)
    have n0 : 0 ≤ n := g.2.2
    clear t1 t2 t3 T h9 htk g hsz
    generalize B (bg j) = Y at *
    generalize B (((bg j).take n.toNat).map fld) = Z at *
    by_cases hl : n < (Y.size : Nat)
    · have sl := SL hl
      clear SL AL
      generalize B ((bg j).take n.toNat) = X at *
      by_cases h3 : n < 3
      · rw [if_pos h3] at M1 M2
        go_enter Tryd.func6, Tryd.ntmps6
        go_wp2_with (first
          | (go_at_call 7; with_reducible refine (SM.out _ hA).mono ?_; rintro e w1 ⟨rfl, hb1⟩; have hA := bal (btr hA hb1) (.cells #[.string ⟨#[74, 97, 110, 117, 97, 114, 121]⟩, .string ⟨#[70, 101, 98, 114, 117, 97, 114, 121]⟩, .string ⟨#[77, 97, 114, 99, 104]⟩, .string ⟨#[65, 112, 114, 105, 108]⟩, .string ⟨#[77, 97, 121]⟩, .string ⟨#[74, 117, 110, 101]⟩, .string ⟨#[74, 117, 108, 121]⟩, .string ⟨#[65, 117, 103, 117, 115, 116]⟩, .string ⟨#[83, 101, 112, 116, 101, 109, 98, 101, 114]⟩, .string ⟨#[79, 99, 116, 111, 98, 101, 114]⟩, .string ⟨#[78, 111, 118, 101, 109, 98, 101, 114]⟩, .string ⟨#[68, 101, 99, 101, 109, 98, 101, 114]⟩] 9); have c1 := CC.out w1 _ (Below.refl _ _))
          | (go_at_call 15; with_reducible refine (FO.out _).mono ?_; rintro e w3 ⟨rfl, hb3⟩; have hb3 := btr hb2 hb3)
          | (go_at_call 16; first
            | (with_reducible refine (M1.out _ hA).mono ?_; rintro e w2 ⟨rfl, hb2⟩; clear M1)
            | (with_reducible refine (M2.out _ (btr hA hb3)).mono ?_; rintro e w4 ⟨rfl, hb4⟩; have hb4 := btr hb3 hb4; have c4 := CC.out w1 w4 hb4; clear M2)
            | (with_reducible refine (M3.out _ (btr hA hb4)).mono ?_; rintro e w5 ⟨rfl, hb5⟩; have hb5 := btr hA (btr hb4 hb5))))
        go_ret
        exact ⟨rfl, hb5⟩
      · rw [if_neg h3, decide_eq_true (show (j : Int) + 1 ≠ 0 by omega)] at M1 M2
        go_enter Tryd.func6, Tryd.ntmps6
        go_wp2_with (first
          | (go_at_call 7; with_reducible refine (SM.out _ hA).mono ?_; rintro e w1 ⟨rfl, hb1⟩; have hA := bal (btr hA hb1) (.cells #[.string ⟨#[74, 97, 110, 117, 97, 114, 121]⟩, .string ⟨#[70, 101, 98, 114, 117, 97, 114, 121]⟩, .string ⟨#[77, 97, 114, 99, 104]⟩, .string ⟨#[65, 112, 114, 105, 108]⟩, .string ⟨#[77, 97, 121]⟩, .string ⟨#[74, 117, 110, 101]⟩, .string ⟨#[74, 117, 108, 121]⟩, .string ⟨#[65, 117, 103, 117, 115, 116]⟩, .string ⟨#[83, 101, 112, 116, 101, 109, 98, 101, 114]⟩, .string ⟨#[79, 99, 116, 111, 98, 101, 114]⟩, .string ⟨#[78, 111, 118, 101, 109, 98, 101, 114]⟩, .string ⟨#[68, 101, 99, 101, 109, 98, 101, 114]⟩] 9); have c1 := CC.out w1 _ (Below.refl _ _))
          | (go_at_call 15; with_reducible refine (FO.out _).mono ?_; rintro e w3 ⟨rfl, hb3⟩; have hb3 := btr hb2 hb3)
          | (go_at_call 16; first
            | (with_reducible refine (M1.out _ hA).mono ?_; rintro e w2 ⟨rfl, hb2⟩; clear M1)
            | (with_reducible refine (M2.out _ (btr hA hb3)).mono ?_; rintro e w4 ⟨rfl, hb4⟩; have hb4 := btr hb3 hb4; have c4 := CC.out w1 w4 hb4; clear M2)
            | (with_reducible refine (M3.out _ (btr hA hb4)).mono ?_; rintro e w5 ⟨rfl, hb5⟩; have hb5 := btr hA (btr hb4 hb5))))
        go_ret
        exact ⟨rfl, hb5⟩
    · have al := AL hl
      rw [al] at M1 FO
      clear SL AL al
      by_cases h3 : n < 3
      · rw [if_pos h3] at M1 M2
        go_enter Tryd.func6, Tryd.ntmps6
        go_wp2_with (first
          | (go_at_call 7; with_reducible refine (SM.out _ hA).mono ?_; rintro e w1 ⟨rfl, hb1⟩; have hA := bal (btr hA hb1) (.cells #[.string ⟨#[74, 97, 110, 117, 97, 114, 121]⟩, .string ⟨#[70, 101, 98, 114, 117, 97, 114, 121]⟩, .string ⟨#[77, 97, 114, 99, 104]⟩, .string ⟨#[65, 112, 114, 105, 108]⟩, .string ⟨#[77, 97, 121]⟩, .string ⟨#[74, 117, 110, 101]⟩, .string ⟨#[74, 117, 108, 121]⟩, .string ⟨#[65, 117, 103, 117, 115, 116]⟩, .string ⟨#[83, 101, 112, 116, 101, 109, 98, 101, 114]⟩, .string ⟨#[79, 99, 116, 111, 98, 101, 114]⟩, .string ⟨#[78, 111, 118, 101, 109, 98, 101, 114]⟩, .string ⟨#[68, 101, 99, 101, 109, 98, 101, 114]⟩] 9); have c1 := CC.out w1 _ (Below.refl _ _))
          | (go_at_call 15; with_reducible refine (FO.out _).mono ?_; rintro e w3 ⟨rfl, hb3⟩; have hb3 := btr hb2 hb3)
          | (go_at_call 16; first
            | (with_reducible refine (M1.out _ hA).mono ?_; rintro e w2 ⟨rfl, hb2⟩; clear M1)
            | (with_reducible refine (M2.out _ (btr hA hb3)).mono ?_; rintro e w4 ⟨rfl, hb4⟩; have hb4 := btr hb3 hb4; have c4 := CC.out w1 w4 hb4; clear M2)
            | (with_reducible refine (M3.out _ (btr hA hb4)).mono ?_; rintro e w5 ⟨rfl, hb5⟩; have hb5 := btr hA (btr hb4 hb5))))
        go_ret
        exact ⟨rfl, hb5⟩
      · rw [if_neg h3, decide_eq_true (show (j : Int) + 1 ≠ 0 by omega)] at M1 M2
        go_enter Tryd.func6, Tryd.ntmps6
        go_wp2_with (first
          | (go_at_call 7; with_reducible refine (SM.out _ hA).mono ?_; rintro e w1 ⟨rfl, hb1⟩; have hA := bal (btr hA hb1) (.cells #[.string ⟨#[74, 97, 110, 117, 97, 114, 121]⟩, .string ⟨#[70, 101, 98, 114, 117, 97, 114, 121]⟩, .string ⟨#[77, 97, 114, 99, 104]⟩, .string ⟨#[65, 112, 114, 105, 108]⟩, .string ⟨#[77, 97, 121]⟩, .string ⟨#[74, 117, 110, 101]⟩, .string ⟨#[74, 117, 108, 121]⟩, .string ⟨#[65, 117, 103, 117, 115, 116]⟩, .string ⟨#[83, 101, 112, 116, 101, 109, 98, 101, 114]⟩, .string ⟨#[79, 99, 116, 111, 98, 101, 114]⟩, .string ⟨#[78, 111, 118, 101, 109, 98, 101, 114]⟩, .string ⟨#[68, 101, 99, 101, 109, 98, 101, 114]⟩] 9); have c1 := CC.out w1 _ (Below.refl _ _))
          | (go_at_call 15; with_reducible refine (FO.out _).mono ?_; rintro e w3 ⟨rfl, hb3⟩; have hb3 := btr hb2 hb3)
          | (go_at_call 16; first
            | (with_reducible refine (M1.out _ hA).mono ?_; rintro e w2 ⟨rfl, hb2⟩; clear M1)
            | (with_reducible refine (M2.out _ (btr hA hb3)).mono ?_; rintro e w4 ⟨rfl, hb4⟩; have hb4 := btr hb3 hb4; have c4 := CC.out w1 w4 hb4; clear M2)
            | (with_reducible refine (M3.out _ (btr hA hb4)).mono ?_; rintro e w5 ⟨rfl, hb5⟩; have hb5 := btr hA (btr hb4 hb5))))
        go_ret
        exact ⟨rfl, hb5⟩
  · clear T
    rcases (show m < 1 ∨ (1 ≤ m ∧ 12 < m) ∨ (1 ≤ m ∧ m ≤ 12 ∧ n < 0) by omega) with h | h | h
    all_goals
      go_enter Tryd.func6, Tryd.ntmps6
      go_wp2_with (go_at_call 7; with_reducible refine (SM.out _ hA).mono ?_; rintro e w1 ⟨rfl, hb1⟩; have hA := btr hA hb1)
      go_ret
      exact ⟨rfl, hA⟩
set_option maxRecDepth 100000 in
theorem lifted (os : Os) (started : os.Started) (H : Type) (enc : TypeId × Value → H) :
    ReturnsInHanded {} Tryd.checked os 6 .any (fun w args => (Rows.zicMonthsSpec.pre enc Tryd.prog Tryd.f6 [] false w args ∧ laidMetH Tryd.prog Rows.zicMonthsRow.laid w) ∧ sizedMet enc Tryd.prog Tryd.f6 (OpenSpec.ofChange Rows.zicMonthsSpec) false w args)
      (Rows.zicMonthsSpec.post enc Tryd.prog Tryd.f6 false true false false) := by
  refine both.handed_both (C := Tryd.checked) (X := fun w _ => laidMetH Tryd.prog Rows.zicMonthsRow.laid w) (fun _ _ _ hh h => h.of_heap hh) law.own started (by kernel_rfl) Tryd.func6
    (ChangeSpec.witness_shaped (enc := enc) (C := Tryd.checked) (os := os) (X := fun w _ => laidMetH Tryd.prog Rows.zicMonthsRow.laid w) false (World.laidAll Tryd.prog os Rows.zicMonthsRow.laid) #[.int .i64 0, .int .i64 0] 8 (World.laidAll_os _ _ _) (World.shaped_of_ZipB (by kernel_rfl) (by kernel_rfl)) (by kernel_rfl) (by kernel_rfl) (by kernel_rfl) (by rw [MakeChecks.laidMetH_plain _ _ _ (by kernel_rfl)]; exact laidMet_laidAll _ (by kernel_rfl) (by kernel_rfl))) ?_
  intro W base args ds gs before hval0 hW _ _ hL hsh _
  rw [MakeChecks.laidMetH_plain _ _ _ (by kernel_rfl)] at hL
  have T0 := zic.all_of hL (by repeat first | exact List.Mem.head _ | refine List.Mem.tail _ ?_) (by repeat first | exact List.Mem.head _ | refine List.Mem.tail _ ?_) (by repeat first | exact List.Mem.head _ | refine List.Mem.tail _ ?_) (by repeat first | exact List.Mem.head _ | refine List.Mem.tail _ ?_) hsh
  have hval : ∀ (j : Nat) t v, Tryd.f6.params[j]? = some t → args[j]? = some v → Value.okWide Tryd.prog W .any base t v := hval0
  have hW' := hW
  obtain ⟨p, q, hA0, hV, rfl, hfz, hnd⟩ := hW
  have hA : DataW.TrodAll enc Tryd.prog W 0 (fun _ => true) true Tryd.f6.params.toList args.toList ds p := hA0
  rw [Tryd.params6] at hA hval
  obtain ⟨v0, vs0, d0, ds0, p0, q0, hargs, rfl, rfl, h0, r0⟩ := trodAll_cons hA
  obtain ⟨v1, vs1, d1, ds1, p1, q1, rfl, rfl, rfl, h1, r1⟩ := trodAll_cons r0
  obtain ⟨rfl, rfl, rfl⟩ := trodAll_nil r1
  obtain rfl : args = #[v0, v1] := by cases args; simp_all
  obtain ⟨rfl, rfl⟩ := trodVars_none hV
  clear hA0 hval0
  obtain ⟨a0, rfl, hd0, hp0, w0⟩ := open_int Tryd.underlying3 (hval 0 3 v0 rfl rfl) h0
  obtain ⟨a1, rfl, hd1, hp1, w1⟩ := open_int Tryd.underlying3 (hval 1 3 v1 rfl rfl) h1
  refine (Calls.mono (R := fun e w' => e = .returned (.bool true) ∧ Below W.heap.size W w') ?_ fun e W' ⟨he, hb⟩ => ?_)
  · exact walk a0 (bounds_i64 w0) a1 (bounds_i64 w1) W T0
  · subst he
    exact ⟨_, rfl, law.post law.laidOut (by kernel_rfl) rfl rfl Tryd.underlying4 rfl hW' hb⟩

theorem over : Rows.zicMonthsRow.holds Tryd.pinned (OpenSpec.ofChange Rows.zicMonthsSpec) :=
  OpenClaim.holds_of_wide 6 Tryd.f6 rfl rfl rfl rfl rfl rfl rfl ⟨rfl, rfl, rfl, rfl, rfl⟩ rfl rfl rfl rfl rfl (by kernel_rfl) Tryd.func6 (by kernel_rfl)
    (of_decide_eq_true (by kernel_rfl)) (by unfold Func.isWrapper; first | (rw [if_pos (by decide +kernel)]; kernel_rfl) | (rw [if_neg (by decide +kernel)]; exact ⟨rfl, rfl⟩))
    (fun os started H enc _ => lifted os started H enc)

theorem proved : Rows.ZicMonthsCardSaid :=
  Claim7.holds_tied_plain_at .later [] _ _ _ _ over (fun _ h => by cases h) (by kernel_rfl) (fun _ h => by cases h) zicMonths_row_tie rfl ⟨rfl, rfl⟩ (by kernel_rfl) rfl
    (fun f fn hf hfn => by
      obtain rfl : f = 6 := Option.some.inj ((show Tryd.prog.funcNamed "epact/epactlaw11.ZicMonths" = some 6 by kernel_rfl).symm.trans hf) |>.symm
      obtain rfl : fn = Tryd.f6 := (Option.some.inj (Tryd.func6.symm.trans hfn)).symm
      exact ⟨by kernel_rfl, fun j t ht => by
        have hall : (Tryd.f6.params.toList.all fun u => !Tryd.prog.wantsStandIn u) = true := by kernel_rfl
        have hm : t ∈ Tryd.f6.params.toList := by rw [Array.mem_toList_iff]; exact Array.mem_of_getElem? ht
        exact (show Tryd.prog.wantsStandIn t = false by simpa using List.all_eq_true.1 hall t hm)⟩)
    (by kernel_rfl)
end Go.Proofs.YtajfblfkohemeaaDoor.zicMonths
