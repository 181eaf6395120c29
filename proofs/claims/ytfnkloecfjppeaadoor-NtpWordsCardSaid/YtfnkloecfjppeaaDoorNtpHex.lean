/-
  What the library's FormatUint answers at base 16: the digits of a number below 2^32, with no noughts ahead. Condition: the library's table deBruijn64tab holds 4 at its place 15.
-/
import Derived.Test.YtfnkloecfjppeaaDoorNtpMath
import Derived.Test.YtfnkloecfjppeaaDoorNtpNum
import Derived.Test.YtfnkloecfjppeaaDoorShaApp
namespace Go.Proofs.YtfnkloecfjppeaaDoor.ntp
open Go.ChangeShapes Go.WideShapes Go.ChangeAt Go.RowKit
open lx nx sx
open sha (hd hp_new hp_old row_cell row_set szc kept bal btr add_at szb)
set_option linter.unusedVariables false

/-- the library's table of places. -/
def Tz (w : World) : Prop := w.cell? ⟨3, 15, none⟩ = some (.int .u8 4)
theorem Tz.below {w W : World} (h : Tz w) (hb : Below w.heap.size w W) : Tz W := (hb.cell (World.block_lt_of_cell? w _ h)).trans h
theorem tz64 (w : World) (T : Tz w) : Calls Tryd.prog 55 #[.int .u64 16] w fun e w' => e = .returned (.int .i64 4) ∧ w = w' := by
  unfold Tz at T
  have h1 : IntKind.u64.wrap (-16) = 18446744073709551600 := by decide
  have h2 : bits .and .u64 16 18446744073709551600 = 16 := by decide +kernel
  have h3 : IntKind.u64.wrap (16 * 285870213051353865) = 4573923408821661840 := by decide +kernel
  go_enter Tryd.func55, Tryd.ntmps55
  go_wp2
  go_ret
  exact ⟨rfl, rfl⟩
theorem tz (w : World) (T : Tz w) : Calls Tryd.prog 52 #[.int .u64 16] w fun e w' => e = .returned (.int .i64 4) ∧ w = w' := by
  have C := Lib.hid (tz64 w T)
  go_enter Tryd.func52, Tryd.ntmps52
  go_wp2_with (go_at_call 55; (with_reducible refine C.out.mono ?_); rintro e w' ⟨rfl, rfl⟩)
  go_ret
  exact ⟨rfl, rfl⟩
theorem pow2 (w : World) : Calls Tryd.prog 51 #[.int .i64 16] w fun e w' => e = .returned (.bool true) ∧ w = w' := by
  go_enter Tryd.func51, Tryd.ntmps51
  go_wp2
  go_ret
  exact ⟨rfl, rfl⟩

/-! formatBits -/
def z65 : Array Value := cs .u8 (fun _ => 0) 65
theorem zv65 : ∀ w, (zeroValue 81).run Tryd.prog w = .ok (.agg z65) w :=
  (zero_of_info (P := Tryd.prog) (t := 81) (v := .agg z65) (n := 65) (by kernel_rfl)).1
/-- the bytes of the array when so many digits are laid. -/
def fb (n j p : Nat) : Nat := if p < 65 - j then 0 else (hd (n / 16 ^ (64 - p) % 16)).toNat
theorem fb_zero (n : Nat) : cs .u8 (fb n 0) 65 = z65 := cs_congr _ _ _ _ fun p hp => if_pos (by omega)
theorem fb_set (n j : Nat) (hj : j < 65) (v : Value) (hv : v = .int .u8 ((hd (n / 16 ^ j % 16)).toNat : Nat)) : (cs .u8 (fb n j) 65).setIfInBounds (64 - j) v = cs .u8 (fb n (j + 1)) 65 := by
  refine cs_set _ _ _ _ _ _ ?_ (fun p hp hne => ?_)
  · rw [hv]
    unfold fb
    rw [if_neg (by omega), show 64 - (64 - j) = j by omega]
  · unfold fb
    by_cases h : p < 65 - j
    · rw [if_pos h, if_pos (by omega)]
    · rw [if_neg h, if_neg (by omega)]
/-- what is read of it from a place on. -/
theorem fb_text (n : Nat) : ∀ k i (c : UInt8), k ≤ 65 → (hk k n)[i]? = some c → fb n k (65 - k + i) = c.toNat := by
  intro k i c hk65 h
  have hl := hk_len k n
  have hi : i < k := by have := (List.getElem?_eq_some_iff.1 h).1; omega
  rw [hk_get k n i hi] at h
  cases h
  unfold fb
  rw [if_neg (by omega), show 64 - (65 - k + i) = k - 1 - i by omega]
theorem sl65 (B i : Nat) (z : Int) (hz0 : z = (i : Nat)) (h : i < 65) (W : World) : (Instr.sliceAt 81 (.pointer (some ⟨B, 0, none⟩)) (some (.int .i64 z)) none none).run Tryd.prog W = .ok (.slice (some ⟨B, i, none⟩) (65 - i) (65 - i)) W := by
  subst hz0
  have hz : ∀ w, (sizeOf 5).run Tryd.prog w = .ok 1 w := fun w => by
    cases hq : Tryd.prog.info? 5 with
    | none => have := szb; simp [hq] at this
    | some i => have := szb; simp [hq] at this; simp [sizeOf, typeInfo, hq, this]
  have h1 : ¬ 65 = i := by omega
  have h2 : i ≤ 65 := by omega
  simp [Instr.sliceAt, run_underlying Tryd.underlying81, Instr.sureAddr, Instr.sliceBounds, Instr.sliceBound, asIntOf, hz, h1, h2, add_at]
theorem digs36 (p : Nat) (hp : p < 16) (h : p < (⟨#[48, 49, 50, 51, 52, 53, 54, 55, 56, 57, 97, 98, 99, 100, 101, 102, 103, 104, 105, 106, 107, 108, 109, 110, 111, 112, 113, 114, 115, 116, 117, 118, 119, 120, 121, 122]⟩ : ByteArray).size) : ((⟨#[48, 49, 50, 51, 52, 53, 54, 55, 56, 57, 97, 98, 99, 100, 101, 102, 103, 104, 105, 106, 107, 108, 109, 110, 111, 112, 113, 114, 115, 116, 117, 118, 119, 120, 121, 122]⟩ : ByteArray)[p]'h).toNat = (hd p).toNat := by
  rcases sixteen hp with rfl | rfl | rfl | rfl | rfl | rfl | rfl | rfl | rfl | rfl | rfl | rfl | rfl | rfl | rfl | rfl <;> rfl
theorem pow_pos16 (j : Nat) : 0 < 16 ^ j := Nat.pow_pos (by decide)
theorem more {n j : Nat} (hn : n < 4294967296) (h : 16 ≤ n / 16 ^ j) : j + 1 < nd n ∧ n / 16 ^ j / 16 = n / 16 ^ (j + 1) := by
  refine ⟨?_, by rw [Nat.div_div_eq_div_mul, Nat.pow_succ]⟩
  have h1 : 16 ^ (j + 1) ≤ n := by
    rw [Nat.pow_succ, Nat.mul_comm]
    exact (Nat.le_div_iff_mul_le (pow_pos16 j)).1 h
  exact (Nat.pow_lt_pow_iff_right (by decide : 1 < 16)).1 (Nat.lt_of_le_of_lt h1 (nd_lt hn))
theorem last {n j : Nat} (hj : j < nd n) (h : ¬ 16 ≤ n / 16 ^ j) : j + 1 = nd n := by
  rcases Nat.lt_or_ge (j + 1) (nd n) with k | k
  · exfalso
    apply h
    rw [Nat.le_div_iff_mul_le (pow_pos16 j), Nat.mul_comm, ← Nat.pow_succ]
    exact Nat.le_trans (Nat.pow_le_pow_right (by decide) (by omega)) (nd_ge (by omega))
  · omega
def FHead (n : Nat) (w : World) (u i : Value) (W : World) : Prop :=
  ∃ j q : Nat, j + q = 65 ∧ j < nd n ∧ u = .int .u64 ((n / 16 ^ j : Nat) : Int) ∧ i = .int .i64 (q : Nat) ∧ W = w.alloc (.cells (cs .u8 (fb n j) 65) 81)
/-- the text of the digits that are laid. -/
theorem text_of (W : World) (n k q : Nat) (h : k + q = 65) (hk1 : 1 ≤ k) : (convert 36 9 (.slice (some ⟨W.heap.size, q, none⟩) (65 - q) (65 - q))).run Tryd.prog (W.alloc (.cells (cs .u8 (fb n k) 65) 81)) = .ok (.string (B (hk k n))) (W.alloc (.cells (cs .u8 (fb n k) 65) 81)) := by
  have hl := hk_len k n
  have r : sha.RdW (W.alloc (.cells (cs .u8 (fb n k) 65) 81)) (.slice (some ⟨W.heap.size, q, none⟩) (65 - q) (65 - q)) ((hk k n).map (·.toNat)) := by
    refine ⟨_, _, by rw [List.length_map, hl, show 65 - q = k by omega], by rw [List.length_map]; omega, (fun e => by cases e), fun _ => ⟨W.heap.size, q, rfl, fun i hi => ?_⟩⟩
    rw [List.length_map] at hi
    rw [row_cell (hp_new W _) (q + i) _ (cs_get .u8 (fb n k) 65 (q + i) (by omega))]
    have := fb_text n k i ((hk k n)[i]) (by omega) (List.getElem?_eq_getElem hi)
    rw [show 65 - k + i = q + i by omega] at this
    rw [this, List.getElem_map]
  rw [sha.str_of r]
  congr 2
  unfold sha.strN strOfNums B
  congr 1
  rw [List.map_map, List.map_map]
  congr 1
  conv => rhs; rw [← List.map_id (hk k n)]
  apply List.map_congr_left
  intro c _
  simp
set_option maxHeartbeats 2000000 in
theorem bits_any (n : Nat) (w : World) (hn : n < 4294967296) (T : Tz w) : Calls Tryd.prog 43 #[.slice none 0 0, .int .u64 (n : Nat), .int .i64 16, .bool false, .bool false] w fun e w' => e = .returned (.tuple #[.slice none 0 0, .string (B (hk (nd n) n))]) ∧ Below w.heap.size w w' := by
  have Z := zv65
  have TZ := Lib.hid (fun W hb => tz W (T.below hb))
  have P2 := Lib.hid pow2
  go_enter Tryd.func43, Tryd.ntmps43
  go_wp2_with (first
    | (go_at_call 51; (with_reducible refine (P2.out _).mono ?_); rintro e w' ⟨rfl, rfl⟩)
    | (go_at_call 52; (with_reducible refine (TZ.out _ (bal (Below.refl _ _) _)).mono ?_); rintro e w' ⟨rfl, rfl⟩))
  go_loopw [1, 13] (fun u i W => FHead n w u i W) (fun u _ _ => (intOf u).toNat)
  case atStart => exact ⟨0, 65, rfl, by have := (nd_bd n).1; omega, by simp, rfl, by rw [fb_zero]⟩
  case round =>
    obtain ⟨j, q, hq, hj, rfl, rfl, rfl⟩ := hrel
    have hj8 := (nd_bd n).2
    have hu : n / 16 ^ j < 4294967296 := Nat.lt_of_le_of_lt (Nat.div_le_self _ _) hn
    have c1 := cs_get .u8 (fb n j) 65 (q - 1) (by omega)
    have hdg := digs36 (n / 16 ^ j % 16) (Nat.mod_lt _ (by decide))
    have ST := Lib.hid (fb_set n j (by omega) _ rfl)
    rw [show 64 - j = q - 1 by omega] at ST
    by_cases hlt : 16 ≤ n / 16 ^ j
    · have ha : bits .and .u64 ((n / 16 ^ j : Nat) : Int) 15 = ((n / 16 ^ j % 16 : Nat) : Int) := by
        rw [show (15 : Int) = ((15 : Nat) : Int) from rfl, u64_and_nat _ _ (by omega) (by omega), show (15 : Nat) = 2 ^ 4 - 1 from rfl, Nat.and_two_pow_sub_one_eq_mod]
      obtain ⟨r1, r2⟩ := more hn hlt
      have R : Hid (FHead n w (.int .u64 ((n / 16 ^ j : Nat) / 16 : Int)) (.int .i64 ((q : Int) - 1)) (w.alloc (.cells (cs .u8 (fb n (j + 1)) 65) 81))) :=
        ⟨j + 1, q - 1, by omega, r1, by rw [← r2, Int.natCast_ediv]; rfl, by congr 1; omega, rfl⟩
      clear r1 r2
      generalize (n / 16 ^ j) = u at *
      go_wp2
      rw [ST.out]
      go_wp2
      go_roundw
      case rel => exact R.out
      case measure => simp [intOf]; omega
    · have e1 := last hj hlt
      rw [Nat.mod_eq_of_lt (by omega)] at hdg ST
      have hsl := fun W => sl65 w.heap.size (q - 1) ((q : Int) - 1) (by omega) (by omega) W
      have hcv := text_of w n (j + 1) (q - 1) (by omega) (by omega)
      rw [e1] at hcv ST
      have HB : Hid (Below w.heap.size w (w.alloc (.cells (cs .u8 (fb n (nd n)) 65) 81))) := bal (Below.refl _ _) _
      clear e1
      generalize (n / 16 ^ j) = u at *
      go_wp2
      rw [ST.out]
      go_wp2
      rw [hcv]
      simp only [Result.andThen]
      rw [Oper.upon_value]
      go_wp2
      go_ret2
      exact ⟨rfl, HB.out⟩
theorem format_in (n : Nat) (w : World) (hn : n < 4294967296) (T : Tz w) : Calls Tryd.prog 34 #[.int .u64 (n : Nat), .int .i64 16] w fun e w' => e = .returned (.string (B (hk (nd n) n))) ∧ Below w.heap.size w w' := by
  have C := Lib.hid (bits_any n w hn T)
  go_enter Tryd.func34, Tryd.ntmps34
  go_wp2_with (go_at_call 43; (with_reducible refine C.out.mono ?_); rintro e w1 ⟨rfl, hb⟩)
  go_ret
  exact ⟨rfl, hb⟩
theorem format_any (n : Nat) (w : World) (hn : n < 4294967296) (T : Tz w) : Calls Tryd.prog 28 #[.int .u64 (n : Nat), .int .i64 16] w fun e w' => e = .returned (.string (B (hk (nd n) n))) ∧ Below w.heap.size w w' := by
  have C := Lib.hid (format_in n w hn T)
  go_enter Tryd.func28, Tryd.ntmps28
  go_wp2_with (go_at_call 34; (with_reducible refine C.out.mono ?_); rintro e w1 ⟨rfl, hb⟩)
  go_ret
  exact ⟨rfl, hb⟩
end Go.Proofs.YtfnkloecfjppeaaDoor.ntp
