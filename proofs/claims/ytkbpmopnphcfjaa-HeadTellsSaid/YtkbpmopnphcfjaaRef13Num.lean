/-
  What the document's own reader of bytes answers as a number. Conditions: the reader is such as its Open made, and has nothing left where it has failed.
-/
import Derived.Test.YtkbpmopnphcfjaaRef13Read
namespace Go.Proofs.Ytkbpmopnphcfjaa.ref13
open Go.ChangeShapes Go.WideShapes Go.ChangeAt Go.RowKit
open om mem oct
set_option linter.unusedVariables false
set_option maxRecDepth 100000

theorem or_u64 (X x : Nat) (hX : X < 72057594037927936) (hx : x < 256) : bits .or .u64 ((X : Int) * 256) (x : Int) = ((X * 256 + x : Nat) : Int) := by
  rw [show ((X : Int) * 256) = ((2 ^ 8 * X : Nat) : Int) by omega, u64_or_nat _ _ (by omega) (by omega), ← Nat.two_pow_add_eq_or_of_lt (by omega)]
  omega
theorem val_take_lt (p : List Nat) (hp : Bys p) (k : Nat) (hk : k < p.length) (h8 : p.length ≤ 8) : val (p.take k) 0 < 72057594037927936 := by
  have := val_lt (p.take k) (hp.take k)
  rw [List.length_take, Nat.min_eq_left (by omega)] at this
  have h2 : 256 ^ k ≤ 256 ^ 7 := Nat.pow_le_pow_right (by decide) (by omega)
  omega
theorem val_take_succ (p : List Nat) (k : Nat) (hk : k < p.length) : val (p.take k) 0 * 256 + p[k] = val (p.take (k + 1)) 0 := by
  rw [List.take_succ_eq_append_getElem hk, val_snoc]
def NHead (p : List Nat) (t i : Value) : Prop := ∃ k : Nat, k ≤ p.length ∧ t = .int .u64 (val (p.take k) 0 : Nat) ∧ i = .int .i64 (k : Nat)
theorem pre_len_le (z : Int) (l : List Nat) (hz : Sz z) : (pre z l).length = 0 ∨ ((pre z l).length : Int) = z := by
  by_cases h : okB z l = true
  · right
    have := ok_iff.1 h
    rw [pre_yes h, List.length_take]
    omega
  · left
    rw [pre_no (by simpa using h)]; rfl
theorem ret_i2 {a b : Int} (h : a = b) : Ending.returned (.int .i64 a) = .returned (.int .i64 b) := by rw [h]
set_option maxHeartbeats 4000000 in
theorem num_at (lo hi : Nat) (W : World) (g : Nat) (l : List Nat) (f : Bool) (z : Int) (h : Rdr 57 lo hi W g l f) (hf : f = true → l = []) (hz : I64 z) (hl : l.length < 2000000000000) (hb : Bys l) : Calls Try.prog 25 #[.pointer (some ⟨g, 0, none⟩), .int .i64 z] W (NumTold 57 lo hi W g l f z) := by
  by_cases hs : Sz z
  · have TK := Lib.hid (take_at lo hi W g l f z h hf hz hl)
    have P8 := pre_len_le z l hs
    have PB := pre_bys (n := z) hb
    have R : Hid (∀ w1, Rdr 57 lo hi w1 g (rst z l) (fl z l f) → Keep g W w1 → NumTold 57 lo hi W g l f z (.returned (.int .i64 (rd (pre z l)))) w1) := Lib.hid fun w1 hr hk => by
      unfold NumTold
      rw [nz_yes hs]
      exact ⟨rfl, hr, hk⟩
    have TK2 : Hid (Calls Try.prog 36 #[.pointer (some ⟨g, 0, none⟩), .int .i64 z] W fun e w1 => ∃ A c, e = .returned (.slice A (pre z l).length c) ∧ (pre z l ≠ [] → ∃ b o, A = some ⟨b, o, none⟩ ∧ ∀ k (h : k < (pre z l).length), w1.cell? ⟨b, o + k, none⟩ = some (.int .u8 ((pre z l)[k] : Nat))) ∧ (pre z l).length ≤ c ∧ NumTold 57 lo hi W g l f z (.returned (.int .i64 (rd (pre z l)))) w1) := Lib.hid (TK.out.mono fun e w1 ⟨v1, he, ho, hr, hk⟩ => by
      obtain ⟨A, c, e2, hc, _, hcells⟩ := (own_by ho).rd
      exact ⟨A, c, by rw [he, e2], hcells, hc, R.out w1 hr hk⟩)
    have HRD := rd (pre z l)
    clear h hf TK R hb HRD
    have vlt := val_lt (pre z l) PB
    have rdef : rd (pre z l) = if (pre z l).length = 8 then (((val (pre z l) 0 : Nat) : Int) + 9223372036854775808) % 18446744073709551616 - 9223372036854775808 else if (pre z l).length = 4 then (((val (pre z l) 0 : Nat) : Int) + 2147483648) % 4294967296 - 2147483648 else if (pre z l).length = 1 then ((val (pre z l) 0 : Nat) : Int) else 0 := by unfold rd; rfl
    have rnil : (pre z l).length = 0 → val (pre z l) 0 = 0 := fun e => by rw [List.eq_nil_of_length_eq_zero e]; rfl
    generalize pre z l = p at *
    generalize hrr : rd p = r at *
    clear hrr
    have HBY := Lib.hid PB
    clear PB
    rcases hs with rfl | rfl | rfl
    · have H8 : Hid (p.length ≤ 8) := Lib.hid (by omega)
      have HRD : Hid (r = ((val p 0 : Nat) : Int) ∧ val p 0 < 256) := Lib.hid (by
        rcases P8 with e | e
        · rw [rnil e, rdef, if_neg (by omega), if_neg (by omega), if_neg (by omega)]; constructor <;> omega
        · have e' : p.length = 1 := by omega
          rw [e'] at vlt
          refine ⟨?_, by omega⟩
          rw [rdef, e', if_neg (by decide), if_neg (by decide), if_pos rfl])
      clear P8 vlt rdef rnil hl hz
      go_enter Try.func25, Try.ntmps25
      go_wp2_with (go_at_call 36; (with_reducible refine TK2.out.mono ?_); rintro e w1 ⟨A1, c1, rfl, cb, hcap, nt⟩; have CB := Lib.hid cb; have NT := Lib.hid nt; clear cb nt TK2)
      go_loop [6, 7] (fun t i => NHead p t i) (fun _ i => p.length - (intOf i).toNat)
      case atStart => exact ⟨0, Nat.zero_le _, rfl, rfl⟩
      case round =>
        obtain ⟨k, hk, rfl, rfl⟩ := hrel
        have h8 := H8.out
        by_cases hlt : k < p.length
        · obtain ⟨bb, oo, rfl, hc⟩ := CB.out (List.ne_nil_of_length_pos (by omega))
          have hcell := hc k hlt
          have hx1 := HBY.out _ (List.getElem_mem hlt)
          have hX := val_take_lt p HBY.out k hlt H8.out
          have OR := or_u64 (val (p.take k) 0) p[k] hX hx1
          rw [val_take_succ p k hlt] at OR
          clear hc
          generalize hX1 : val (p.take (k + 1)) 0 = X1 at *
          generalize p[k] = x at *
          generalize val (p.take k) 0 = X at *
          have HX1 := Lib.hid hX1
          clear hX1
          go_wp2
          go_round
          case rel => exact ⟨k + 1, by omega, by rw [HX1.out], by go_num⟩
          case measure => simp [intOf]; omega
        · obtain rfl : k = p.length := by omega
          rw [List.take_length]
          have HE := Lib.hid HRD.out
          generalize val p 0 = X at *
          go_wp2
          go_ret
          obtain ⟨hr1, hr2⟩ := HE.out
          have e : wrap64 (X : Int) = r := by rw [hr1]; unfold wrap64; omega
          have nt := NT.out
          rw [← e] at nt
          exact nt
    · have H8 : Hid (p.length ≤ 8) := Lib.hid (by omega)
      have HRD : Hid (r = (((val p 0 : Nat) : Int) + 2147483648) % 4294967296 - 2147483648 ∧ val p 0 < 4294967296) := Lib.hid (by
        rcases P8 with e | e
        · rw [rnil e, rdef, if_neg (by omega), if_neg (by omega), if_neg (by omega)]; constructor <;> omega
        · have e' : p.length = 4 := by omega
          rw [e'] at vlt
          refine ⟨?_, by omega⟩
          rw [rdef, e', if_neg (by decide), if_pos rfl])
      clear P8 vlt rdef rnil hl hz
      go_enter Try.func25, Try.ntmps25
      go_wp2_with (go_at_call 36; (with_reducible refine TK2.out.mono ?_); rintro e w1 ⟨A1, c1, rfl, cb, hcap, nt⟩; have CB := Lib.hid cb; have NT := Lib.hid nt; clear cb nt TK2)
      go_loop [6, 7] (fun t i => NHead p t i) (fun _ i => p.length - (intOf i).toNat)
      case atStart => exact ⟨0, Nat.zero_le _, rfl, rfl⟩
      case round =>
        obtain ⟨k, hk, rfl, rfl⟩ := hrel
        have h8 := H8.out
        by_cases hlt : k < p.length
        · obtain ⟨bb, oo, rfl, hc⟩ := CB.out (List.ne_nil_of_length_pos (by omega))
          have hcell := hc k hlt
          have hx1 := HBY.out _ (List.getElem_mem hlt)
          have hX := val_take_lt p HBY.out k hlt H8.out
          have OR := or_u64 (val (p.take k) 0) p[k] hX hx1
          rw [val_take_succ p k hlt] at OR
          clear hc
          generalize hX1 : val (p.take (k + 1)) 0 = X1 at *
          generalize p[k] = x at *
          generalize val (p.take k) 0 = X at *
          have HX1 := Lib.hid hX1
          clear hX1
          go_wp2
          go_round
          case rel => exact ⟨k + 1, by omega, by rw [HX1.out], by go_num⟩
          case measure => simp [intOf]; omega
        · obtain rfl : k = p.length := by omega
          rw [List.take_length]
          have HE := Lib.hid HRD.out
          generalize val p 0 = X at *
          go_wp2
          go_ret
          obtain ⟨hr1, hr2⟩ := HE.out
          have e : wrap64 (wrap32 ((X : Int) % 4294967296)) = r := by rw [hr1]; unfold wrap64 wrap32; omega
          have nt := NT.out
          rw [← e] at nt
          exact nt
    · have H8 : Hid (p.length ≤ 8) := Lib.hid (by omega)
      have HRD : Hid (r = (((val p 0 : Nat) : Int) + 9223372036854775808) % 18446744073709551616 - 9223372036854775808 ∧ val p 0 < 18446744073709551616) := Lib.hid (by
        rcases P8 with e | e
        · rw [rnil e, rdef, if_neg (by omega), if_neg (by omega), if_neg (by omega)]; constructor <;> omega
        · have e' : p.length = 8 := by omega
          rw [e'] at vlt
          refine ⟨?_, by omega⟩
          rw [rdef, e', if_pos rfl])
      clear P8 vlt rdef rnil hl hz
      go_enter Try.func25, Try.ntmps25
      go_wp2_with (go_at_call 36; (with_reducible refine TK2.out.mono ?_); rintro e w1 ⟨A1, c1, rfl, cb, hcap, nt⟩; have CB := Lib.hid cb; have NT := Lib.hid nt; clear cb nt TK2)
      go_loop [6, 7] (fun t i => NHead p t i) (fun _ i => p.length - (intOf i).toNat)
      case atStart => exact ⟨0, Nat.zero_le _, rfl, rfl⟩
      case round =>
        obtain ⟨k, hk, rfl, rfl⟩ := hrel
        have h8 := H8.out
        by_cases hlt : k < p.length
        · obtain ⟨bb, oo, rfl, hc⟩ := CB.out (List.ne_nil_of_length_pos (by omega))
          have hcell := hc k hlt
          have hx1 := HBY.out _ (List.getElem_mem hlt)
          have hX := val_take_lt p HBY.out k hlt H8.out
          have OR := or_u64 (val (p.take k) 0) p[k] hX hx1
          rw [val_take_succ p k hlt] at OR
          clear hc
          generalize hX1 : val (p.take (k + 1)) 0 = X1 at *
          generalize p[k] = x at *
          generalize val (p.take k) 0 = X at *
          have HX1 := Lib.hid hX1
          clear hX1
          go_wp2
          go_round
          case rel => exact ⟨k + 1, by omega, by rw [HX1.out], by go_num⟩
          case measure => simp [intOf]; omega
        · obtain rfl : k = p.length := by omega
          rw [List.take_length]
          have HE := Lib.hid HRD.out
          generalize val p 0 = X at *
          go_wp2
          go_ret
          obtain ⟨hr1, hr2⟩ := HE.out
          have e : wrap64 (X : Int) = r := by rw [hr1]; unfold wrap64; omega
          have nt := NT.out
          rw [← e] at nt
          exact nt
  · have TK := Lib.hid (take_at lo hi W g l f (-1) h hf ⟨by decide, by decide⟩ hl)
    have R : Hid (∀ w1, Rdr 57 lo hi w1 g (rst (-1) l) (fl (-1) l f) → Keep g W w1 → NumTold 57 lo hi W g l f z (.returned (.int .i64 0)) w1) := Lib.hid fun w1 hr hk => by
      unfold NumTold
      rw [nz_no hs]
      exact ⟨by rw [pre_no (ok_neg l)]; rfl, hr, hk⟩
    have TK2 : Hid (Calls Try.prog 36 #[.pointer (some ⟨g, 0, none⟩), .int .i64 (-1)] W fun e w1 => ∃ A c, e = .returned (.slice A 0 c) ∧ NumTold 57 lo hi W g l f z (.returned (.int .i64 0)) w1) := Lib.hid (TK.out.mono fun e w1 ⟨v1, he, ho, hr, hk⟩ => by
      rw [pre_no (ok_neg l)] at ho
      obtain ⟨A, c, e2⟩ := own_len ho
      exact ⟨A, c, by rw [he, e2]; rfl, R.out w1 hr hk⟩)
    unfold Sz at hs
    obtain ⟨z1, z2⟩ := hz
    have t1 : (z != 1) = true := by simp; omega
    have t4 : (z != 4) = true := by simp; omega
    have t8 : (z != 8) = true := by simp; omega
    clear h hf TK R hb hs hl
    go_enter Try.func25, Try.ntmps25
    go_wp2_with (go_at_call 36; (with_reducible refine TK2.out.mono ?_); rintro e w1 ⟨A1, c1, rfl, nt⟩; have NT := Lib.hid nt; clear nt TK2)
    go_loop [6, 7] (fun t i => t = .int .u64 0 ∧ i = .int .i64 0) (fun _ _ => 0)
    case atStart => exact ⟨rfl, rfl⟩
    case round =>
      obtain ⟨rfl, rfl⟩ := hrel
      go_wp2
      go_ret
      exact NT.out
end Go.Proofs.Ytkbpmopnphcfjaa.ref13
