/-
  What stamp's digits, Clock, Second, Day and Text answer, where the tables of package day and the library's table of powers of ten hold what their initialisers lay. Conditions: those tables; the numbers that are said.
-/
import Derived.Test.YtiboijhfieaepaaGreatDoorStampMath
import Derived.Test.YtiboijhfieaepaaGreatDoorShelf
import Derived.Test.YtiboijhfieaepaaGreatDoorDayDate
import Derived.Lib.ItoaMem
import Derived.WalkSmall
namespace Go.Proofs.YtiboijhfieaepaaGreatDoor.stamp
open Go.ChangeShapes Go.WideShapes Go.ChangeAt Go.RowKit
open cal stx
set_option linter.unusedVariables false
set_option maxRecDepth 100000

/-- the tables, as they are laid. -/
def Tb (w : World) : Prop := day.Tabs w ∧ Lib.TabIs Tryz.prog w "internal/strconv.uint64pow10" .u64 Lib.pow10Tab
theorem gPow : Tryz.prog.globalNamed "internal/strconv.uint64pow10" = some 5 := by kernel_rfl
theorem pow_size {w : World} {cs : Array Value} (h : w.var? Tryz.prog "internal/strconv.uint64pow10" = some cs) : 5 < w.heap.size := by
  rcases Nat.lt_or_ge 5 w.heap.size with hl | hl
  · exact hl
  · exfalso
    simp [World.var?, gPow, Array.getElem?_eq_none hl] at h
theorem Tb.below {w w' : World} (T : Tb w) (hb : Below w.heap.size w w') : Tb w' :=
  ⟨T.1.below hb, var?_below hb gPow (pow_size T.2) T.2⟩
theorem below_grow (w : World) (k : Nat) (os : Array Obj) : Below w.heap.size w (Sort.grow (w.drewN k) os) :=
  (below_drewN (Below.refl _ _) k).trans ⟨rfl, rfl, rfl, by simp, fun j hj => by
    simp only [Sort.grow]
    rw [Array.getElem?_append_left (by exact hj)]⟩

/-! the library's numerals and noughts -/
theorem itoa_on {w : World} (T : Tb w) (W : World) (hb : Below w.heap.size w W) (n : Int) (h0 : 0 ≤ n) (h1 : n ≤ 9999) (a : Array UInt8) (ha : (Lib.decDigits n.toNat).toArray = a) :
    Calls Tryz.prog 58 #[.int .i64 n] W fun e w' => e = .returned (.string ⟨a⟩) ∧ Below w.heap.size w w' := by
  refine (Tryz.strconv_Itoa n (by omega) (by omega) W (T.below hb).2).mono ?_
  rintro e w' ⟨rfl, k, os, rfl⟩
  refine ⟨?_, hb.trans ((below_grow W k os).mono hb.size)⟩
  obtain ⟨m, rfl⟩ : ∃ m : Nat, n = m := ⟨n.toNat, by omega⟩
  rw [Lib.itoa_nonneg, ← ha]
  rfl
theorem rep_on {w : World} (W : World) (hb : Below w.heap.size w W) (c : Int) (h0 : 0 ≤ c) (h1 : c ≤ 3) (a : Array UInt8) (ha : (Lib.repeatL [48] c.toNat).toArray = a) :
    Calls Tryz.prog 97 #[.string ⟨#[48]⟩, .int .i64 c] W fun e w' => e = .returned (.string ⟨a⟩) ∧ Below w.heap.size w w' := by
  obtain ⟨m, rfl⟩ : ∃ m : Nat, c = m := ⟨c.toNat, by omega⟩
  refine (Tryz.strings_Repeat ⟨#[48]⟩ m W (by omega) (by show 1 * m ≤ _; omega)).mono ?_
  rintro e w' ⟨rfl, hw⟩
  exact ⟨by rw [← ha]; rfl, hb.trans (hw.mono hb.size)⟩

/-! digits -/
theorem ret_s {a b : ByteArray} (h : a = b) : Ending.returned (.string a) = .returned (.string b) := by rw [h]
theorem digits2_on {w : World} (T : Tb w) (W : World) (hb : Below w.heap.size w W) (n : Int) (h0 : 0 ≤ n) (h1 : n ≤ 99) :
    Calls Tryz.prog 82 #[.int .i64 n, .int .i64 2] W fun e w' => e = .returned (.string (d2 n)) ∧ Below w.heap.size w w' := by
  by_cases h : n < 10
  · have I := Lib.hid (fun W hb => itoa_on T W hb n (by omega) (by omega) #[dgt n.toNat] (by rw [dec1 _ (by omega)]))
    have R := Lib.hid (fun W hb => rep_on (w := w) W hb 1 (by omega) (by omega) #[48] rfl)
    have E : Hid ((⟨#[48]⟩ : ByteArray) ++ ⟨#[dgt n.toNat]⟩ = d2 n) := by
      show (⟨#[48]⟩ : ByteArray) ++ ⟨#[dgt n.toNat]⟩ = d2 n
      apply ByteArray.ext
      simp [d2, dgt_zero (show n.toNat / 10 = 0 by omega)]
    generalize dgt n.toNat = g at *
    clear T
    go_enter Tryz.func82, Tryz.ntmps82
    go_wp2_with (first
      | (go_at_call 58; with_reducible refine (I.out _ (by assumption)).mono ?_; rintro e w1 ⟨rfl, hb1⟩)
      | (go_at_call 97; with_reducible refine (R.out _ (by assumption)).mono ?_; rintro e w2 ⟨rfl, hb2⟩))
    go_ret
    exact ⟨ret_s E.out, by assumption⟩
  · have I := Lib.hid (fun W hb => itoa_on T W hb n (by omega) (by omega) #[dgt (n.toNat / 10), dgt n.toNat] (by rw [dec2 _ (by omega) (by omega)]))
    have R := Lib.hid (fun W hb => rep_on (w := w) W hb 0 (by omega) (by omega) #[] rfl)
    have E : Hid ((⟨#[]⟩ : ByteArray) ++ ⟨#[dgt (n.toNat / 10), dgt n.toNat]⟩ = d2 n) := by
      show (⟨#[]⟩ : ByteArray) ++ ⟨#[dgt (n.toNat / 10), dgt n.toNat]⟩ = d2 n
      apply ByteArray.ext
      simp [d2]
    generalize dgt n.toNat = g at *
    generalize dgt (n.toNat / 10) = g1 at *
    clear T
    go_enter Tryz.func82, Tryz.ntmps82
    go_wp2_with (first
      | (go_at_call 58; with_reducible refine (I.out _ (by assumption)).mono ?_; rintro e w1 ⟨rfl, hb1⟩)
      | (go_at_call 97; with_reducible refine (R.out _ (by assumption)).mono ?_; rintro e w2 ⟨rfl, hb2⟩))
    go_ret
    exact ⟨ret_s E.out, by assumption⟩
theorem digits4_on {w : World} (T : Tb w) (W : World) (hb : Below w.heap.size w W) (n : Int) (h0 : 0 ≤ n) (h1 : n ≤ 9999) :
    Calls Tryz.prog 82 #[.int .i64 n, .int .i64 4] W fun e w' => e = .returned (.string (d4 n)) ∧ Below w.heap.size w w' := by
  by_cases h10 : n < 10
  · have I := Lib.hid (fun W hb => itoa_on T W hb n (by omega) (by omega) #[dgt n.toNat] (by rw [dec1 _ (by omega)]))
    have R := Lib.hid (fun W hb => rep_on (w := w) W hb 3 (by omega) (by omega) #[48, 48, 48] rfl)
    have E : Hid ((⟨#[48, 48, 48]⟩ : ByteArray) ++ ⟨#[dgt n.toNat]⟩ = d4 n) := by
      show (⟨#[48, 48, 48]⟩ : ByteArray) ++ ⟨#[dgt n.toNat]⟩ = d4 n
      apply ByteArray.ext
      simp [d4, dgt_zero (show n.toNat / 10 = 0 by omega), dgt_zero (show n.toNat / 100 = 0 by omega), dgt_zero (show n.toNat / 1000 = 0 by omega)]
    generalize dgt n.toNat = g at *
    clear T
    go_enter Tryz.func82, Tryz.ntmps82
    go_wp2_with (first
      | (go_at_call 58; with_reducible refine (I.out _ (by assumption)).mono ?_; rintro e w1 ⟨rfl, hb1⟩)
      | (go_at_call 97; with_reducible refine (R.out _ (by assumption)).mono ?_; rintro e w2 ⟨rfl, hb2⟩))
    go_ret
    exact ⟨ret_s E.out, by assumption⟩
  by_cases h100 : n < 100
  · have I := Lib.hid (fun W hb => itoa_on T W hb n (by omega) (by omega) #[dgt (n.toNat / 10), dgt n.toNat] (by rw [dec2 _ (by omega) (by omega)]))
    have R := Lib.hid (fun W hb => rep_on (w := w) W hb 2 (by omega) (by omega) #[48, 48] rfl)
    have E : Hid ((⟨#[48, 48]⟩ : ByteArray) ++ ⟨#[dgt (n.toNat / 10), dgt n.toNat]⟩ = d4 n) := by
      show (⟨#[48, 48]⟩ : ByteArray) ++ ⟨#[dgt (n.toNat / 10), dgt n.toNat]⟩ = d4 n
      apply ByteArray.ext
      simp [d4, dgt_zero (show n.toNat / 100 = 0 by omega), dgt_zero (show n.toNat / 1000 = 0 by omega)]
    generalize dgt n.toNat = g at *
    generalize dgt (n.toNat / 10) = g1 at *
    clear T
    go_enter Tryz.func82, Tryz.ntmps82
    go_wp2_with (first
      | (go_at_call 58; with_reducible refine (I.out _ (by assumption)).mono ?_; rintro e w1 ⟨rfl, hb1⟩)
      | (go_at_call 97; with_reducible refine (R.out _ (by assumption)).mono ?_; rintro e w2 ⟨rfl, hb2⟩))
    go_ret
    exact ⟨ret_s E.out, by assumption⟩
  by_cases h1000 : n < 1000
  · have I := Lib.hid (fun W hb => itoa_on T W hb n (by omega) (by omega) #[dgt (n.toNat / 100), dgt (n.toNat / 10), dgt n.toNat] (by rw [dec3 _ (by omega) (by omega)]))
    have R := Lib.hid (fun W hb => rep_on (w := w) W hb 1 (by omega) (by omega) #[48] rfl)
    have E : Hid ((⟨#[48]⟩ : ByteArray) ++ ⟨#[dgt (n.toNat / 100), dgt (n.toNat / 10), dgt n.toNat]⟩ = d4 n) := by
      show (⟨#[48]⟩ : ByteArray) ++ ⟨#[dgt (n.toNat / 100), dgt (n.toNat / 10), dgt n.toNat]⟩ = d4 n
      apply ByteArray.ext
      simp [d4, dgt_zero (show n.toNat / 1000 = 0 by omega)]
    generalize dgt n.toNat = g at *
    generalize dgt (n.toNat / 10) = g1 at *
    generalize dgt (n.toNat / 100) = g2 at *
    clear T
    go_enter Tryz.func82, Tryz.ntmps82
    go_wp2_with (first
      | (go_at_call 58; with_reducible refine (I.out _ (by assumption)).mono ?_; rintro e w1 ⟨rfl, hb1⟩)
      | (go_at_call 97; with_reducible refine (R.out _ (by assumption)).mono ?_; rintro e w2 ⟨rfl, hb2⟩))
    go_ret
    exact ⟨ret_s E.out, by assumption⟩
  · have I := Lib.hid (fun W hb => itoa_on T W hb n (by omega) (by omega) #[dgt (n.toNat / 1000), dgt (n.toNat / 100), dgt (n.toNat / 10), dgt n.toNat] (by rw [dec4 _ (by omega) (by omega)]))
    have R := Lib.hid (fun W hb => rep_on (w := w) W hb 0 (by omega) (by omega) #[] rfl)
    have E : Hid ((⟨#[]⟩ : ByteArray) ++ ⟨#[dgt (n.toNat / 1000), dgt (n.toNat / 100), dgt (n.toNat / 10), dgt n.toNat]⟩ = d4 n) := by
      show (⟨#[]⟩ : ByteArray) ++ ⟨#[dgt (n.toNat / 1000), dgt (n.toNat / 100), dgt (n.toNat / 10), dgt n.toNat]⟩ = d4 n
      apply ByteArray.ext
      simp [d4]
    generalize dgt n.toNat = g at *
    generalize dgt (n.toNat / 10) = g1 at *
    generalize dgt (n.toNat / 100) = g2 at *
    generalize dgt (n.toNat / 1000) = g3 at *
    clear T
    go_enter Tryz.func82, Tryz.ntmps82
    go_wp2_with (first
      | (go_at_call 58; with_reducible refine (I.out _ (by assumption)).mono ?_; rintro e w1 ⟨rfl, hb1⟩)
      | (go_at_call 97; with_reducible refine (R.out _ (by assumption)).mono ?_; rintro e w2 ⟨rfl, hb2⟩))
    go_ret
    exact ⟨ret_s E.out, by assumption⟩

/-! Clock, Second -/
theorem clock_no (n : Int) (w : World) (h : n < 0 ∨ 86400 < n) :
    Calls Tryz.prog 81 #[.int .i64 n] w fun e w' => e = .returned (.tuple #[.int .i64 0, .int .i64 0, .int .i64 0, .bool false]) ∧ w = w' := by
  by_cases h1 : n < 0
  · clear h
    go_enter Tryz.func81, Tryz.ntmps81
    go_wp2
    exact bodyPost_ret (v := .tuple #[.int .i64 0, .int .i64 0, .int .i64 0, .bool false]) (by simp [results, Tryz.results81, go_sem]) rfl ⟨rfl, rfl⟩
  · have h2 : 86400 < n := by omega
    clear h
    go_enter Tryz.func81, Tryz.ntmps81
    go_wp2
    exact bodyPost_ret (v := .tuple #[.int .i64 0, .int .i64 0, .int .i64 0, .bool false]) (by simp [results, Tryz.results81, go_sem]) rfl ⟨rfl, rfl⟩
theorem ret_t3 {a b c a' b' c' : Int} (h1 : a = a') (h2 : b = b') (h3 : c = c') : Ending.returned (.tuple #[.int .i64 a, .int .i64 b, .int .i64 c, .bool true]) = .returned (.tuple #[.int .i64 a', .int .i64 b', .int .i64 c', .bool true]) := by rw [h1, h2, h3]
theorem clock_yes (h i x n : Int) (w : World) (c : Clk h i x) (e : secN h i x = n) :
    Calls Tryz.prog 81 #[.int .i64 n] w fun e w' => e = .returned (.tuple #[.int .i64 h, .int .i64 i, .int .i64 x, .bool true]) ∧ w = w' := by
  have bd := secN_bd c
  have tp := secN_top c
  by_cases hx : x = 60
  · obtain ⟨rfl, rfl⟩ : h = 23 ∧ i = 59 := by unfold Clk at c; omega
    subst hx
    obtain rfl : n = 86400 := by rw [← e]; decide
    clear bd tp c e
    go_enter Tryz.func81, Tryz.ntmps81
    go_wp2
    exact bodyPost_ret (v := .tuple #[.int .i64 23, .int .i64 59, .int .i64 60, .bool true]) (by simp [results, Tryz.results81, go_sem]) rfl ⟨rfl, rfl⟩
  · obtain ⟨e1, e2, e3⟩ := secN_parts c hx
    have e1 := Lib.hid e1
    have e2 := Lib.hid e2
    have e3 := Lib.hid e3
    have ht : ¬ n = 86400 := fun k => hx (tp.1 (by omega))
    have tb : (n == 86400) = false := by simpa using ht
    have b0 : 0 ≤ n := by omega
    have b1 : n < 86400 := by omega
    clear bd tp c hx ht
    obtain ⟨n, rfl⟩ : ∃ k, n = k := ⟨n, rfl⟩
    rw [e] at e1 e2 e3
    clear e
    go_enter Tryz.func81, Tryz.ntmps81
    go_wp2
    exact bodyPost_ret (v := .tuple #[.int .i64 (n / 3600), .int .i64 (n / 60 % 60), .int .i64 (n % 60), .bool true]) (by simp [results, Tryz.results81, go_sem]) rfl ⟨ret_t3 e1.out e2.out e3.out, rfl⟩
theorem ret_ib {a b : Int} {c : Bool} (h : a = b) : Ending.returned (.tuple #[.int .i64 a, .bool c]) = .returned (.tuple #[.int .i64 b, .bool c]) := by rw [h]
theorem second_yes (h i x n : Int) (w : World) (c : Clk h i x) (e : secN h i x = n) :
    Calls Tryz.prog 38 #[.int .i64 h, .int .i64 i, .int .i64 x] w fun e w' => e = .returned (.tuple #[.int .i64 n, .bool true]) ∧ w = w' := by
  subst e
  by_cases hx : x = 60
  · obtain ⟨rfl, rfl⟩ : h = 23 ∧ i = 59 := by unfold Clk at c; omega
    subst hx
    rw [show secN 23 59 60 = 86400 by decide]
    clear c
    go_enter Tryz.func38, Tryz.ntmps38
    go_wp2
    go_ret2
    exact ⟨rfl, rfl⟩
  · have E : Hid (secN h i x = h * 3600 + i * 60 + x) := by show secN h i x = _; unfold secN; omega
    obtain ⟨c1, c2, c3, c4, c5, c6⟩ := clk_bd c
    have tb : (x == 60) = false := by simpa using hx
    have c7 : x ≤ 59 := by omega
    clear c hx
    generalize secN h i x = N at *
    go_enter Tryz.func38, Tryz.ntmps38
    go_wp2
    all_goals
      go_ret2
      exact ⟨ret_ib (by have := E.out; omega), rfl⟩
theorem second_no (h i x : Int) (w : World) (c : ¬ Clk h i x) :
    Calls Tryz.prog 38 #[.int .i64 h, .int .i64 i, .int .i64 x] w fun e w' => e = .returned (.tuple #[.int .i64 0, .bool false]) ∧ w = w' := by
  have k : ¬ (h = 23 ∧ i = 59 ∧ x = 60) := fun k => c (Or.inr k)
  have k2 : h < 0 ∨ 23 < h ∨ i < 0 ∨ 59 < i ∨ x < 0 ∨ 60 ≤ x := by unfold Clk at c; omega
  clear c
  go_enter Tryz.func38, Tryz.ntmps38
  go_wp2
  all_goals first
    | (exfalso; simp_all; omega)
    | (go_ret2; exact ⟨rfl, rfl⟩)

/-! Day, Text -/
theorem ret_sb {a b : ByteArray} {c : Bool} (h : a = b) : Ending.returned (.tuple #[.string a, .bool c]) = .returned (.tuple #[.string b, .bool c]) := by rw [h]
theorem day_off {w : World} (T : Tb w) (W : World) (hb : Below w.heap.size w W) (n : Int) (h : n < -719162 ∨ 2932896 < n) :
    Calls Tryz.prog 80 #[.int .i64 n] W fun e w' => e = .returned (.tuple #[.string ⟨#[]⟩, .bool false]) ∧ Below w.heap.size w w' := by
  have C := Lib.hid (fun W hb => day.date_off T.1 W hb n h)
  clear h T
  go_enter Tryz.func80, Tryz.ntmps80
  go_wp2_with (first
    | (go_at_call 55; (with_reducible refine (C.out _ (by assumption)).mono ?_; rintro e w1 ⟨rfl, hb1⟩)))
  go_ret2
  exact ⟨rfl, by assumption⟩
theorem day_on {w : World} (T : Tb w) (W : World) (hb : Below w.heap.size w W) (y m d n : Int) (v : Vld y m d) (hn : num y m d = n) :
    Calls Tryz.prog 80 #[.int .i64 n] W fun e w' => e = .returned (.tuple #[.string (dtx y m d), .bool true]) ∧ Below w.heap.size w w' := by
  have C := Lib.hid (fun W hb => day.date_on T.1 W hb y m d n v hn)
  have bd := dim_bd y m
  obtain ⟨h1, h2, h3, h4, h5, h6⟩ := v
  have Y := Lib.hid (fun W hb => digits4_on T W hb y (by omega) (by omega))
  have M := Lib.hid (fun W hb => digits2_on T W hb m (by omega) (by omega))
  have D := Lib.hid (fun W hb => digits2_on T W hb d (by omega) (by omega))
  have E := Lib.hid (dtx_cat y m d)
  have s1 := d4_size y
  have s2 := d2_size m
  have s3 := d2_size d
  generalize d4 y = Y4 at *
  generalize d2 m = M2 at *
  generalize d2 d = D2 at *
  clear T hn bd
  go_enter Tryz.func80, Tryz.ntmps80
  go_wp2_with (first
    | (go_at_call 55; (with_reducible refine (C.out _ (by assumption)).mono ?_; rintro e w1 ⟨rfl, hb1⟩))
    | (go_at_call 82; (first | (with_reducible refine (Y.out _ (by assumption)).mono ?_; rintro e w2 ⟨rfl, hb2⟩) | (with_reducible refine (M.out _ (by assumption)).mono ?_; rintro e w3 ⟨rfl, hb3⟩) | (with_reducible refine (D.out _ (by assumption)).mono ?_; rintro e w4 ⟨rfl, hb4⟩))))
  go_ret2
  exact ⟨ret_sb E.out, by assumption⟩
theorem text_off {w : World} (T : Tb w) (W : World) (hb : Below w.heap.size w W) (n k : Int) (h : n < -719162 ∨ 2932896 < n ∨ k < 0 ∨ 86400 < k) :
    Calls Tryz.prog 56 #[.int .i64 n, .int .i64 k] W fun e w' => e = .returned (.tuple #[.string ⟨#[]⟩, .bool false]) ∧ Below w.heap.size w w' := by
  by_cases hd : n < -719162 ∨ 2932896 < n
  · have C := Lib.hid (fun W hb => day_off T W hb n hd)
    clear h hd T
    go_enter Tryz.func56, Tryz.ntmps56
    go_wp2_with (first
      | (go_at_call 80; (with_reducible refine (C.out _ (by assumption)).mono ?_; rintro e w1 ⟨rfl, hb1⟩)))
    go_ret2
    exact ⟨rfl, by assumption⟩
  · obtain ⟨y, m, d, v, e⟩ := day.exists_date n (by omega) (by omega)
    have C := Lib.hid (fun W hb => day_on T W hb y m d n v e)
    have K := Lib.hid (fun W => clock_no k W (by omega))
    generalize dtx y m d = X at *
    clear h hd T v e
    go_enter Tryz.func56, Tryz.ntmps56
    go_wp2_with (first
      | (go_at_call 80; (with_reducible refine (C.out _ (by assumption)).mono ?_; rintro e w1 ⟨rfl, hb1⟩))
      | (go_at_call 81; (with_reducible refine (K.out _).mono ?_; rintro e w' ⟨rfl, rfl⟩)))
    go_ret2
    exact ⟨rfl, by assumption⟩
theorem text_on {w : World} (T : Tb w) (W : World) (hb : Below w.heap.size w W) (y m d h i x n k : Int) (v : Vld y m d) (hn : num y m d = n) (c : Clk h i x) (hk : secN h i x = k) :
    Calls Tryz.prog 56 #[.int .i64 n, .int .i64 k] W fun e w' => e = .returned (.tuple #[.string (txt y m d h i x), .bool true]) ∧ Below w.heap.size w w' := by
  have C := Lib.hid (fun W hb => day_on T W hb y m d n v hn)
  have K := Lib.hid (fun W => clock_yes h i x k W c hk)
  obtain ⟨h1, h2, h3, h4, h5, h6⟩ := clk_bd c
  have H := Lib.hid (fun W hb => digits2_on T W hb h (by omega) (by omega))
  have I := Lib.hid (fun W hb => digits2_on T W hb i (by omega) (by omega))
  have X := Lib.hid (fun W hb => digits2_on T W hb x (by omega) (by omega))
  have E := Lib.hid (txt_cat y m d h i x)
  have s0 := dtx_size y m d
  have s1 := d2_size h
  have s2 := d2_size i
  have s3 := d2_size x
  generalize dtx y m d = D0 at *
  generalize d2 h = H2 at *
  generalize d2 i = I2 at *
  generalize d2 x = X2 at *
  clear T hn hk v c
  go_enter Tryz.func56, Tryz.ntmps56
  go_wp2_with (first
    | (go_at_call 80; (with_reducible refine (C.out _ (by assumption)).mono ?_; rintro e w1 ⟨rfl, hb1⟩))
    | (go_at_call 81; (with_reducible refine (K.out _).mono ?_; rintro e w' ⟨rfl, rfl⟩))
    | (go_at_call 82; (first | (with_reducible refine (H.out _ (by assumption)).mono ?_; rintro e w3 ⟨rfl, hb3⟩) | (with_reducible refine (I.out _ (by assumption)).mono ?_; rintro e w4 ⟨rfl, hb4⟩) | (with_reducible refine (X.out _ (by assumption)).mono ?_; rintro e w5 ⟨rfl, hb5⟩))))
  go_ret2
  exact ⟨ret_sb E.out, by assumption⟩
end Go.Proofs.YtiboijhfieaepaaGreatDoor.stamp
