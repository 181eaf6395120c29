/-
  What stamp's digits, Clock, Second, Day and Text answer, where the tables of package day and the library's table of powers of ten hold what their initialisers lay. Conditions: those tables; the numbers that are said.
-/
import Derived.Test.YtpkohihnocblfaaGreatDoorG02
import Derived.Test.YtpkohihnocblfaaGreatDoorG04
import Derived.Test.YtpkohihnocblfaaGreatDoorG03
import Derived.Lib.ItoaMem
import Derived.WalkSmall
import Derived.Test.YtpkohihnocblfaaGreatDoorRows
import Derived.WalkKit
import Derived.ProofKit
import Derived.OpenShut
import Derived.IntWalk
import Derived.Below
import Derived.Laws.Rows
import Derived.Laws.Tables
import Derived.Deep.WholeRow
import Derived.Deep.MidRow
import Derived.Lib.Hide
import Derived.Lib.QuietBelow
import Derived.BigQuiet
import Derived.LaidMore
import Derived.Stop.Joined
namespace Go.Proofs.YtpkohihnocblfaaGreatDoor.stamp
open Go.ChangeShapes Go.WideShapes Go.ChangeAt Go.RowKit
open cal stx
set_option linter.unusedVariables false
set_option maxRecDepth 100000

/-- the tables, as they are laid. -/
def Tb (w : World) : Prop := day.Tabs w ∧ Lib.TabIs Tryz.prog w "internal/strconv.uint64pow10" .u64 Lib.pow10Tab
theorem gPow : Tryz.prog.globalNamed "internal/strconv.uint64pow10" = some 4 := by kernel_rfl
theorem pow_size {w : World} {cs : Array Value} (h : w.var? Tryz.prog "internal/strconv.uint64pow10" = some cs) : 4 < w.heap.size := by
  rcases Nat.lt_or_ge 4 w.heap.size with hl | hl
  · exact hl
  · exfalso
    simp [World.var?, gPow, Array.getElem?_eq_none hl] at h
theorem Tb.below {w w' : World} (T : Tb w) (hb : Below w.heap.size w w') : Tb w' :=
  ⟨T.1.below hb, var?_below hb gPow (pow_size T.2) T.2⟩
theorem below_grow (w : World) (k : Nat) (os : Array Obj) : Below w.heap.size w (Sort.grow (w.drewN k) os) :=
  (below_drewN (Below.refl _ _) k).trans ⟨rfl, rfl, rfl, by simp, fun j hj => by
    simp only [Sort.grow]
    rw [Array.getElem?_append_left (by exact hj)]⟩

/-! the library's numerals and noughts -/
theorem itoa_on {w : World} (T : Tb w) (W : World) (hb : Below w.heap.size w W) (n : Int) (h0 : 0 ≤ n) (h1 : n ≤ 9999) (a : Array UInt8) (ha : (Lib.decDigits n.toNat).toArray = a) :
    Calls Tryz.prog 15 #[.int .i64 n] W fun e w' => e = .returned (.string ⟨a⟩) ∧ Below w.heap.size w w' := by
  refine (Tryz.strconv_Itoa n (by omega) (by omega) W (T.below hb).2).mono ?_
  rintro e w' ⟨rfl, k, os, rfl⟩
  refine ⟨?_, hb.trans ((below_grow W k os).mono hb.size)⟩
  obtain ⟨m, rfl⟩ : ∃ m : Nat, n = m := ⟨n.toNat, by omega⟩
  rw [Lib.itoa_nonneg, ← ha]
  rfl
theorem rep_on {w : World} (W : World) (hb : Below w.heap.size w W) (c : Int) (h0 : 0 ≤ c) (h1 : c ≤ 3) (a : Array UInt8) (ha : (Lib.repeatL [48] c.toNat).toArray = a) :
    Calls Tryz.prog 39 #[.string ⟨#[48]⟩, .int .i64 c] W fun e w' => e = .returned (.string ⟨a⟩) ∧ Below w.heap.size w w' := by
  obtain ⟨m, rfl⟩ : ∃ m : Nat, c = m := ⟨c.toNat, by omega⟩
  refine (Tryz.strings_Repeat ⟨#[48]⟩ m W (by omega) (by show 1 * m ≤ _; omega)).mono ?_
  rintro e w' ⟨rfl, hw⟩
  exact ⟨by rw [← ha]; rfl, hb.trans (hw.mono hb.size)⟩

/-! digits -/
theorem ret_s {a b : ByteArray} (h : a = b) : Ending.returned (.string a) = .returned (.string b) := by rw [h]
theorem digits2_on {w : World} (T : Tb w) (W : World) (hb : Below w.heap.size w W) (n : Int) (h0 : 0 ≤ n) (h1 : n ≤ 99) :
    Calls Tryz.prog 71 #[.int .i64 n, .int .i64 2] W fun e w' => e = .returned (.string (d2 n)) ∧ Below w.heap.size w w' := by
  by_cases h : n < 10
  · have I := Lib.hid (fun W hb => itoa_on T W hb n (by omega) (by omega) #[dgt n.toNat] (by rw [dec1 _ (by omega)]))
    have R := Lib.hid (fun W hb => rep_on (w := w) W hb 1 (by omega) (by omega) #[48] rfl)
    have E : Hid ((⟨#[48]⟩ : ByteArray) ++ ⟨#[dgt n.toNat]⟩ = d2 n) := by
      show (⟨#[48]⟩ : ByteArray) ++ ⟨#[dgt n.toNat]⟩ = d2 n
      apply ByteArray.ext
      simp [d2, dgt_zero (show n.toNat / 10 = 0 by omega)]
    generalize dgt n.toNat = g at *
    clear T
    go_enter Tryz.func71, Tryz.ntmps71
    go_wp2_with (first
      | (go_at_call 15; with_reducible refine (I.out _ (by assumption)).mono ?_; rintro e w1 ⟨rfl, hb1⟩)
      | (go_at_call 39; with_reducible refine (R.out _ (by assumption)).mono ?_; rintro e w2 ⟨rfl, hb2⟩))
    go_ret
    exact ⟨ret_s E.out, by assumption⟩
  · have I := Lib.hid (fun W hb => itoa_on T W hb n (by omega) (by omega) #[dgt (n.toNat / 10), dgt n.toNat] (by rw [dec2 _ (by omega) (by omega)]))
    have R := Lib.hid (fun W hb => rep_on (w := w) W hb 0 (by omega) (by omega) #[] rfl)
    have E : Hid ((⟨#[]⟩ : ByteArray) ++ ⟨#[dgt (n.toNat / 10), dgt n.toNat]⟩ = d2 n) := by
      show (⟨#[]⟩ : ByteArray) ++ ⟨#[dgt (n.toNat / 10), dgt n.toNat]⟩ = d2 n
      apply ByteArray.ext
      simp [d2]
    generalize dgt n.toNat = g at *
    generalize dgt (n.toNat / 10) = g1 at *
    clear T
    go_enter Tryz.func71, Tryz.ntmps71
    go_wp2_with (first
      | (go_at_call 15; with_reducible refine (I.out _ (by assumption)).mono ?_; rintro e w1 ⟨rfl, hb1⟩)
      | (go_at_call 39; with_reducible refine (R.out _ (by assumption)).mono ?_; rintro e w2 ⟨rfl, hb2⟩))
    go_ret
    exact ⟨ret_s E.out, by assumption⟩
theorem digits4_on {w : World} (T : Tb w) (W : World) (hb : Below w.heap.size w W) (n : Int) (h0 : 0 ≤ n) (h1 : n ≤ 9999) :
    Calls Tryz.prog 71 #[.int .i64 n, .int .i64 4] W fun e w' => e = .returned (.string (d4 n)) ∧ Below w.heap.size w w' := by
  by_cases h10 : n < 10
  · have I := Lib.hid (fun W hb => itoa_on T W hb n (by omega) (by omega) #[dgt n.toNat] (by rw [dec1 _ (by omega)]))
    have R := Lib.hid (fun W hb => rep_on (w := w) W hb 3 (by omega) (by omega) #[48, 48, 48] rfl)
    have E : Hid ((⟨#[48, 48, 48]⟩ : ByteArray) ++ ⟨#[dgt n.toNat]⟩ = d4 n) := by
      show (⟨#[48, 48, 48]⟩ : ByteArray) ++ ⟨#[dgt n.toNat]⟩ = d4 n
      apply ByteArray.ext
      simp [d4, dgt_zero (show n.toNat / 10 = 0 by omega), dgt_zero (show n.toNat / 100 = 0 by omega), dgt_zero (show n.toNat / 1000 = 0 by omega)]
    generalize dgt n.toNat = g at *
    clear T
    go_enter Tryz.func71, Tryz.ntmps71
    go_wp2_with (first
      | (go_at_call 15; with_reducible refine (I.out _ (by assumption)).mono ?_; rintro e w1 ⟨rfl, hb1⟩)
      | (go_at_call 39; with_reducible refine (R.out _ (by assumption)).mono ?_; rintro e w2 ⟨rfl, hb2⟩))
    go_ret
    exact ⟨ret_s E.out, by assumption⟩
  by_cases h100 : n < 100
  · have I := Lib.hid (fun W hb => itoa_on T W hb n (by omega) (by omega) #[dgt (n.toNat / 10), dgt n.toNat] (by rw [dec2 _ (by omega) (by omega)]))
    have R := Lib.hid (fun W hb => rep_on (w := w) W hb 2 (by omega) (by omega) #[48, 48] rfl)
    have E : Hid ((⟨#[48, 48]⟩ : ByteArray) ++ ⟨#[dgt (n.toNat / 10), dgt n.toNat]⟩ = d4 n) := by
      show (⟨#[48, 48]⟩ : ByteArray) ++ ⟨#[dgt (n.toNat / 10), dgt n.toNat]⟩ = d4 n
      apply ByteArray.ext
      simp [d4, dgt_zero (show n.toNat / 100 = 0 by omega), dgt_zero (show n.toNat / 1000 = 0 by omega)]
    generalize dgt n.toNat = g at *
    generalize dgt (n.toNat / 10) = g1 at *
    clear T
    go_enter Tryz.func71, Tryz.ntmps71
    go_wp2_with (first
      | (go_at_call 15; with_reducible refine (I.out _ (by assumption)).mono ?_; rintro e w1 ⟨rfl, hb1⟩)
      | (go_at_call 39; with_reducible refine (R.out _ (by assumption)).mono ?_; rintro e w2 ⟨rfl, hb2⟩))
    go_ret
    exact ⟨ret_s E.out, by assumption⟩
  by_cases h1000 : n < 1000
  · have I := Lib.hid (fun W hb => itoa_on T W hb n (by omega) (by omega) #[dgt (n.toNat / 100), dgt (n.toNat / 10), dgt n.toNat] (by rw [dec3 _ (by omega) (by omega)]))
    have R := Lib.hid (fun W hb => rep_on (w := w) W hb 1 (by omega) (by omega) #[48] rfl)
    have E : Hid ((⟨#[48]⟩ : ByteArray) ++ ⟨#[dgt (n.toNat / 100), dgt (n.toNat / 10), dgt n.toNat]⟩ = d4 n) := by
      show (⟨#[48]⟩ : ByteArray) ++ ⟨#[dgt (n.toNat / 100), dgt (n.toNat / 10), dgt n.toNat]⟩ = d4 n
      apply ByteArray.ext
      simp [d4, dgt_zero (show n.toNat / 1000 = 0 by omega)]
    generalize dgt n.toNat = g at *
    generalize dgt (n.toNat / 10) = g1 at *
    generalize dgt (n.toNat / 100) = g2 at *
    clear T
    go_enter Tryz.func71, Tryz.ntmps71
    go_wp2_with (first
      | (go_at_call 15; with_reducible refine (I.out _ (by assumption)).mono ?_; rintro e w1 ⟨rfl, hb1⟩)
      | (go_at_call 39; with_reducible refine (R.out _ (by assumption)).mono ?_; rintro e w2 ⟨rfl, hb2⟩))
    go_ret
    exact ⟨ret_s E.out, by assumption⟩
  · have I := Lib.hid (fun W hb => itoa_on T W hb n (by omega) (by omega) #[dgt (n.toNat / 1000), dgt (n.toNat / 100), dgt (n.toNat / 10), dgt n.toNat] (by rw [dec4 _ (by omega) (by omega)]))
    have R := Lib.hid (fun W hb => rep_on (w := w) W hb 0 (by omega) (by omega) #[] rfl)
    have E : Hid ((⟨#[]⟩ : ByteArray) ++ ⟨#[dgt (n.toNat / 1000), dgt (n.toNat / 100), dgt (n.toNat / 10), dgt n.toNat]⟩ = d4 n) := by
      show (⟨#[]⟩ : ByteArray) ++ ⟨#[dgt (n.toNat / 1000), dgt (n.toNat / 100), dgt (n.toNat / 10), dgt n.toNat]⟩ = d4 n
      apply ByteArray.ext
      simp [d4]
    generalize dgt n.toNat = g at *
    generalize dgt (n.toNat / 10) = g1 at *
    generalize dgt (n.toNat / 100) = g2 at *
    generalize dgt (n.toNat / 1000) = g3 at *
    clear T
    go_enter Tryz.func71, Tryz.ntmps71
    go_wp2_with (first
      | (go_at_call 15; with_reducible refine (I.out _ (by assumption)).mono ?_; rintro e w1 ⟨rfl, hb1⟩)
      | (go_at_call 39; with_reducible refine (R.out _ (by assumption)).mono ?_; rintro e w2 ⟨rfl, hb2⟩))
    go_ret
    exact ⟨ret_s E.out, by assumption⟩

/-! Clock, Second -/
theorem clock_no (n : Int) (w : World) (h : n < 0 ∨ 86400 < n) :
    Calls Tryz.prog 70 #[.int .i64 n] w fun e w' => e = .returned (.tuple #[.int .i64 0, .int .i64 0, .int .i64 0, .bool false]) ∧ w = w' := by
  by_cases h1 : n < 0
  · clear h
    go_enter Tryz.func70, Tryz.ntmps70
    go_wp2
    exact bodyPost_ret (v := .tuple #[.int .i64 0, .int .i64 0, .int .i64 0, .bool false]) (by simp [results, Tryz.results70, go_sem]) rfl ⟨rfl, rfl⟩
  · have h2 : 86400 < n := by omega
    clear h
    go_enter Tryz.func70, Tryz.ntmps70
    go_wp2
    exact bodyPost_ret (v := .tuple #[.int .i64 0, .int .i64 0, .int .i64 0, .bool false]) (by simp [results, Tryz.results70, go_sem]) rfl ⟨rfl, rfl⟩
theorem ret_t3 {a b c a' b' c' : Int} (h1 : a = a') (h2 : b = b') (h3 : c = c') : Ending.returned (.tuple #[.int .i64 a, .int .i64 b, .int .i64 c, .bool true]) = .returned (.tuple #[.int .i64 a', .int .i64 b', .int .i64 c', .bool true]) := by rw [h1, h2, h3]
theorem clock_yes (h i x n : Int) (w : World) (c : Clk h i x) (e : secN h i x = n) :
    Calls Tryz.prog 70 #[.int .i64 n] w fun e w' => e = .returned (.tuple #[.int .i64 h, .int .i64 i, .int .i64 x, .bool true]) ∧ w = w' := by
  have bd := secN_bd c
  have tp := secN_top c
  by_cases hx : x = 60
  · obtain ⟨rfl, rfl⟩ : h = 23 ∧ i = 59 := by unfold Clk at c; omega
    subst hx
    obtain rfl : n = 86400 := by rw [← e]; decide
    clear bd tp c e
    go_enter Tryz.func70, Tryz.ntmps70
    go_wp2
    exact bodyPost_ret (v := .tuple #[.int .i64 23, .int .i64 59, .int .i64 60, .bool true]) (by simp [results, Tryz.results70, go_sem]) rfl ⟨rfl, rfl⟩
  · obtain ⟨e1, e2, e3⟩ := secN_parts c hx
    have e1 := Lib.hid e1
    have e2 := Lib.hid e2
    have e3 := Lib.hid e3
    have ht : ¬ n = 86400 := fun k => hx (tp.1 (by omega))
    have tb : (n == 86400) = false := by simpa using ht
    have b0 : 0 ≤ n := by omega
    have b1 : n < 86400 := by omega
    clear bd tp c hx ht
    obtain ⟨n, rfl⟩ : ∃ k, n = k := ⟨n, rfl⟩
    rw [e] at e1 e2 e3
    clear e
    go_enter Tryz.func70, Tryz.ntmps70
    go_wp2
    exact bodyPost_ret (v := .tuple #[.int .i64 (n / 3600), .int .i64 (n / 60 % 60), .int .i64 (n % 60), .bool true]) (by simp [results, Tryz.results70, go_sem]) rfl ⟨ret_t3 e1.out e2.out e3.out, rfl⟩
theorem ret_ib {a b : Int} {c : Bool} (h : a = b) : Ending.returned (.tuple #[.int .i64 a, .bool c]) = .returned (.tuple #[.int .i64 b, .bool c]) := by rw [h]
theorem second_yes (h i x n : Int) (w : World) (c : Clk h i x) (e : secN h i x = n) :
    Calls Tryz.prog 32 #[.int .i64 h, .int .i64 i, .int .i64 x] w fun e w' => e = .returned (.tuple #[.int .i64 n, .bool true]) ∧ w = w' := by
  subst e
  by_cases hx : x = 60
  · obtain ⟨rfl, rfl⟩ : h = 23 ∧ i = 59 := by unfold Clk at c; omega
    subst hx
    rw [show secN 23 59 60 = 86400 by decide]
    clear c
    go_enter Tryz.func32, Tryz.ntmps32
    go_wp2
    go_ret2
    exact ⟨rfl, rfl⟩
  · have E : Hid (secN h i x = h * 3600 + i * 60 + x) := by show secN h i x = _; unfold secN; omega
    obtain ⟨c1, c2, c3, c4, c5, c6⟩ := clk_bd c
    have tb : (x == 60) = false := by simpa using hx
    have c7 : x ≤ 59 := by omega
    clear c hx
    generalize secN h i x = N at *
    go_enter Tryz.func32, Tryz.ntmps32
    go_wp2
    all_goals
      go_ret2
      exact ⟨ret_ib (by have := E.out; omega), rfl⟩
theorem second_no (h i x : Int) (w : World) (c : ¬ Clk h i x) :
    Calls Tryz.prog 32 #[.int .i64 h, .int .i64 i, .int .i64 x] w fun e w' => e = .returned (.tuple #[.int .i64 0, .bool false]) ∧ w = w' := by
  have k : ¬ (h = 23 ∧ i = 59 ∧ x = 60) := fun k => c (Or.inr k)
  have k2 : h < 0 ∨ 23 < h ∨ i < 0 ∨ 59 < i ∨ x < 0 ∨ 60 ≤ x := by unfold Clk at c; omega
  clear c
  go_enter Tryz.func32, Tryz.ntmps32
  go_wp2
  all_goals first
    | (exfalso; simp_all; omega)
    | (go_ret2; exact ⟨rfl, rfl⟩)

/-! Day, Text -/
theorem ret_sb {a b : ByteArray} {c : Bool} (h : a = b) : Ending.returned (.tuple #[.string a, .bool c]) = .returned (.tuple #[.string b, .bool c]) := by rw [h]
theorem day_off {w : World} (T : Tb w) (W : World) (hb : Below w.heap.size w W) (n : Int) (h : n < -719162 ∨ 2932896 < n) :
    Calls Tryz.prog 69 #[.int .i64 n] W fun e w' => e = .returned (.tuple #[.string ⟨#[]⟩, .bool false]) ∧ Below w.heap.size w w' := by
  have C := Lib.hid (fun W hb => day.date_off T.1 W hb n h)
  clear h T
  go_enter Tryz.func69, Tryz.ntmps69
  go_wp2_with (first
    | (go_at_call 43; (with_reducible refine (C.out _ (by assumption)).mono ?_; rintro e w1 ⟨rfl, hb1⟩)))
  go_ret2
  exact ⟨rfl, by assumption⟩
theorem day_on {w : World} (T : Tb w) (W : World) (hb : Below w.heap.size w W) (y m d n : Int) (v : Vld y m d) (hn : num y m d = n) :
    Calls Tryz.prog 69 #[.int .i64 n] W fun e w' => e = .returned (.tuple #[.string (dtx y m d), .bool true]) ∧ Below w.heap.size w w' := by
  have C := Lib.hid (fun W hb => day.date_on T.1 W hb y m d n v hn)
  have bd := dim_bd y m
  obtain ⟨h1, h2, h3, h4, h5, h6⟩ := v
  have Y := Lib.hid (fun W hb => digits4_on T W hb y (by omega) (by omega))
  have M := Lib.hid (fun W hb => digits2_on T W hb m (by omega) (by omega))
  have D := Lib.hid (fun W hb => digits2_on T W hb d (by omega) (by omega))
  have E := Lib.hid (dtx_cat y m d)
  have s1 := d4_size y
  have s2 := d2_size m
  have s3 := d2_size d
  generalize d4 y = Y4 at *
  generalize d2 m = M2 at *
  generalize d2 d = D2 at *
  clear T hn bd
  go_enter Tryz.func69, Tryz.ntmps69
  go_wp2_with (first
    | (go_at_call 43; (with_reducible refine (C.out _ (by assumption)).mono ?_; rintro e w1 ⟨rfl, hb1⟩))
    | (go_at_call 71; (first | (with_reducible refine (Y.out _ (by assumption)).mono ?_; rintro e w2 ⟨rfl, hb2⟩) | (with_reducible refine (M.out _ (by assumption)).mono ?_; rintro e w3 ⟨rfl, hb3⟩) | (with_reducible refine (D.out _ (by assumption)).mono ?_; rintro e w4 ⟨rfl, hb4⟩))))
  go_ret2
  exact ⟨ret_sb E.out, by assumption⟩
theorem text_off {w : World} (T : Tb w) (W : World) (hb : Below w.heap.size w W) (n k : Int) (h : n < -719162 ∨ 2932896 < n ∨ k < 0 ∨ 86400 < k) :
    Calls Tryz.prog 44 #[.int .i64 n, .int .i64 k] W fun e w' => e = .returned (.tuple #[.string ⟨#[]⟩, .bool false]) ∧ Below w.heap.size w w' := by
  by_cases hd : n < -719162 ∨ 2932896 < n
  · have C := Lib.hid (fun W hb => day_off T W hb n hd)
    clear h hd T
    go_enter Tryz.func44, Tryz.ntmps44
    go_wp2_with (first
      | (go_at_call 69; (with_reducible refine (C.out _ (by assumption)).mono ?_; rintro e w1 ⟨rfl, hb1⟩)))
    go_ret2
    exact ⟨rfl, by assumption⟩
  · obtain ⟨y, m, d, v, e⟩ := day.exists_date n (by omega) (by omega)
    have C := Lib.hid (fun W hb => day_on T W hb y m d n v e)
    have K := Lib.hid (fun W => clock_no k W (by omega))
    generalize dtx y m d = X at *
    clear h hd T v e
    go_enter Tryz.func44, Tryz.ntmps44
    go_wp2_with (first
      | (go_at_call 69; (with_reducible refine (C.out _ (by assumption)).mono ?_; rintro e w1 ⟨rfl, hb1⟩))
      | (go_at_call 70; (with_reducible refine (K.out _).mono ?_; rintro e w' ⟨rfl, rfl⟩)))
    go_ret2
    exact ⟨rfl, by assumption⟩
theorem text_on {w : World} (T : Tb w) (W : World) (hb : Below w.heap.size w W) (y m d h i x n k : Int) (v : Vld y m d) (hn : num y m d = n) (c : Clk h i x) (hk : secN h i x = k) :
    Calls Tryz.prog 44 #[.int .i64 n, .int .i64 k] W fun e w' => e = .returned (.tuple #[.string (txt y m d h i x), .bool true]) ∧ Below w.heap.size w w' := by
  have C := Lib.hid (fun W hb => day_on T W hb y m d n v hn)
  have K := Lib.hid (fun W => clock_yes h i x k W c hk)
  obtain ⟨h1, h2, h3, h4, h5, h6⟩ := clk_bd c
  have H := Lib.hid (fun W hb => digits2_on T W hb h (by omega) (by omega))
  have I := Lib.hid (fun W hb => digits2_on T W hb i (by omega) (by omega))
  have X := Lib.hid (fun W hb => digits2_on T W hb x (by omega) (by omega))
  have E := Lib.hid (txt_cat y m d h i x)
  have s0 := dtx_size y m d
  have s1 := d2_size h
  have s2 := d2_size i
  have s3 := d2_size x
  generalize dtx y m d = D0 at *
  generalize d2 h = H2 at *
  generalize d2 i = I2 at *
  generalize d2 x = X2 at *
  clear T hn hk v c
  go_enter Tryz.func44, Tryz.ntmps44
  go_wp2_with (first
    | (go_at_call 69; (with_reducible refine (C.out _ (by assumption)).mono ?_; rintro e w1 ⟨rfl, hb1⟩))
    | (go_at_call 70; (with_reducible refine (K.out _).mono ?_; rintro e w' ⟨rfl, rfl⟩))
    | (go_at_call 71; (first | (with_reducible refine (H.out _ (by assumption)).mono ?_; rintro e w3 ⟨rfl, hb3⟩) | (with_reducible refine (I.out _ (by assumption)).mono ?_; rintro e w4 ⟨rfl, hb4⟩) | (with_reducible refine (X.out _ (by assumption)).mono ?_; rintro e w5 ⟨rfl, hb5⟩))))
  go_ret2
  exact ⟨ret_sb E.out, by assumption⟩
end Go.Proofs.YtpkohihnocblfaaGreatDoor.stamp

/-
  What day's Week and End answer, where the two tables of package day hold what their initialisers lay. Conditions: those tables; the arguments are numbers of 64 bits.
-/
namespace Go.Proofs.YtpkohihnocblfaaGreatDoor.day
open Go.ChangeShapes Go.WideShapes Go.ChangeAt Go.RowKit
open cal
set_option linter.unusedVariables false
set_option maxRecDepth 100000

theorem end_no (n : Int) (w : World) (h : n < -719162 ∨ 2932896 < n) :
    Calls Tryz.prog 80 #[.int .i64 n] w fun e w' => e = .returned (.bool false) ∧ w = w' := by
  have C := Lib.hid (date_no n w h)
  clear h
  go_enter Tryz.func80, Tryz.ntmps80
  go_wp2_with (go_at_call 43; with_reducible refine (C.out).mono ?_; rintro e w' ⟨rfl, rfl⟩)
  go_ret
  exact ⟨rfl, rfl⟩
theorem end_is (y m d n : Int) (w : World) (T : Tabs w) (v : Vld y m d) (hn : num y m d = n) :
    Calls Tryz.prog 80 #[.int .i64 n] w fun e w' => e = .returned (.bool (d == dim y m)) ∧ Below w.heap.size w w' := by
  have C := Lib.hid (date_yes y m d n w T v hn)
  obtain ⟨h1, h2, h3, h4, h5, h6⟩ := v
  clear hn
  go_enter Tryz.func80, Tryz.ntmps80
  go_wp2_with (first
    | (go_at_call 43; with_reducible refine (C.out).mono ?_; rintro e w1 ⟨rfl, hb⟩)
    | (go_at_call 68; with_reducible refine (last_yes y m _ (T.below hb) h1 h2 h3 h4).mono ?_; rintro e w' ⟨rfl, rfl⟩))
  go_ret
  exact ⟨rfl, hb⟩

theorem end_on {w : World} (T : Tabs w) (W : World) (hb : Below w.heap.size w W) (y m d n : Int) (v : Vld y m d) (hn : num y m d = n) (b : Bool) (h : (d == dim y m) = b) :
    Calls Tryz.prog 80 #[.int .i64 n] W fun e w' => e = .returned (.bool b) ∧ Below w.heap.size w w' := by
  subst h
  exact (end_is y m d n W (T.below hb) v hn).mono fun e w' ⟨he, hw⟩ => ⟨he, hb.trans (hw.mono hb.size)⟩
end Go.Proofs.YtpkohihnocblfaaGreatDoor.day

/-
  What memory keeps, in small steps: blocks that are new or old, old memory behind calls, listed variables, loads and stores of whole rows, regions that draw their order around calls that make memory. Nothing of any one function. Conditions: as said.
-/
namespace Go.Proofs.YtpkohihnocblfaaGreatDoor.mem
open Go.ChangeShapes Go.WideShapes Go.ChangeAt Go.RowKit
set_option linter.unusedVariables false
set_option maxRecDepth 100000

theorem bal {w W : World} (hb : Below w.heap.size w W) (o : Obj) : Below w.heap.size w (W.alloc o) := hb.alloc hb.size o
theorem btr {w W W' : World} (hb : Below w.heap.size w W) (h : Below W.heap.size W W') : Below w.heap.size w W' := hb.trans (h.mono hb.size)
theorem kept {W W' : World} {g : Nat} {o : Obj} (h : W.heap[g]? = some o) (hb : Below W.heap.size W W') : W'.heap[g]? = some o := by
  rw [hb.block g (Array.getElem?_eq_some_iff.1 h).1]; exact h
theorem hp_lt {w : World} {k : Nat} {v : Obj} (h : w.heap[k]? = some v) : k < w.heap.size := (Array.getElem?_eq_some_iff.1 h).1
theorem hp_new (w : World) (o : Obj) : (w.alloc o).heap[w.heap.size]? = some o := heap_alloc_new w o
theorem hp_old {w : World} {k : Nat} {v : Obj} (h : w.heap[k]? = some v) (o : Obj) : (w.alloc o).heap[k]? = some v := by
  rw [Below.heap_alloc w o k (hp_lt h)]; exact h
theorem hp_new1 (w : World) (a o : Obj) : ((w.alloc a).alloc o).heap[w.heap.size + 1]? = some o := heap_alloc2_new w a o
theorem bel_setRow {B : Nat} {a w : World} (h : Below B a w) {g : Nat} (hg : B ≤ g) (c : Array Value) : Below B a (w.setRow g c) :=
  h.trans ⟨rfl, rfl, rfl, by simp, fun k hk => setRow_other _ _ _ _ (by omega)⟩
theorem bel_drewN {B : Nat} {a w : World} (h : Below B a w) (n : Nat) : Below B a (w.drewN n) := ⟨h.os, h.tape, h.output, h.size, h.block⟩
theorem row_cell {w : World} {g : Nat} {c : Array Value} {t : TypeId} {fr : Nat × Nat} (h : w.heap[g]? = some (.cells c t fr)) (j : Nat) : w.cell? ⟨g, j, none⟩ = c[j]? := by
  simp [World.cell?, h]
theorem below_grow (w : World) (k : Nat) (os : Array Obj) : Below w.heap.size w (Sort.grow (w.drewN k) os) :=
  (bel_drewN (Below.refl _ _) k).trans ⟨rfl, rfl, rfl, by simp, fun j hj => by
    simp only [Sort.grow]
    rw [Array.getElem?_append_left (by exact hj)]⟩
theorem ret_bool {b : Bool} (h : b = true) : Ending.returned (.bool b) = .returned (.bool true) := by rw [h]
theorem ret_s {a b : ByteArray} (h : a = b) : Ending.returned (.string a) = .returned (.string b) := by rw [h]
/-- 'return x', x a struct in the result's row. -/
theorem end_row {fn : Func} {R : Ending → World → Prop} {p : Tmp} {ty : TypeId} (hr : fn.results = #[.cell p ty]) (a : Act) (w : World) (g : Nat) (t : TypeId) (c : Array Value) (fs : Array Field)
    (hp : a.tmps.getD p undef = .pointer (some ⟨g, 0, none⟩)) (hg : w.heap[g]? = some (.cells c t (0, 0))) (hu : Tryz.prog.underlying ty = some (.struct fs))
    (hi : (Tryz.prog.info? ty).map (·.size) = some c.size) (hdf : a.defers = []) (h : R (.returned (.agg c)) w) : bodyPost Tryz.prog fn R .ret a w :=
  bodyPost_ret (v := .agg c) (results_cell_row hr _ _ g t c (0, 0) _ hp hg hu rfl hi) hdf h

/-! listed variables -/
theorem laid_at {P : Program} {W : World} {n : String} {d : DataW Unit} {g : Nat} {t : TypeId} (hg : P.globalNamed n = some g) (ht : (P.globals[g]?).map (·.type) = some t) :
    ∀ (l : List (String × DataW Unit)) (ps : List MemPlace), DataW.LaidVars P W l ps → (n, d) ∈ l → ∃ (cs : Array Value) (fuel : Nat) (p : List MemPlace), W.var? P n = some cs ∧ DataW.trod (fun _ => ()) P W 0 (fun _ => true) false fuel t cs.toList = some (d, p)
  | [], _, _, h => by cases h
  | (n', d') :: r, ps, h, hm => by
    obtain ⟨g', t', cs, fuel, p, q, h1, h2, h3, h4, h5, rfl⟩ := h
    rcases List.mem_cons.1 hm with e | hm
    · cases e
      obtain rfl := Option.some.inj (hg.symm.trans h1)
      obtain rfl := Option.some.inj (ht.symm.trans h2)
      exact ⟨cs, fuel, p, h3, h4⟩
    · exact laid_at hg ht r q h5 hm

/-! regions that draw their order around calls that make memory -/
theorem qload {P : Program} {ops : Array Oper} {C : World → Prop} {Q : Act → Prop} {a : Act} {o : Oper} {rest : List Oper} (hw : Region.wanted o (yielded ops a.tmps) = true) (ty : TypeId) (x : Operand) (ho : o.op = .load ty x) (p : Addr) (hx : a.eval x = .pointer (some p)) (c : Array Value)
    (hl : ∀ W, C W → (loadVar ty p).run P W = .ok (.agg c) W) (h : wpQuiet P ops C Q rest (a.put o.dst (.agg c))) : wpQuiet P ops C Q (o :: rest) a := by
  refine wpQuiet_step (fun K hK => ?_)
  rw [if_pos hw]
  refine ⟨.agg c, fun W hW => ?_, hK _ h⟩
  unfold Oper.quietAt execOp
  simp only [ho, hx, Instr.loadAt, Instr.sureAddr, Sem.run_bind, Sem.run_pure, Result.andThen_ok, hl W hW]
  exact ⟨rfl, rfl⟩
theorem below_of {f : FuncId} {args : Array Value} {v : Value} (h : ∀ W : World, Calls Tryz.prog f args W fun e w' => e = .returned v ∧ Below W.heap.size W w') (w : World) (d : Nat) (os : Array Obj) :
    Calls Tryz.prog f args (Sort.grow (redrawn w d) os) fun e w'' => e = .returned v ∧ ∃ p : Regrown, w'' = Sort.grow (redrawn w p.d) p.os := Calls.regrown_of (h _)
/-- the same of a callee that asks something of the memory which old memory keeps. -/
theorem below_at {f : FuncId} {args : Array Value} {v : Value} {T : World → Prop} {w : World} (h : ∀ W : World, T W → Calls Tryz.prog f args W fun e w' => e = .returned v ∧ Below W.heap.size W w') (hk : ∀ W, Below w.heap.size w W → T W) (d : Nat) (os : Array Obj) :
    Calls Tryz.prog f args (Sort.grow (redrawn w d) os) fun e w'' => e = .returned v ∧ ∃ p : Regrown, w'' = Sort.grow (redrawn w p.d) p.os := Calls.regrown_of (h _ (hk _ (below_regrown w d os)))
theorem same_of {f : FuncId} {args : Array Value} {v : Value} (h : ∀ W : World, Calls Tryz.prog f args W fun e w' => e = .returned v ∧ W = w') (w : World) (d : Nat) (os : Array Obj) :
    Calls Tryz.prog f args (Sort.grow (redrawn w d) os) fun e w'' => e = .returned v ∧ ∃ p : Regrown, w'' = Sort.grow (redrawn w p.d) p.os :=
  (h _).mono fun e w' ⟨he, hw⟩ => ⟨he, ⟨d, os⟩, hw.symm⟩
end Go.Proofs.YtpkohihnocblfaaGreatDoor.mem

/-
  What leap's checkLeap, checkExpiry, Check and Right answer. Conditions: the tables of package day hold what their initialisers lay; the slice reads as the row of leaps.
-/
namespace Go.Proofs.YtpkohihnocblfaaGreatDoor.leap
open Go.ChangeShapes Go.WideShapes Go.ChangeAt Go.RowKit
open lm mem
set_option linter.unusedVariables false
set_option maxRecDepth 100000

def rl (l : List Lp) (k : Nat) : Bool := (l.getD k z3).2.2
/-- a slice that reads as a row of leaps. -/
def Lps (w : World) (A : Option Addr) (l : List Lp) : Prop :=
  l.length ≠ 0 → ∃ b o, A = some ⟨b, o, none⟩ ∧ b < w.heap.size ∧ ∀ k, k < l.length → w.cell? ⟨b, o + k * 3, none⟩ = some (.int .i64 (dy l k)) ∧ w.cell? ⟨b, o + k * 3 + 1, none⟩ = some (.int .i64 (st l k)) ∧ w.cell? ⟨b, o + k * 3 + 2, none⟩ = some (.bool (rl l k))
theorem Lps.below {w W : World} {A : Option Addr} {l : List Lp} (h : Lps w A l) (hb : Below w.heap.size w W) : Lps W A l := by
  intro hl
  obtain ⟨b, o, e, hlt, hc⟩ := h hl
  exact ⟨b, o, e, Nat.lt_of_lt_of_le hlt hb.size, fun k hk => ⟨(hb.cell (p := ⟨b, o + k * 3, none⟩) hlt).trans (hc k hk).1, (hb.cell (p := ⟨b, o + k * 3 + 1, none⟩) hlt).trans (hc k hk).2.1, (hb.cell (p := ⟨b, o + k * 3 + 2, none⟩) hlt).trans (hc k hk).2.2⟩⟩

theorem end_at (n : Int) (w : World) (T : day.Tabs w) (h1 : 730 ≤ n) (h2 : n < 2932896) : Calls Tryz.prog 80 #[.int .i64 n] w fun e w' => e = .returned (.bool (endB n)) ∧ Below w.heap.size w w' := by
  obtain ⟨y, m, d, v, hn⟩ := day.exists_date n (by omega) (by omega)
  rw [← endB_of v hn]
  exact day.end_is y m d n w T v hn

theorem behind (d : Int) (w : World) (h1 : -1000000000000 ≤ d) (h2 : d ≤ 1000000000000) : Calls Tryz.prog 81 #[.int .i64 d] w fun e w' => e = .returned (.int .i64 ((d + 1) * 86400)) ∧ w = w' := by
  go_enter Tryz.func81, Tryz.ntmps81
  go_wp2
  go_ret
  exact ⟨rfl, rfl⟩

set_option maxHeartbeats 2000000 in
set_option maxRecDepth 100000 in
theorem check_leap (l : List Lp) (A : Option Addr) (c k : Nat) (w : World) (T : day.Tabs w) (h : Lps w A l) (hk : k < l.length) (hn : l.length ≤ 9223372036854775807) :
    Calls Tryz.prog 56 #[.slice A l.length c, .int .i64 k] w fun e w' => e = .returned (.int .i64 (wr l k)) ∧ Below w.heap.size w w' := by
  have hl0 : l.length ≠ 0 := by omega
  obtain ⟨b, o, rfl, hb0, hc⟩ := h hl0
  obtain ⟨x0, x1, x2⟩ := hc k hk
  have EN : Hid (730 ≤ dy l k → dy l k < 2932896 → ∀ W, Below w.heap.size w W → Calls Tryz.prog 80 #[.int .i64 (dy l k)] W fun e w' => e = .returned (.bool (endB (dy l k))) ∧ Below W.heap.size W w') := fun a b W hb => end_at _ W (T.below hb) a b
  have PV : Hid (0 < k → ∀ W, Below w.heap.size w W → W.cell? ⟨b, o + (k - 1) * 3, none⟩ = some (.int .i64 (dy l (k - 1)))) := fun h0 W hb => (hb.cell (p := ⟨b, o + (k - 1) * 3, none⟩) hb0).trans (hc (k - 1) (by omega)).1
  have WR : Hid (wr l k = if 200 ≤ k then 8 else if dy l k < 730 ∨ 2932896 ≤ dy l k then 9 else if endB (dy l k) = false then 5 else if st l k ≠ 1 ∧ st l k ≠ -1 then 6 else if 0 < k ∧ dy l k ≤ dy l (k - 1) then 4 else 0) := rfl
  clear hc h T
  generalize wr l k = R at *
  generalize dy l k = D at *
  generalize st l k = S at *
  generalize rl l k = O at *
  generalize dy l (k - 1) = P at *
  generalize endB D = E at *
  generalize l.length = n at *
  have B0 := Lib.hid (bal (Below.refl w.heap.size w) (.cells #[.int .i64 D, .int .i64 S, .bool O] 38))
  by_cases h200 : 200 ≤ k
  · have e : R = 8 := by rw [WR.out, if_pos h200]
    subst e
    clear WR EN PV
    go_enter Tryz.func56, Tryz.ntmps56
    go_wp2
    go_ret
    exact ⟨rfl, B0.out⟩
  by_cases hd : D < 730
  · have e : R = 9 := by rw [WR.out, if_neg h200, if_pos (Or.inl hd)]
    subst e
    clear WR EN PV
    go_enter Tryz.func56, Tryz.ntmps56
    go_wp2
    go_ret
    exact ⟨rfl, B0.out⟩
  by_cases hd2 : 2932896 ≤ D
  · have e : R = 9 := by rw [WR.out, if_neg h200, if_pos (Or.inr hd2)]
    subst e
    clear WR EN PV
    go_enter Tryz.func56, Tryz.ntmps56
    go_wp2
    go_ret
    exact ⟨rfl, B0.out⟩
  have W2 : Hid (R = if E = false then 5 else if S ≠ 1 ∧ S ≠ -1 then 6 else if 0 < k ∧ D ≤ P then 4 else 0) := by
    show R = _
    rw [WR.out, if_neg h200, if_neg (by omega)]
  have EN2 := Lib.hid (EN.out (by omega) (by omega) _ B0.out)
  clear WR EN
  cases E
  · have e : R = 5 := by rw [W2.out, if_pos rfl]
    subst e
    clear W2 PV
    go_enter Tryz.func56, Tryz.ntmps56
    go_wp2_with (go_at_call 80; with_reducible refine (EN2.out).mono ?_; rintro e w1 ⟨rfl, hb1⟩)
    go_ret
    exact ⟨rfl, btr B0.out hb1⟩
  have W3 : Hid (R = if S ≠ 1 ∧ S ≠ -1 then 6 else if 0 < k ∧ D ≤ P then 4 else 0) := by
    show R = _
    rw [W2.out, if_neg (by simp)]
  clear W2
  have CC : Hid (∀ w1, Below (w.alloc (.cells #[.int .i64 D, .int .i64 S, .bool O] 38)).heap.size (w.alloc (.cells #[.int .i64 D, .int .i64 S, .bool O] 38)) w1 → w1.cell? ⟨w.heap.size, 0, none⟩ = some (.int .i64 D) ∧ w1.cell? ⟨w.heap.size, 1, none⟩ = some (.int .i64 S)) := fun w1 hb1 => ⟨row_cell (kept (hp_new w _) hb1) 0, row_cell (kept (hp_new w _) hb1) 1⟩
  by_cases hs : S ≠ 1 ∧ S ≠ -1
  · have e : R = 6 := by rw [W3.out, if_pos hs]
    subst e
    have t1 : (S != 1) = true := by simpa using hs.1
    have t2 : (S != -1) = true := by simpa using hs.2
    clear W3 PV hs
    go_enter Tryz.func56, Tryz.ntmps56
    go_wp2_with (go_at_call 80; with_reducible refine (EN2.out).mono ?_; rintro e w1 ⟨rfl, hb1⟩; obtain ⟨y0, y1⟩ := CC.out w1 hb1)
    go_ret
    exact ⟨rfl, btr B0.out hb1⟩
  have W4 : Hid (R = if 0 < k ∧ D ≤ P then 4 else 0) := by
    show R = _
    rw [W3.out, if_neg hs]
  clear W3
  have hs2 : S = 1 ∨ S = -1 := by omega
  clear hs
  by_cases h0 : 0 < k
  · have t3 : decide (0 < (k : Int)) = true := by simp; omega
    have PV2 := Lib.hid (PV.out h0)
    clear PV
    rcases hs2 with rfl | rfl
    · by_cases hp : D ≤ P
      · have e : R = 4 := by rw [W4.out, if_pos ⟨h0, hp⟩]
        subst e
        have t4 : decide (D ≤ P) = true := by simpa using hp
        clear W4
        go_enter Tryz.func56, Tryz.ntmps56
        go_wp2_with (go_at_call 80; with_reducible refine (EN2.out).mono ?_; rintro e w1 ⟨rfl, hb1⟩; obtain ⟨y0, y1⟩ := CC.out w1 hb1; have y3 := PV2.out w1 (btr B0.out hb1))
        go_quiet (fail)
        go_wp2
        go_ret
        exact ⟨rfl, bel_drewN (btr B0.out hb1) _⟩
      · have e : R = 0 := by rw [W4.out, if_neg (fun g => hp g.2)]
        subst e
        have t4 : decide (D ≤ P) = false := by simpa using hp
        clear W4
        go_enter Tryz.func56, Tryz.ntmps56
        go_wp2_with (go_at_call 80; with_reducible refine (EN2.out).mono ?_; rintro e w1 ⟨rfl, hb1⟩; obtain ⟨y0, y1⟩ := CC.out w1 hb1; have y3 := PV2.out w1 (btr B0.out hb1))
        go_quiet (fail)
        go_wp2
        go_ret
        exact ⟨rfl, bel_drewN (btr B0.out hb1) _⟩
    · by_cases hp : D ≤ P
      · have e : R = 4 := by rw [W4.out, if_pos ⟨h0, hp⟩]
        subst e
        have t4 : decide (D ≤ P) = true := by simpa using hp
        clear W4
        go_enter Tryz.func56, Tryz.ntmps56
        go_wp2_with (go_at_call 80; with_reducible refine (EN2.out).mono ?_; rintro e w1 ⟨rfl, hb1⟩; obtain ⟨y0, y1⟩ := CC.out w1 hb1; have y3 := PV2.out w1 (btr B0.out hb1))
        go_quiet (fail)
        go_wp2
        go_ret
        exact ⟨rfl, bel_drewN (btr B0.out hb1) _⟩
      · have e : R = 0 := by rw [W4.out, if_neg (fun g => hp g.2)]
        subst e
        have t4 : decide (D ≤ P) = false := by simpa using hp
        clear W4
        go_enter Tryz.func56, Tryz.ntmps56
        go_wp2_with (go_at_call 80; with_reducible refine (EN2.out).mono ?_; rintro e w1 ⟨rfl, hb1⟩; obtain ⟨y0, y1⟩ := CC.out w1 hb1; have y3 := PV2.out w1 (btr B0.out hb1))
        go_quiet (fail)
        go_wp2
        go_ret
        exact ⟨rfl, bel_drewN (btr B0.out hb1) _⟩
  · have t3 : decide (0 < (k : Int)) = false := by simp; omega
    have e : R = 0 := by rw [W4.out, if_neg (fun g => h0 g.1)]
    subst e
    clear W4 PV
    rcases hs2 with rfl | rfl
    · go_enter Tryz.func56, Tryz.ntmps56
      go_wp2_with (go_at_call 80; with_reducible refine (EN2.out).mono ?_; rintro e w1 ⟨rfl, hb1⟩; obtain ⟨y0, y1⟩ := CC.out w1 hb1)
      go_quiet (fail)
      go_wp2
      go_ret
      exact ⟨rfl, bel_drewN (btr B0.out hb1) _⟩
    · go_enter Tryz.func56, Tryz.ntmps56
      go_wp2_with (go_at_call 80; with_reducible refine (EN2.out).mono ?_; rintro e w1 ⟨rfl, hb1⟩; obtain ⟨y0, y1⟩ := CC.out w1 hb1)
      go_quiet (fail)
      go_wp2
      go_ret
      exact ⟨rfl, bel_drewN (btr B0.out hb1) _⟩
end Go.Proofs.YtpkohihnocblfaaGreatDoor.leap
