/-
  What the document's own Clock, Second, Day and Text of layer 4 are: the same clocks and texts. No condition on the memory; the arguments as said.
-/
import Derived.Test.YtmohcjnpcnbjkaaDoorRef04
namespace Go.Proofs.YtmohcjnpcnbjkaaDoor.ref04
open Go.ChangeShapes Go.WideShapes Go.ChangeAt Go.RowKit
open cal stx
set_option linter.unusedVariables false

/-! Clock, Second -/
theorem clock_no (n : Int) (w : World) (h : n < 0 ∨ 86400 < n) :
    Calls Tryd.prog 10 #[.int .i64 n] w fun e w' => e = .returned (.tuple #[.int .i64 0, .int .i64 0, .int .i64 0, .bool false]) ∧ w = w' := by
  by_cases h1 : n < 0
  · clear h
    go_enter Tryd.func10, Tryd.ntmps10
    go_wp2
    exact bodyPost_ret (v := .tuple #[.int .i64 0, .int .i64 0, .int .i64 0, .bool false]) (by simp [results, Tryd.results10, go_sem]) rfl ⟨rfl, rfl⟩
  · have h2 : 86400 < n := by omega
    clear h
    go_enter Tryd.func10, Tryd.ntmps10
    go_wp2
    exact bodyPost_ret (v := .tuple #[.int .i64 0, .int .i64 0, .int .i64 0, .bool false]) (by simp [results, Tryd.results10, go_sem]) rfl ⟨rfl, rfl⟩
theorem ret_t3 {a b c a' b' c' : Int} (h1 : a = a') (h2 : b = b') (h3 : c = c') : Ending.returned (.tuple #[.int .i64 a, .int .i64 b, .int .i64 c, .bool true]) = .returned (.tuple #[.int .i64 a', .int .i64 b', .int .i64 c', .bool true]) := by rw [h1, h2, h3]
theorem clock_yes (h i x n : Int) (w : World) (c : Clk h i x) (e : secN h i x = n) :
    Calls Tryd.prog 10 #[.int .i64 n] w fun e w' => e = .returned (.tuple #[.int .i64 h, .int .i64 i, .int .i64 x, .bool true]) ∧ w = w' := by
  have bd := secN_bd c
  have tp := secN_top c
  by_cases hx : x = 60
  · obtain ⟨rfl, rfl⟩ : h = 23 ∧ i = 59 := by unfold Clk at c; omega
    subst hx
    obtain rfl : n = 86400 := by rw [← e]; decide
    clear bd tp c e
    go_enter Tryd.func10, Tryd.ntmps10
    go_wp2
    exact bodyPost_ret (v := .tuple #[.int .i64 23, .int .i64 59, .int .i64 60, .bool true]) (by simp [results, Tryd.results10, go_sem]) rfl ⟨rfl, rfl⟩
  · obtain ⟨e1, e2, e3⟩ := secN_parts c hx
    have e1 := Lib.hid e1
    have e2 := Lib.hid e2
    have e3 := Lib.hid e3
    have ht : ¬ n = 86400 := fun k => hx (tp.1 (by omega))
    have tb : (n == 86400) = false := by simpa using ht
    have b0 : 0 ≤ n := by omega
    have b1 : n < 86400 := by omega
    clear bd tp c hx ht
    obtain ⟨n, rfl⟩ : ∃ k, n = k := ⟨n, rfl⟩
    rw [e] at e1 e2 e3
    clear e
    go_enter Tryd.func10, Tryd.ntmps10
    go_wp2
    exact bodyPost_ret (v := .tuple #[.int .i64 (n / 3600), .int .i64 (n / 60 % 60), .int .i64 (n % 60), .bool true]) (by simp [results, Tryd.results10, go_sem]) rfl ⟨ret_t3 e1.out e2.out e3.out, rfl⟩
theorem ret_ib {a b : Int} {c : Bool} (h : a = b) : Ending.returned (.tuple #[.int .i64 a, .bool c]) = .returned (.tuple #[.int .i64 b, .bool c]) := by rw [h]
theorem second_yes (h i x n : Int) (w : World) (c : Clk h i x) (e : secN h i x = n) :
    Calls Tryd.prog 12 #[.int .i64 h, .int .i64 i, .int .i64 x] w fun e w' => e = .returned (.tuple #[.int .i64 n, .bool true]) ∧ w = w' := by
  subst e
  by_cases hx : x = 60
  · obtain ⟨rfl, rfl⟩ : h = 23 ∧ i = 59 := by unfold Clk at c; omega
    subst hx
    rw [show secN 23 59 60 = 86400 by decide]
    clear c
    go_enter Tryd.func12, Tryd.ntmps12
    go_wp2
    go_ret2
    exact ⟨rfl, rfl⟩
  · have E : Hid (secN h i x = h * 3600 + i * 60 + x) := by show secN h i x = _; unfold secN; omega
    obtain ⟨c1, c2, c3, c4, c5, c6⟩ := clk_bd c
    have tb : (x == 60) = false := by simpa using hx
    have c7 : x ≤ 59 := by omega
    clear c hx
    generalize secN h i x = N at *
    go_enter Tryd.func12, Tryd.ntmps12
    go_wp2
    all_goals
      go_ret2
      exact ⟨ret_ib (by have := E.out; omega), rfl⟩
theorem second_no (h i x : Int) (w : World) (c : ¬ Clk h i x) :
    Calls Tryd.prog 12 #[.int .i64 h, .int .i64 i, .int .i64 x] w fun e w' => e = .returned (.tuple #[.int .i64 0, .bool false]) ∧ w = w' := by
  have k : ¬ (h = 23 ∧ i = 59 ∧ x = 60) := fun k => c (Or.inr k)
  have k2 : h < 0 ∨ 23 < h ∨ i < 0 ∨ 59 < i ∨ x < 0 ∨ 60 ≤ x := by unfold Clk at c; omega
  clear c
  go_enter Tryd.func12, Tryd.ntmps12
  go_wp2
  all_goals first
    | (exfalso; simp_all; done)
    | (exfalso; simp_all; omega)
    | (exfalso; omega)
    | (go_ret2; exact ⟨rfl, rfl⟩)

/-! Day, Text -/
theorem ret_sb {a b : ByteArray} {c : Bool} (h : a = b) : Ending.returned (.tuple #[.string a, .bool c]) = .returned (.tuple #[.string b, .bool c]) := by rw [h]
theorem day_off {w : World} (W : World) (hb : Below w.heap.size w W) (n : Int) (h : n < -719162 ∨ 2932896 < n) :
    Calls Tryd.prog 18 #[.int .i64 n] W fun e w' => e = .returned (.tuple #[.string ⟨#[]⟩, .bool false]) ∧ Below w.heap.size w w' := by
  have C := Lib.hid (fun W hb => ref03.date_off (w := w) W hb n h)
  clear h
  go_enter Tryd.func18, Tryd.ntmps18
  go_wp2_with (first
    | (go_at_call 26; (with_reducible refine (C.out _ (by assumption)).mono ?_; rintro e w1 ⟨rfl, hb1⟩)))
  go_ret2
  exact ⟨rfl, by assumption⟩
theorem day_on {w : World} (W : World) (hb : Below w.heap.size w W) (y m d n : Int) (v : Vld y m d) (hn : num y m d = n) :
    Calls Tryd.prog 18 #[.int .i64 n] W fun e w' => e = .returned (.tuple #[.string (dtx y m d), .bool true]) ∧ Below w.heap.size w w' := by
  have C := Lib.hid (fun W hb => ref03.date_on (w := w) W hb y m d n v hn)
  have bd := dim_bd y m
  obtain ⟨h1, h2, h3, h4, h5, h6⟩ := v
  have Y := Lib.hid (fun W hb => digits4_on (w := w) W hb y (by omega) (by omega))
  have M := Lib.hid (fun W hb => digits2_on (w := w) W hb m (by omega) (by omega))
  have D := Lib.hid (fun W hb => digits2_on (w := w) W hb d (by omega) (by omega))
  have E := Lib.hid (dtx_cat y m d)
  have s1 := d4_size y
  have s2 := d2_size m
  have s3 := d2_size d
  generalize d4 y = Y4 at *
  generalize d2 m = M2 at *
  generalize d2 d = D2 at *
  clear hn bd
  go_enter Tryd.func18, Tryd.ntmps18
  go_wp2_with (first
    | (go_at_call 26; (with_reducible refine (C.out _ (by assumption)).mono ?_; rintro e w1 ⟨rfl, hb1⟩))
    | (go_at_call 20; (first | (with_reducible refine (Y.out _ (by assumption)).mono ?_; rintro e w2 ⟨rfl, hb2⟩) | (with_reducible refine (M.out _ (by assumption)).mono ?_; rintro e w3 ⟨rfl, hb3⟩) | (with_reducible refine (D.out _ (by assumption)).mono ?_; rintro e w4 ⟨rfl, hb4⟩))))
  go_ret2
  exact ⟨ret_sb E.out, by assumption⟩
theorem text_off {w : World} (W : World) (hb : Below w.heap.size w W) (n k : Int) (h : n < -719162 ∨ 2932896 < n ∨ k < 0 ∨ 86400 < k) :
    Calls Tryd.prog 14 #[.int .i64 n, .int .i64 k] W fun e w' => e = .returned (.tuple #[.string ⟨#[]⟩, .bool false]) ∧ Below w.heap.size w w' := by
  by_cases hk : k < 0 ∨ 86400 < k
  · have K := Lib.hid (fun W => clock_no k W hk)
    by_cases hd : n < -719162 ∨ 2932896 < n
    · have C := Lib.hid (fun W hb => day_off (w := w) W hb n hd)
      clear h hd hk
      go_enter Tryd.func14, Tryd.ntmps14
      go_wp2_with (first
        | (go_at_call 18; (with_reducible refine (C.out _ (by assumption)).mono ?_; rintro e w1 ⟨rfl, hb1⟩))
        | (go_at_call 10; (with_reducible refine (K.out _).mono ?_; rintro e w' ⟨rfl, rfl⟩)))
      go_ret2
      exact ⟨rfl, by assumption⟩
    · obtain ⟨y, m, d, v, e⟩ := day.exists_date n (by omega) (by omega)
      have C := Lib.hid (fun W hb => day_on (w := w) W hb y m d n v e)
      generalize dtx y m d = X at *
      clear h hd hk v e
      go_enter Tryd.func14, Tryd.ntmps14
      go_wp2_with (first
        | (go_at_call 18; (with_reducible refine (C.out _ (by assumption)).mono ?_; rintro e w1 ⟨rfl, hb1⟩))
        | (go_at_call 10; (with_reducible refine (K.out _).mono ?_; rintro e w' ⟨rfl, rfl⟩)))
      go_ret2
      exact ⟨rfl, by assumption⟩
  · have hd : n < -719162 ∨ 2932896 < n := by omega
    have C := Lib.hid (fun W hb => day_off (w := w) W hb n hd)
    obtain ⟨a, b, c, ca, ea⟩ := exists_clk k (by omega) (by omega)
    have K := Lib.hid (fun W => clock_yes a b c k W ca ea)
    clear h hd hk ca ea
    go_enter Tryd.func14, Tryd.ntmps14
    go_wp2_with (first
      | (go_at_call 18; (with_reducible refine (C.out _ (by assumption)).mono ?_; rintro e w1 ⟨rfl, hb1⟩))
      | (go_at_call 10; (with_reducible refine (K.out _).mono ?_; rintro e w' ⟨rfl, rfl⟩)))
    go_ret2
    exact ⟨rfl, by assumption⟩
theorem text_on {w : World} (W : World) (hb : Below w.heap.size w W) (y m d h i x n k : Int) (v : Vld y m d) (hn : num y m d = n) (c : Clk h i x) (hk : secN h i x = k) :
    Calls Tryd.prog 14 #[.int .i64 n, .int .i64 k] W fun e w' => e = .returned (.tuple #[.string (txt y m d h i x), .bool true]) ∧ Below w.heap.size w w' := by
  have C := Lib.hid (fun W hb => day_on (w := w) W hb y m d n v hn)
  have K := Lib.hid (fun W => clock_yes h i x k W c hk)
  obtain ⟨h1, h2, h3, h4, h5, h6⟩ := clk_bd c
  have H := Lib.hid (fun W hb => digits2_on (w := w) W hb h (by omega) (by omega))
  have I := Lib.hid (fun W hb => digits2_on (w := w) W hb i (by omega) (by omega))
  have X := Lib.hid (fun W hb => digits2_on (w := w) W hb x (by omega) (by omega))
  have E := Lib.hid (txt_cat y m d h i x)
  have s0 := dtx_size y m d
  have s1 := d2_size h
  have s2 := d2_size i
  have s3 := d2_size x
  generalize dtx y m d = D0 at *
  generalize d2 h = H2 at *
  generalize d2 i = I2 at *
  generalize d2 x = X2 at *
  clear hn hk v c
  go_enter Tryd.func14, Tryd.ntmps14
  go_wp2_with (first
    | (go_at_call 18; (with_reducible refine (C.out _ (by assumption)).mono ?_; rintro e w1 ⟨rfl, hb1⟩))
    | (go_at_call 10; (with_reducible refine (K.out _).mono ?_; rintro e w' ⟨rfl, rfl⟩))
    | (go_at_call 20; (first | (with_reducible refine (H.out _ (by assumption)).mono ?_; rintro e w3 ⟨rfl, hb3⟩) | (with_reducible refine (I.out _ (by assumption)).mono ?_; rintro e w4 ⟨rfl, hb4⟩) | (with_reducible refine (X.out _ (by assumption)).mono ?_; rintro e w5 ⟨rfl, hb5⟩))))
  go_ret2
  exact ⟨ret_sb E.out, by assumption⟩
theorem second_on {w : World} (W : World) (hb : Below w.heap.size w W) (h i x n : Int) (c : Clk h i x) (e : secN h i x = n) :
    Calls Tryd.prog 12 #[.int .i64 h, .int .i64 i, .int .i64 x] W fun e w' => e = .returned (.tuple #[.int .i64 n, .bool true]) ∧ Below w.heap.size w w' :=
  (second_yes h i x n W c e).mono fun e w' ⟨he, hw⟩ => ⟨he, hw ▸ hb⟩
theorem second_off {w : World} (W : World) (hb : Below w.heap.size w W) (h i x : Int) (c : ¬ Clk h i x) :
    Calls Tryd.prog 12 #[.int .i64 h, .int .i64 i, .int .i64 x] W fun e w' => e = .returned (.tuple #[.int .i64 0, .bool false]) ∧ Below w.heap.size w w' :=
  (second_no h i x W c).mono fun e w' ⟨he, hw⟩ => ⟨he, hw ▸ hb⟩
theorem clock_on {w : World} (W : World) (hb : Below w.heap.size w W) (h i x n : Int) (c : Clk h i x) (e : secN h i x = n) :
    Calls Tryd.prog 10 #[.int .i64 n] W fun e w' => e = .returned (.tuple #[.int .i64 h, .int .i64 i, .int .i64 x, .bool true]) ∧ Below w.heap.size w w' :=
  (clock_yes h i x n W c e).mono fun e w' ⟨he, hw⟩ => ⟨he, hw ▸ hb⟩
theorem clock_off {w : World} (W : World) (hb : Below w.heap.size w W) (n : Int) (h : n < 0 ∨ 86400 < n) :
    Calls Tryd.prog 10 #[.int .i64 n] W fun e w' => e = .returned (.tuple #[.int .i64 0, .int .i64 0, .int .i64 0, .bool false]) ∧ Below w.heap.size w w' :=
  (clock_no n W h).mono fun e w' ⟨he, hw⟩ => ⟨he, hw ▸ hb⟩
end Go.Proofs.YtmohcjnpcnbjkaaDoor.ref04
