/-
  What the document's own Parse of layer 4 is: the day and the second of a text that says one, and true; noughts and false of any other. No condition on the memory; the text is no longer than an int can tell.
-/
import Derived.Test.YtmohcjnpcnbjkaaDoorRef04Text
import Derived.Test.YtmohcjnpcnbjkaaDoorStampOrd
import Derived.Lib.QuietBelow
namespace Go.Proofs.YtmohcjnpcnbjkaaDoor.ref04
open Go.ChangeShapes Go.WideShapes Go.ChangeAt Go.RowKit
open cal stx
set_option linter.unusedVariables false

/-! pieces of twenty bytes -/
theorem bt_extract (s : ByteArray) (a b j : Nat) (h : a + j < b) (hb : b ≤ s.size) : bt (s.extract a b) j = bt s (a + j) := by
  obtain ⟨⟨l⟩⟩ := s
  have hl : b ≤ l.length := hb
  have e : ((⟨l.toArray⟩ : ByteArray).extract a b).data.toList = (l.drop a).take (b - a) := by rw [ByteArray.extract_mk]
  have e2 : ((⟨⟨l⟩⟩ : ByteArray).extract a b).data.toList = (l.drop a).take (b - a) := e
  unfold bt
  rw [e2, List.getD_eq_getElem?_getD, List.getD_eq_getElem?_getD, List.getElem?_take_of_lt (by omega), List.getElem?_drop]
theorem ext_size (s : ByteArray) (a b : Nat) (hb : b ≤ s.size) : (s.extract a b).size = b - a := by
  simp; omega
theorem digs_two (s : ByteArray) (a : Nat) (h : a + 2 ≤ s.size) : Digs (s.extract a (a + 2)) ↔ (48 ≤ bt s a ∧ bt s a ≤ 57) ∧ (48 ≤ bt s (a + 1) ∧ bt s (a + 1) ≤ 57) := by
  have e0 : bt (s.extract a (a + 2)) 0 = bt s a := bt_extract s a (a + 2) 0 (by omega) h
  have e1 := bt_extract s a (a + 2) 1 (by omega) h
  have z := ext_size s a (a + 2) h
  unfold Digs
  rw [z, ← e0, ← e1]
  constructor
  · intro k
    exact ⟨k 0 (by omega), k 1 (by omega)⟩
  · intro k j hj
    have : j = 0 ∨ j = 1 := by omega
    rcases this with rfl | rfl
    · exact k.1
    · exact k.2
theorem nv_two (s : ByteArray) (a : Nat) (h : a + 2 ≤ s.size) : nv (s.extract a (a + 2)) (s.extract a (a + 2)).size = r2 s a (a + 1) := by
  rw [ext_size s a (a + 2) h, show a + 2 - a = 2 by omega]
  show 10 * (10 * 0 + ((bt (s.extract a (a + 2)) 0 : Int) - 48)) + ((bt (s.extract a (a + 2)) 1 : Int) - 48) = _
  rw [bt_extract s a (a + 2) 0 (by omega) h, bt_extract s a (a + 2) 1 (by omega) h]
  unfold r2
  rw [Nat.add_zero]
  omega
theorem digs_four (s : ByteArray) (h : 4 ≤ s.size) : Digs (s.extract 0 4) ↔ (48 ≤ bt s 0 ∧ bt s 0 ≤ 57) ∧ (48 ≤ bt s 1 ∧ bt s 1 ≤ 57) ∧ (48 ≤ bt s 2 ∧ bt s 2 ≤ 57) ∧ (48 ≤ bt s 3 ∧ bt s 3 ≤ 57) := by
  have e0 : bt (s.extract 0 4) 0 = bt s 0 := bt_extract s 0 4 0 (by omega) h
  have e1 : bt (s.extract 0 4) 1 = bt s 1 := bt_extract s 0 4 1 (by omega) h
  have e2 : bt (s.extract 0 4) 2 = bt s 2 := bt_extract s 0 4 2 (by omega) h
  have e3 : bt (s.extract 0 4) 3 = bt s 3 := bt_extract s 0 4 3 (by omega) h
  have z := ext_size s 0 4 h
  unfold Digs
  rw [z, ← e0, ← e1, ← e2, ← e3]
  constructor
  · intro k
    exact ⟨k 0 (by omega), k 1 (by omega), k 2 (by omega), k 3 (by omega)⟩
  · intro k j hj
    have : j = 0 ∨ j = 1 ∨ j = 2 ∨ j = 3 := by omega
    rcases this with rfl | rfl | rfl | rfl
    · exact k.1
    · exact k.2.1
    · exact k.2.2.1
    · exact k.2.2.2
theorem nv_four (s : ByteArray) (h : 4 ≤ s.size) : nv (s.extract 0 4) (s.extract 0 4).size = rY s := by
  rw [ext_size s 0 4 h]
  show 10 * (10 * (10 * (10 * 0 + ((bt (s.extract 0 4) 0 : Int) - 48)) + ((bt (s.extract 0 4) 1 : Int) - 48)) + ((bt (s.extract 0 4) 2 : Int) - 48)) + ((bt (s.extract 0 4) 3 : Int) - 48) = _
  rw [bt_extract s 0 4 0 (by omega) h, bt_extract s 0 4 1 (by omega) h, bt_extract s 0 4 2 (by omega) h, bt_extract s 0 4 3 (by omega) h]
  simp only [Nat.zero_add]
  unfold rY
  omega

/-! what is read of pieces -/
/-- the number of a piece: that of its digits, or one below nought. -/
def Piece (z : ByteArray) (v : Int) : Prop := Digs z ∧ v = nv z z.size ∨ ¬ Digs z ∧ v = -1
theorem piece_is (z : ByteArray) (hz : z.size ≤ 4) : ∃ v : Int, Piece z v ∧ ∀ W : World, Calls Tryd.prog 24 #[.string z] W fun e w' => e = .returned (.int .i64 v) ∧ W = w' := by
  by_cases h : Digs z
  · refine ⟨nv z z.size, Or.inl ⟨h, rfl⟩, fun W => (number_told z W hz).mono ?_⟩
    rintro e w' ⟨k | k, hw⟩
    · exact ⟨k.2, hw⟩
    · exact absurd h k.1
  · refine ⟨-1, Or.inr ⟨h, rfl⟩, fun W => (number_told z W hz).mono ?_⟩
    rintro e w' ⟨k | k, hw⟩
    · exact absurd k.1 h
    · exact ⟨k.2, hw⟩

/-! the region -/
theorem same_of {f : FuncId} {args : Array Value} {v : Value} (h : ∀ W : World, Calls Tryd.prog f args W fun e w' => e = .returned v ∧ W = w') (w : World) (d : Nat) (os : Array Obj) :
    Calls Tryd.prog f args (Sort.grow (redrawn w d) os) fun e w'' => e = .returned v ∧ ∃ p : Regrown, w'' = Sort.grow (redrawn w p.d) p.os :=
  (h _).mono fun e w' ⟨he, hw⟩ => ⟨he, ⟨d, os⟩, hw.symm⟩
theorem below_of {f : FuncId} {args : Array Value} {v : Value} (h : ∀ W : World, Calls Tryd.prog f args W fun e w' => e = .returned v ∧ Below W.heap.size W w') (w : World) (d : Nat) (os : Array Obj) :
    Calls Tryd.prog f args (Sort.grow (redrawn w d) os) fun e w'' => e = .returned v ∧ ∃ p : Regrown, w'' = Sort.grow (redrawn w p.d) p.os :=
  Calls.regrown_of (h _)

set_option maxHeartbeats 4000000 in
theorem parse_walk {w : World} (W : World) (hb : Below w.heap.size w W) (s : ByteArray) (z0 : s.size = 20) (Y M D H I X n k : Int) (ok is q : Bool) (t : ByteArray)
    (n1 : ∀ W : World, Calls Tryd.prog 24 #[.string (s.extract 0 4)] W fun e w' => e = .returned (.int .i64 Y) ∧ W = w')
    (n2 : ∀ W : World, Calls Tryd.prog 24 #[.string (s.extract 5 7)] W fun e w' => e = .returned (.int .i64 M) ∧ W = w')
    (n3 : ∀ W : World, Calls Tryd.prog 24 #[.string (s.extract 8 10)] W fun e w' => e = .returned (.int .i64 D) ∧ W = w')
    (n4 : ∀ W : World, Calls Tryd.prog 24 #[.string (s.extract 11 13)] W fun e w' => e = .returned (.int .i64 H) ∧ W = w')
    (n5 : ∀ W : World, Calls Tryd.prog 24 #[.string (s.extract 14 16)] W fun e w' => e = .returned (.int .i64 I) ∧ W = w')
    (n6 : ∀ W : World, Calls Tryd.prog 24 #[.string (s.extract 17 19)] W fun e w' => e = .returned (.int .i64 X) ∧ W = w')
    (cN : ∀ W : World, Calls Tryd.prog 23 #[.int .i64 Y, .int .i64 M, .int .i64 D] W fun e w' => e = .returned (.tuple #[.int .i64 n, .bool ok]) ∧ Below W.heap.size W w')
    (cS : ∀ W : World, Calls Tryd.prog 12 #[.int .i64 H, .int .i64 I, .int .i64 X] W fun e w' => e = .returned (.tuple #[.int .i64 k, .bool is]) ∧ W = w')
    (cT : ∀ W : World, Below w.heap.size w W → Calls Tryd.prog 14 #[.int .i64 n, .int .i64 k] W fun e w' => e = .returned (.tuple #[.string t, .bool true]) ∧ Below w.heap.size w w')
    (hq : (t.toList == s.toList) = q) (n' k' : Int) (b' : Bool) (hr : ok = true ∧ is = true ∧ q = true ∧ n' = n ∧ k' = k ∧ b' = true ∨ ¬ (ok = true ∧ is = true ∧ q = true) ∧ n' = 0 ∧ k' = 0 ∧ b' = false) :
    Calls Tryd.prog 16 #[.string s] W fun e w' => e = .returned (.tuple #[.int .i64 n', .int .i64 k', .bool b']) ∧ Below w.heap.size w w' := by
  have C1 := Lib.hid (fun w d os => same_of n1 w d os)
  have C2 := Lib.hid (fun w d os => same_of n2 w d os)
  have C3 := Lib.hid (fun w d os => same_of n3 w d os)
  have C4 := Lib.hid (fun w d os => same_of n4 w d os)
  have C5 := Lib.hid (fun w d os => same_of n5 w d os)
  have C6 := Lib.hid (fun w d os => same_of n6 w d os)
  have CN := Lib.hid (fun w d os => below_of cN w d os)
  have CS := Lib.hid (fun w d os => same_of cS w d os)
  have CT := Lib.hid cT
  have HR := Lib.hid hr
  clear n1 n2 n3 n4 n5 n6 cN cS cT hr
  go_enter Tryd.func16, Tryd.ntmps16
  go_wp2
  refine wp_region_quiet_below (by kernel_rfl) (by kernel_rfl) ?_
  repeat (quiet_step (first
    | (go_at_call 24; first | with_reducible exact C1.out _ _ _ | with_reducible exact C2.out _ _ _ | with_reducible exact C3.out _ _ _)
    | (go_at_call 23; with_reducible exact CN.out _ _ _)))
  refine wpQuiet_nil ?_
  intro _ hw'
  obtain ⟨⟨dq, osq⟩, hw''⟩ := hw'
  subst hw''
  have hb1 : Below w.heap.size w (Sort.grow (redrawn W dq) osq) := hb.trans ((below_regrown W dq osq).mono hb.size)
  generalize Sort.grow (redrawn W dq) osq = W1 at *
  go_wp2
  refine wp_region_quiet_below (by kernel_rfl) (by kernel_rfl) ?_
  repeat (quiet_step (first
    | (go_at_call 24; first | with_reducible exact C4.out _ _ _ | with_reducible exact C5.out _ _ _ | with_reducible exact C6.out _ _ _)
    | (go_at_call 12; with_reducible exact CS.out _ _ _)))
  refine wpQuiet_nil ?_
  intro _ hw'
  obtain ⟨⟨dq, osq⟩, hw''⟩ := hw'
  subst hw''
  have hb2 : Below w.heap.size w (Sort.grow (redrawn W1 dq) osq) := hb1.trans ((below_regrown W1 dq osq).mono hb1.size)
  generalize Sort.grow (redrawn W1 dq) osq = W2 at *
  clear C1 C2 C3 C4 C5 C6 CN CS
  have done : ∀ (e : Ending) (V : World), (ok = true ∧ is = true ∧ q = true → e = .returned (.tuple #[.int .i64 n, .int .i64 k, .bool true])) → (¬ (ok = true ∧ is = true ∧ q = true) → e = .returned (.tuple #[.int .i64 0, .int .i64 0, .bool false])) → e = .returned (.tuple #[.int .i64 n', .int .i64 k', .bool b']) := by
    intro e V h1 h2
    rcases HR.out with ⟨a, b, c, rfl, rfl, rfl⟩ | ⟨a, rfl, rfl, rfl⟩
    · exact h1 ⟨a, b, c⟩
    · exact h2 a
  have DN := Lib.hid done
  clear done HR
  cases ok with
  | false =>
    go_wp2_with (first
      | (go_at_call 14; (with_reducible refine (CT.out _ (by assumption)).mono ?_; rintro e w1 ⟨rfl, hb1⟩)))
    go_ret3
    exact ⟨DN.out _ w (by simp) (fun _ => rfl), by assumption⟩
  | true =>
    cases is with
    | false =>
      go_wp2_with (first
        | (go_at_call 14; (with_reducible refine (CT.out _ (by assumption)).mono ?_; rintro e w1 ⟨rfl, hb1⟩)))
      go_ret3
      exact ⟨DN.out _ w (by simp) (fun _ => rfl), by assumption⟩
    | true =>
      cases q with
      | false =>
        go_wp2_with (first
          | (go_at_call 14; (with_reducible refine (CT.out _ (by assumption)).mono ?_; rintro e w1 ⟨rfl, hb1⟩)))
        go_ret3
        exact ⟨DN.out _ w (by simp) (fun _ => rfl), by assumption⟩
      | true =>
        go_wp2_with (first
          | (go_at_call 14; (with_reducible refine (CT.out _ (by assumption)).mono ?_; rintro e w1 ⟨rfl, hb1⟩)))
        go_ret3
        exact ⟨DN.out _ w (fun _ => rfl) (by simp), by assumption⟩
theorem parse_size (s : ByteArray) (w : World) (h : s.size ≠ 20) (hm : s.size ≤ 9223372036854775807) :
    Calls Tryd.prog 16 #[.string s] w fun e w' => e = .returned (.tuple #[.int .i64 0, .int .i64 0, .bool false]) ∧ w = w' := by
  have t : ((s.size : Int) != 20) = true := by simp; omega
  clear h
  go_enter Tryd.func16, Tryd.ntmps16
  go_wp2
  go_ret3
  exact ⟨rfl, rfl⟩
theorem text_some {w : World} (n k : Int) (h1 : -719162 ≤ n) (h2 : n ≤ 2932896) (h3 : 0 ≤ k) (h4 : k ≤ 86400) : ∃ t : ByteArray, ∀ W : World, Below w.heap.size w W → Calls Tryd.prog 14 #[.int .i64 n, .int .i64 k] W fun e w' => e = .returned (.tuple #[.string t, .bool true]) ∧ Below w.heap.size w w' := by
  obtain ⟨y, m, d, v, e⟩ := day.exists_date n h1 h2
  obtain ⟨h, i, x, c, ec⟩ := exists_clk k h3 h4
  exact ⟨txt y m d h i x, fun W hb => text_on (w := w) W hb y m d h i x n k v e c ec⟩
theorem parse_on {w : World} (W : World) (hb : Below w.heap.size w W) (y m d h i x n k : Int) (v : Vld y m d) (hn : num y m d = n) (c : Clk h i x) (hk : secN h i x = k) :
    Calls Tryd.prog 16 #[.string (txt y m d h i x)] W fun e w' => e = .returned (.tuple #[.int .i64 n, .int .i64 k, .bool true]) ∧ Below w.heap.size w w' := by
  have f := txt_fits y m d h i x
  have z0 := txt_size y m d h i x
  obtain ⟨e1, e2, e3, e4, e5, e6⟩ := txt_read (six_of v c)
  have T := fun W hb => text_on (w := w) W hb y m d h i x n k v hn c hk
  generalize txt y m d h i x = s at *
  have g : ∀ j, j < 20 → lay j = 48 → 48 ≤ bt s j ∧ bt s j ≤ 57 := fun j hj hl => fit_dig (f.2 j hj) hl
  obtain ⟨Y, p1, n1⟩ := piece_is (s.extract 0 4) (by rw [ext_size s 0 4 (by omega)]; omega)
  obtain ⟨M, p2, n2⟩ := piece_is (s.extract 5 7) (by rw [ext_size s 5 7 (by omega)]; omega)
  obtain ⟨D, p3, n3⟩ := piece_is (s.extract 8 10) (by rw [ext_size s 8 10 (by omega)]; omega)
  obtain ⟨H, p4, n4⟩ := piece_is (s.extract 11 13) (by rw [ext_size s 11 13 (by omega)]; omega)
  obtain ⟨I, p5, n5⟩ := piece_is (s.extract 14 16) (by rw [ext_size s 14 16 (by omega)]; omega)
  obtain ⟨X, p6, n6⟩ := piece_is (s.extract 17 19) (by rw [ext_size s 17 19 (by omega)]; omega)
  have two : ∀ (a : Nat) (u : Int), a + 2 ≤ 20 → lay a = 48 → lay (a + 1) = 48 → Piece (s.extract a (a + 2)) u → u = r2 s a (a + 1) := by
    intro a u ha l1 l2 p
    rcases p with ⟨_, p⟩ | ⟨p, _⟩
    · rw [p, nv_two s a (by omega)]
    · exact absurd ((digs_two s a (by omega)).2 ⟨g a (by omega) l1, g (a + 1) (by omega) l2⟩) p
  obtain rfl : y = Y := by
    rcases p1 with ⟨_, p⟩ | ⟨p, _⟩
    · rw [p, nv_four s (by omega), e1]
    · exact absurd ((digs_four s (by omega)).2 ⟨g 0 (by omega) rfl, g 1 (by omega) rfl, g 2 (by omega) rfl, g 3 (by omega) rfl⟩) p
  obtain rfl : m = M := by rw [two 5 M (by omega) rfl rfl p2, e2]
  obtain rfl : d = D := by rw [two 8 D (by omega) rfl rfl p3, e3]
  obtain rfl : h = H := by rw [two 11 H (by omega) rfl rfl p4, e4]
  obtain rfl : i = I := by rw [two 14 I (by omega) rfl rfl p5, e5]
  obtain rfl : x = X := by rw [two 17 X (by omega) rfl rfl p6, e6]
  have cN := fun W => ref03.number_on (w := W) W (Below.refl _ _) y m d v
  rw [hn] at cN
  exact parse_walk W hb s z0 y m d h i x n k true true true s n1 n2 n3 n4 n5 n6 cN (fun W => second_yes h i x k W c hk) T (by simp) n k true (Or.inl ⟨rfl, rfl, rfl, rfl, rfl, rfl⟩)
theorem parse_off {w : World} (W : World) (hb : Below w.heap.size w W) (s : ByteArray) (hm : s.size ≤ 9223372036854775807) (no : ∀ y m d h i x : Int, Vld y m d → Clk h i x → s ≠ txt y m d h i x) :
    Calls Tryd.prog 16 #[.string s] W fun e w' => e = .returned (.tuple #[.int .i64 0, .int .i64 0, .bool false]) ∧ Below w.heap.size w w' := by
  by_cases z0 : s.size = 20
  · obtain ⟨Y, p1, n1⟩ := piece_is (s.extract 0 4) (by rw [ext_size s 0 4 (by omega)]; omega)
    obtain ⟨M, p2, n2⟩ := piece_is (s.extract 5 7) (by rw [ext_size s 5 7 (by omega)]; omega)
    obtain ⟨D, p3, n3⟩ := piece_is (s.extract 8 10) (by rw [ext_size s 8 10 (by omega)]; omega)
    obtain ⟨H, p4, n4⟩ := piece_is (s.extract 11 13) (by rw [ext_size s 11 13 (by omega)]; omega)
    obtain ⟨I, p5, n5⟩ := piece_is (s.extract 14 16) (by rw [ext_size s 14 16 (by omega)]; omega)
    obtain ⟨X, p6, n6⟩ := piece_is (s.extract 17 19) (by rw [ext_size s 17 19 (by omega)]; omega)
    clear p1 p2 p3 p4 p5 p6
    by_cases v : Vld Y M D
    · have cN := fun W => ref03.number_on (w := W) W (Below.refl _ _) Y M D v
      have nb := num_bd v
      by_cases c : Clk H I X
      · refine parse_walk W hb s z0 Y M D H I X _ _ true true false (txt Y M D H I X) n1 n2 n3 n4 n5 n6 cN (fun W => second_yes H I X _ W c rfl) (fun W hb => text_on (w := w) W hb Y M D H I X _ _ v rfl c rfl) ?_ 0 0 false (Or.inr ⟨by simp, rfl, rfl, rfl⟩)
        rw [beq_text, decide_eq_false_iff_not]
        exact fun e => no Y M D H I X v c e.symm
      · obtain ⟨t, cT⟩ := text_some (w := w) (num Y M D) 0 nb.1 nb.2 (by omega) (by omega)
        exact parse_walk W hb s z0 Y M D H I X _ 0 true false _ t n1 n2 n3 n4 n5 n6 cN (fun W => second_no H I X W c) cT rfl 0 0 false (Or.inr ⟨by simp, rfl, rfl, rfl⟩)
    · have cN := fun W => ref03.number_off (w := W) W (Below.refl _ _) Y M D v
      by_cases c : Clk H I X
      · have sb := secN_bd c
        obtain ⟨t, cT⟩ := text_some (w := w) 0 (secN H I X) (by omega) (by omega) sb.1 sb.2
        exact parse_walk W hb s z0 Y M D H I X 0 _ false true _ t n1 n2 n3 n4 n5 n6 cN (fun W => second_yes H I X _ W c rfl) cT rfl 0 0 false (Or.inr ⟨by simp, rfl, rfl, rfl⟩)
      · obtain ⟨t, cT⟩ := text_some (w := w) 0 0 (by omega) (by omega) (by omega) (by omega)
        exact parse_walk W hb s z0 Y M D H I X 0 0 false false _ t n1 n2 n3 n4 n5 n6 cN (fun W => second_no H I X W c) cT rfl 0 0 false (Or.inr ⟨by simp, rfl, rfl, rfl⟩)
  · exact (parse_size s W z0 hm).mono fun e w' ⟨he, hw⟩ => ⟨he, hw ▸ hb⟩
end Go.Proofs.YtmohcjnpcnbjkaaDoor.ref04
