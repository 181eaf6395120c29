/-
  What stamp's Parse answers, where the tables of package day hold what their initialisers lay: the day and the second of a text that says one, and true; noughts and false of any other. Conditions: those tables; the text is no longer than an int can tell.
-/
import Derived.Test.YtmohcjnpcnbjkaaDoorStampRead
namespace Go.Proofs.YtmohcjnpcnbjkaaDoor.stamp
open Go.ChangeShapes Go.WideShapes Go.ChangeAt Go.RowKit
open cal stx
set_option linter.unusedVariables false

theorem numbers_on {w : World} (W : World) (hb : Below w.heap.size w W) (y m d h i x : Int) (b : Six y m d h i x) :
    Calls Tryd.prog 21 #[.string (txt y m d h i x)] W fun e w' => e = .returned (.tuple #[.agg #[.int .i64 y, .int .i64 m, .int .i64 d, .int .i64 h, .int .i64 i, .int .i64 x], .bool true]) ∧ Below w.heap.size w w' := by
  refine (numbers_walk (txt y m d h i x) W (txt_size _ _ _ _ _ _)).mono ?_
  rintro e w' ⟨he, hw⟩
  refine ⟨?_, hb.trans (hw.mono hb.size)⟩
  obtain ⟨e1, e2, e3, e4, e5, e6⟩ := txt_read b
  rcases he with ⟨_, rfl⟩ | ⟨hn, _⟩
  · rw [e1, e2, e3, e4, e5, e6]
  · exact absurd (txt_fits y m d h i x) hn
theorem numbers_off {w : World} (W : World) (hb : Below w.heap.size w W) (s : ByteArray) (hm : s.size ≤ 9223372036854775807) (hn : ¬ FitsAll s) :
    Calls Tryd.prog 21 #[.string s] W fun e w' => e = .returned (.tuple #[.agg #[.int .i64 0, .int .i64 0, .int .i64 0, .int .i64 0, .int .i64 0, .int .i64 0], .bool false]) ∧ Below w.heap.size w w' := by
  by_cases hs : s.size = 20
  · refine (numbers_walk s W hs).mono ?_
    rintro e w' ⟨he, hw⟩
    refine ⟨?_, hb.trans (hw.mono hb.size)⟩
    rcases he with ⟨hf, _⟩ | ⟨_, rfl⟩
    · exact absurd hf hn
    · rfl
  · refine (numbers_size s W hs hm).mono ?_
    rintro e w' ⟨rfl, hw⟩
    exact ⟨rfl, hb.trans (hw.mono hb.size)⟩

theorem second_on {w : World} (W : World) (hb : Below w.heap.size w W) (h i x n : Int) (c : Clk h i x) (e : secN h i x = n) :
    Calls Tryd.prog 11 #[.int .i64 h, .int .i64 i, .int .i64 x] W fun e w' => e = .returned (.tuple #[.int .i64 n, .bool true]) ∧ Below w.heap.size w w' :=
  (second_yes h i x n W c e).mono fun e w' ⟨he, hw⟩ => ⟨he, hw ▸ hb⟩
theorem second_off {w : World} (W : World) (hb : Below w.heap.size w W) (h i x : Int) (c : ¬ Clk h i x) :
    Calls Tryd.prog 11 #[.int .i64 h, .int .i64 i, .int .i64 x] W fun e w' => e = .returned (.tuple #[.int .i64 0, .bool false]) ∧ Below w.heap.size w w' :=
  (second_no h i x W c).mono fun e w' ⟨he, hw⟩ => ⟨he, hw ▸ hb⟩
theorem clock_on {w : World} (W : World) (hb : Below w.heap.size w W) (h i x n : Int) (c : Clk h i x) (e : secN h i x = n) :
    Calls Tryd.prog 9 #[.int .i64 n] W fun e w' => e = .returned (.tuple #[.int .i64 h, .int .i64 i, .int .i64 x, .bool true]) ∧ Below w.heap.size w w' :=
  (clock_yes h i x n W c e).mono fun e w' ⟨he, hw⟩ => ⟨he, hw ▸ hb⟩
theorem clock_off {w : World} (W : World) (hb : Below w.heap.size w W) (n : Int) (h : n < 0 ∨ 86400 < n) :
    Calls Tryd.prog 9 #[.int .i64 n] W fun e w' => e = .returned (.tuple #[.int .i64 0, .int .i64 0, .int .i64 0, .bool false]) ∧ Below w.heap.size w w' :=
  (clock_no n W h).mono fun e w' ⟨he, hw⟩ => ⟨he, hw ▸ hb⟩

theorem bal {w W : World} (hb : Below w.heap.size w W) (o : Obj) : Below w.heap.size w (W.alloc o) := hb.alloc hb.size o

theorem parse_on {w : World} (T : Tb w) (W : World) (hb : Below w.heap.size w W) (y m d h i x n k : Int) (v : Vld y m d) (hn : num y m d = n) (c : Clk h i x) (hk : secN h i x = k) :
    Calls Tryd.prog 15 #[.string (txt y m d h i x)] W fun e w' => e = .returned (.tuple #[.int .i64 n, .int .i64 k, .bool true]) ∧ Below w.heap.size w w' := by
  have R := Lib.hid (fun W hb => numbers_on (w := w) W hb y m d h i x (six_of v c))
  have N := Lib.hid (fun W hb => day.number_yes y m d W (T.1.below hb) v)
  rw [hn] at N
  have S := Lib.hid (fun W hb => second_on (w := w) W hb h i x k c hk)
  generalize txt y m d h i x = X at *
  clear T v hn c hk
  go_enter Tryd.func15, Tryd.ntmps15
  go_wp2_with (first
    | (go_at_call 21; (with_reducible refine (R.out _ (by assumption)).mono ?_; rintro e w1 ⟨rfl, hb1⟩))
    | (go_at_call 22; (with_reducible refine (N.out _ (by first | assumption | exact bal ‹_› _)).mono ?_; rintro e w' ⟨rfl, rfl⟩))
    | (go_at_call 11; (with_reducible refine (S.out _ (by first | assumption | exact bal ‹_› _)).mono ?_; rintro e w3 ⟨rfl, hb3⟩)))
  go_ret3
  exact ⟨rfl, by assumption⟩

theorem parse_off {w : World} (T : Tb w) (W : World) (hb : Below w.heap.size w W) (s : ByteArray) (hm : s.size ≤ 9223372036854775807) (no : ∀ y m d h i x : Int, Vld y m d → Clk h i x → s ≠ txt y m d h i x) :
    Calls Tryd.prog 15 #[.string s] W fun e w' => e = .returned (.tuple #[.int .i64 0, .int .i64 0, .bool false]) ∧ Below w.heap.size w w' := by
  by_cases hf : FitsAll s
  · have e := read_txt hf
    have b := read_bd hf
    generalize rY s = y at *
    generalize r2 s 5 6 = m at *
    generalize r2 s 8 9 = d at *
    generalize r2 s 11 12 = h at *
    generalize r2 s 14 15 = i at *
    generalize r2 s 17 18 = x at *
    have R := Lib.hid (fun W hb => numbers_on (w := w) W hb y m d h i x b)
    rw [← e] at R
    by_cases v : Vld y m d
    · by_cases c : Clk h i x
      · exact absurd e (no y m d h i x v c)
      · have N := Lib.hid (fun W hb => day.number_yes y m d W (T.1.below hb) v)
        have S := Lib.hid (fun W hb => second_off (w := w) W hb h i x c)
        generalize num y m d = n at *
        clear T v no e b c hf
        go_enter Tryd.func15, Tryd.ntmps15
        go_wp2_with (first
          | (go_at_call 21; (with_reducible refine (R.out _ (by assumption)).mono ?_; rintro e w1 ⟨rfl, hb1⟩))
          | (go_at_call 22; (with_reducible refine (N.out _ (by first | assumption | exact bal ‹_› _)).mono ?_; rintro e w' ⟨rfl, rfl⟩))
          | (go_at_call 11; (with_reducible refine (S.out _ (by first | assumption | exact bal ‹_› _)).mono ?_; rintro e w3 ⟨rfl, hb3⟩)))
        go_ret3
        exact ⟨rfl, by assumption⟩
    · have N := Lib.hid (fun W hb => day.number_no y m d W (T.1.below hb) v)
      clear T v no e b hf
      go_enter Tryd.func15, Tryd.ntmps15
      go_wp2_with (first
        | (go_at_call 21; (with_reducible refine (R.out _ (by assumption)).mono ?_; rintro e w1 ⟨rfl, hb1⟩))
        | (go_at_call 22; (with_reducible refine (N.out _ (by first | assumption | exact bal ‹_› _)).mono ?_; rintro e w' ⟨rfl, rfl⟩)))
      go_ret3
      exact ⟨rfl, bal ‹_› _⟩
  · have R := Lib.hid (fun W hb => numbers_off (w := w) W hb s hm hf)
    clear T no hf hm
    go_enter Tryd.func15, Tryd.ntmps15
    go_wp2_with (first
      | (go_at_call 21; (with_reducible refine (R.out _ (by assumption)).mono ?_; rintro e w1 ⟨rfl, hb1⟩)))
    go_ret3
    exact ⟨rfl, bal ‹_› _⟩
end Go.Proofs.YtmohcjnpcnbjkaaDoor.stamp
