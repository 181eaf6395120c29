/-
  What day's Date answers, where the two tables of package day hold what their initialisers lay: the date of a number from -719162 to 2932896, and true; noughts and false of any other. Conditions: those tables.
-/
import Derived.Test.YtpkohihnocblfaaGreatDoorG02
import Derived.Test.YtpkohihnocblfaaGreatDoorG01
namespace Go.Proofs.YtpkohihnocblfaaGreatDoor.day
open Go.ChangeShapes Go.WideShapes Go.ChangeAt Go.RowKit
open cal
set_option linter.unusedVariables false
set_option maxRecDepth 100000

theorem date_no (n : Int) (w : World) (h : n < -719162 ∨ 2932896 < n) :
    Calls Tryz.prog 43 #[.int .i64 n] w fun e w' => e = .returned (.tuple #[.int .i64 0, .int .i64 0, .int .i64 0, .bool false]) ∧ w = w' := by
  by_cases h1 : n < -719162
  · clear h
    go_enter Tryz.func43, Tryz.ntmps43
    go_wp2
    exact bodyPost_ret (v := .tuple #[.int .i64 0, .int .i64 0, .int .i64 0, .bool false]) (by simp [results, Tryz.results43, go_sem]) rfl ⟨rfl, rfl⟩
  · have h2 : 2932896 < n := by omega
    clear h
    go_enter Tryz.func43, Tryz.ntmps43
    go_wp2
    exact bodyPost_ret (v := .tuple #[.int .i64 0, .int .i64 0, .int .i64 0, .bool false]) (by simp [results, Tryz.results43, go_sem]) rfl ⟨rfl, rfl⟩

def Dated (n : Int) (w : World) (e : Ending) (w' : World) : Prop := ∃ y m d : Int, e = .returned (.tuple #[.int .i64 y, .int .i64 m, .int .i64 d, .bool true]) ∧ Vld y m d ∧ num y m d = n ∧ Below w.heap.size w w'

set_option maxHeartbeats 1000000 in
theorem date_some (n : Int) (w : World) (T : Tabs w) (h1 : -719162 ≤ n) (h2 : n ≤ 2932896) :
    Calls Tryz.prog 43 #[.int .i64 n] w (Dated n w) := by
  have C := Lib.hid (yearOf_yes (n + 719162) w T (by omega) (by omega))
  obtain ⟨q1, q2, q3, q4, q5⟩ := year_at (n + 719162) (by omega) (by omega)
  have Q5 := Lib.hid q5
  clear q5
  generalize y4 (n + 719162) = y at *
  generalize x4 (n + 719162) = r at *
  have l01 := lp_01 y
  have t1 : decide (n < -719162) = false := by simp; omega
  have t2 : decide (2932896 < n) = false := by simp; omega
  go_enter Tryz.func43, Tryz.ntmps43
  go_wp2_with (go_at_call 67; with_reducible refine (C.out).mono ?_; rintro e w1 ⟨rfl, hb⟩)
  have C2 := Lib.hid (fun k (g1 : 1 ≤ k) (g2 : k ≤ 12) => last_yes y k w1 (T.below hb) q1 q2 g1 g2)
  have HB := Lib.hid hb
  clear hb C
  go_loop [7, 8] (fun x k => ∃ m : Int, 1 ≤ m ∧ m ≤ 12 ∧ k = .int .i64 m ∧ 0 ≤ r - cum y m ∧ x = .int .i64 (r - cum y m)) (fun _ k => (12 - intOf k).toNat)
  case atStart => exact ⟨1, by omega, by omega, rfl, by rw [cum_one]; omega, by rw [cum_one]; congr 1 <;> omega⟩
  case round =>
    obtain ⟨m, hm1, hm2, rfl, hr, rfl⟩ := hrel
    have cb := cum_bd y m hm1 hm2
    have db := dim_bd y m
    have HS := Lib.hid (cum_succ y m hm1 hm2)
    by_cases hc : m < 12 ∧ dim y m ≤ r - cum y m
    · obtain ⟨hm, hd⟩ := hc
      go_wp2_with (go_at_call 68; with_reducible refine (C2.out _ hm1 hm2).mono ?_; rintro e w' ⟨rfl, rfl⟩)
      go_round
      case rel => exact ⟨m + 1, by omega, by omega, rfl, by rw [HS.out]; omega, by rw [HS.out]; congr 1 <;> omega⟩
      case measure => simp [intOf]; omega
    · have hv : r - cum y m < dim y m := by
        by_cases e : m = 12
        · subst e; rw [cum_dec, dim_dec]; omega
        · omega
      have V : Hid (Vld y m (r - cum y m + 1)) := ⟨q1, q2, hm1, hm2, by omega, by omega⟩
      have HN := Lib.hid (num_of y m r)
      clear hc
      by_cases hm : m < 12
      · go_wp2_with (go_at_call 68; with_reducible refine (C2.out _ hm1 hm2).mono ?_; rintro e w' ⟨rfl, rfl⟩)
        exact bodyPost_ret (v := .tuple #[.int .i64 y, .int .i64 m, .int .i64 (r - cum y m + 1), .bool true]) (by simp [results, Tryz.results43, go_sem]) rfl ⟨y, m, _, rfl, V.out, by rw [HN.out]; have := Q5.out; omega, HB.out⟩
      · clear hv HS
        go_wp2
        exact bodyPost_ret (v := .tuple #[.int .i64 y, .int .i64 m, .int .i64 (r - cum y m + 1), .bool true]) (by simp [results, Tryz.results43, go_sem]) rfl ⟨y, m, _, rfl, V.out, by rw [HN.out]; have := Q5.out; omega, HB.out⟩

theorem month_in (y r : Int) (h0 : 0 ≤ r) (k : Nat) (hk : k ≤ 12) (h : r < cum y (k + 1)) : ∃ m : Int, 1 ≤ m ∧ m ≤ 12 ∧ 0 ≤ r - cum y m ∧ r - cum y m < dim y m := by
  induction k with
  | zero =>
    have := cum_one y
    simp only [Int.natCast_zero, Int.zero_add] at h
    omega
  | succ k ih =>
    by_cases hl : r < cum y (k + 1)
    · exact ih (by omega) hl
    · have hs := cum_succ y (k + 1) (by omega) (by omega)
      refine ⟨k + 1, by omega, by omega, by omega, ?_⟩
      have e : ((k + 1 : Nat) : Int) + 1 = (k : Int) + 1 + 1 := by omega
      rw [e, hs] at h
      omega
theorem exists_date (n : Int) (h1 : -719162 ≤ n) (h2 : n ≤ 2932896) : ∃ y m d : Int, Vld y m d ∧ num y m d = n := by
  obtain ⟨q1, q2, q3, q4, q5⟩ := year_at (n + 719162) (by omega) (by omega)
  have he := cum_end (y4 (n + 719162))
  obtain ⟨m, m1, m2, m3, m4⟩ := month_in (y4 (n + 719162)) (x4 (n + 719162)) q3 12 (by omega) (by show _ < cum _ 13; omega)
  refine ⟨y4 (n + 719162), m, x4 (n + 719162) - cum (y4 (n + 719162)) m + 1, ⟨q1, q2, m1, m2, by omega, by omega⟩, ?_⟩
  rw [num_of]; omega
theorem date_yes (y m d n : Int) (w : World) (T : Tabs w) (v : Vld y m d) (hn : num y m d = n) :
    Calls Tryz.prog 43 #[.int .i64 n] w fun e w' => e = .returned (.tuple #[.int .i64 y, .int .i64 m, .int .i64 d, .bool true]) ∧ Below w.heap.size w w' := by
  have hb := num_bd v
  refine (date_some n w T (by omega) (by omega)).mono ?_
  rintro e w' ⟨y', m', d', rfl, v', hn', hb'⟩
  obtain ⟨rfl, rfl, rfl⟩ := num_inj v v' (by omega)
  exact ⟨rfl, hb'⟩

/-! all of them, behind a world whose tables are known: for callers that go on and on -/
theorem leap_on {w : World} (T : Tabs w) (W : World) (hb : Below w.heap.size w W) (y : Int) : Calls Tryz.prog 91 #[.int .i64 y] W fun e w' => e = .returned (.bool (leapB y)) ∧ Below w.heap.size w w' :=
  (leap_any y W).mono fun e w' ⟨he, hw⟩ => ⟨he, hw ▸ hb⟩
theorem last_on {w : World} (T : Tabs w) (W : World) (hb : Below w.heap.size w W) (y m : Int) (h1 : 1 ≤ y) (h2 : y ≤ 9999) (h3 : 1 ≤ m) (h4 : m ≤ 12) :
    Calls Tryz.prog 68 #[.int .i64 y, .int .i64 m] W fun e w' => e = .returned (.tuple #[.int .i64 (dim y m), .bool true]) ∧ Below w.heap.size w w' :=
  (last_yes y m W (T.below hb) h1 h2 h3 h4).mono fun e w' ⟨he, hw⟩ => ⟨he, hw ▸ hb⟩
theorem number_on {w : World} (T : Tabs w) (W : World) (hb : Below w.heap.size w W) (y m d n : Int) (v : Vld y m d) (hn : num y m d = n) :
    Calls Tryz.prog 78 #[.int .i64 y, .int .i64 m, .int .i64 d] W fun e w' => e = .returned (.tuple #[.int .i64 n, .bool true]) ∧ Below w.heap.size w w' := by
  subst hn
  exact (number_yes y m d W (T.below hb) v).mono fun e w' ⟨he, hw⟩ => ⟨he, hw ▸ hb⟩
theorem number_off {w : World} (T : Tabs w) (W : World) (hb : Below w.heap.size w W) (y m d : Int) (v : ¬ Vld y m d) :
    Calls Tryz.prog 78 #[.int .i64 y, .int .i64 m, .int .i64 d] W fun e w' => e = .returned (.tuple #[.int .i64 0, .bool false]) ∧ Below w.heap.size w w' :=
  (number_no y m d W (T.below hb) v).mono fun e w' ⟨he, hw⟩ => ⟨he, hw ▸ hb⟩
theorem date_on {w : World} (T : Tabs w) (W : World) (hb : Below w.heap.size w W) (y m d n : Int) (v : Vld y m d) (hn : num y m d = n) :
    Calls Tryz.prog 43 #[.int .i64 n] W fun e w' => e = .returned (.tuple #[.int .i64 y, .int .i64 m, .int .i64 d, .bool true]) ∧ Below w.heap.size w w' :=
  (date_yes y m d n W (T.below hb) v hn).mono fun e w' ⟨he, hw⟩ => ⟨he, hb.trans (hw.mono hb.size)⟩
theorem date_off {w : World} (T : Tabs w) (W : World) (hb : Below w.heap.size w W) (n : Int) (h : n < -719162 ∨ 2932896 < n) :
    Calls Tryz.prog 43 #[.int .i64 n] W fun e w' => e = .returned (.tuple #[.int .i64 0, .int .i64 0, .int .i64 0, .bool false]) ∧ Below w.heap.size w w' :=
  (date_no n W h).mono fun e w' ⟨he, hw⟩ => ⟨he, hw ▸ hb⟩
end Go.Proofs.YtpkohihnocblfaaGreatDoor.day

/-
  Tables of leap seconds as plain mathematics: what is wrong of a leap, which one is the first wrong one, the expiry, what is found, totals and steps; days that end a month lie 28 days apart at least. No condition.
-/
namespace Go.Proofs.YtpkohihnocblfaaGreatDoor.lm
open cal
set_option linter.unusedVariables false
set_option maxRecDepth 100000

/-- a leap: its day, its step, whether it is of local time. -/
abbrev Lp := Int × Int × Bool
def Endd (n : Int) : Prop := ∃ y m : Int, 1 ≤ y ∧ y ≤ 9999 ∧ 1 ≤ m ∧ m ≤ 12 ∧ num y m (dim y m) = n
open Classical in
noncomputable def endB (n : Int) : Bool := decide (Endd n)
open Classical in
theorem endB_iff (n : Int) : endB n = true ↔ Endd n := by unfold endB; exact decide_eq_true_iff
theorem vld_last {y m : Int} (h1 : 1 ≤ y) (h2 : y ≤ 9999) (h3 : 1 ≤ m) (h4 : m ≤ 12) : Vld y m (dim y m) := ⟨h1, h2, h3, h4, by have := dim_bd y m; omega, Int.le_refl _⟩
theorem endB_of {y m d n : Int} (v : Vld y m d) (hn : num y m d = n) : (d == dim y m) = endB n := by
  rw [Bool.eq_iff_iff, beq_iff_eq, endB_iff]
  constructor
  · rintro rfl
    exact ⟨y, m, v.1, v.2.1, v.2.2.1, v.2.2.2.1, hn⟩
  · rintro ⟨z, k, h1, h2, h3, h4, he⟩
    obtain ⟨rfl, rfl, rfl⟩ := num_inj v (vld_last h1 h2 h3 h4) (by omega)
    rfl
theorem end_far {a b : Int} (ha : Endd a) (hb : Endd b) (h : a < b) : 28 ≤ b - a := by
  obtain ⟨y, m, h1, h2, h3, h4, rfl⟩ := ha
  obtain ⟨z, k, g1, g2, g3, g4, rfl⟩ := hb
  have db := dim_bd z k
  by_cases hc : num y m (dim y m) < num z k 1
  · unfold num at hc ⊢; omega
  · exfalso
    have v : Vld z k (num y m (dim y m) - num z k 1 + 1) := ⟨g1, g2, g3, g4, by omega, by unfold num at h hc ⊢; omega⟩
    have hn : num z k (num y m (dim y m) - num z k 1 + 1) = num y m (dim y m) := by
      generalize hx : num y m (dim y m) = x at *
      unfold num; omega
    obtain ⟨rfl, rfl, e⟩ := num_inj (vld_last h1 h2 h3 h4) v hn.symm
    rw [← e] at hn
    omega
theorem end_yes {y m d n : Int} (v : Vld y m d) (hd : d = dim y m) (hn : num y m d = n) : endB n = true := by
  rw [← endB_of v hn]; simpa using hd
theorem end_not {y m d n : Int} (v : Vld y m d) (hd : d ≠ dim y m) (hn : num y m d = n) : endB n = false := by
  rw [← endB_of v hn]; simpa using hd
theorem end_911 : endB 911 = true := end_yes (y := 1972) (m := 6) (d := 30) (by decide) (by decide) (by decide)
theorem end_1095 : endB 1095 = true := end_yes (y := 1972) (m := 12) (d := 31) (by decide) (by decide) (by decide)
theorem end_912 : endB 912 = false := end_not (y := 1972) (m := 7) (d := 1) (by decide) (by decide) (by decide)

def z3 : Lp := (0, 0, false)
def dy (l : List Lp) (k : Nat) : Int := (l.getD k z3).1
def st (l : List Lp) (k : Nat) : Int := (l.getD k z3).2.1
/-- what is wrong of the leap at a place: an error's number. -/
noncomputable def wr (l : List Lp) (k : Nat) : Int :=
  if 200 ≤ k then 8 else if dy l k < 730 ∨ 2932896 ≤ dy l k then 9 else if endB (dy l k) = false then 5 else if st l k ≠ 1 ∧ st l k ≠ -1 then 6 else if 0 < k ∧ dy l k ≤ dy l (k - 1) then 4 else 0
theorem wr_ok {l : List Lp} {k : Nat} : wr l k = 0 ↔ (k < 200 ∧ 730 ≤ dy l k ∧ dy l k < 2932896 ∧ endB (dy l k) = true ∧ (st l k = 1 ∨ st l k = -1) ∧ (0 < k → dy l (k - 1) < dy l k)) := by
  unfold wr
  split
  · constructor <;> intro h <;> omega
  split
  · constructor <;> intro h <;> omega
  split
  · rename_i _ _ h; rw [h]; constructor <;> intro h <;> simp at h
  split
  · constructor <;> intro h <;> omega
  split
  · constructor <;> intro h <;> omega
  · rename_i a b c d e
    constructor
    · intro _
      refine ⟨by omega, by omega, by omega, by simpa using c, by omega, fun h => by omega⟩
    · intro _; rfl
theorem wr_bd (l : List Lp) (k : Nat) : 0 ≤ wr l k ∧ wr l k ≤ 9 := by
  unfold wr
  (repeat' split) <;> omega
/-- the place of the first wrong one. -/
noncomputable def cpF (l : List Lp) : Nat → Nat → Nat
  | 0, k => k
  | n + 1, k => if wr l k = 0 then cpF l n (k + 1) else k
noncomputable def cp (l : List Lp) : Nat := cpF l l.length 0
theorem cpF_spec (l : List Lp) : ∀ n k, (∀ i, k ≤ i → i < cpF l n k → wr l i = 0) ∧ k ≤ cpF l n k ∧ cpF l n k ≤ k + n ∧ (cpF l n k < k + n → wr l (cpF l n k) ≠ 0)
  | 0, k => ⟨fun i h1 h2 => by unfold cpF at h2; omega, by unfold cpF; omega, by unfold cpF; omega, fun h => by unfold cpF at h; omega⟩
  | n + 1, k => by
    by_cases h : wr l k = 0
    · have e : cpF l (n + 1) k = cpF l n (k + 1) := by rw [cpF, if_pos h]
      obtain ⟨a, b, c, d⟩ := cpF_spec l n (k + 1)
      rw [e]
      refine ⟨fun i h1 h2 => ?_, by omega, by omega, fun h => d (by omega)⟩
      rcases Nat.eq_or_lt_of_le h1 with rfl | h3
      · exact h
      · exact a i h3 h2
    · have e : cpF l (n + 1) k = k := by rw [cpF, if_neg h]
      rw [e]
      exact ⟨fun i h1 h2 => by omega, Nat.le_refl _, by omega, fun _ => h⟩
theorem cp_ok (l : List Lp) {i : Nat} (h : i < cp l) : wr l i = 0 := (cpF_spec l l.length 0).1 i (Nat.zero_le _) h
theorem cp_le (l : List Lp) : cp l ≤ l.length := by have := (cpF_spec l l.length 0).2.2.1; unfold cp; omega
theorem cp_wrong (l : List Lp) (h : cp l < l.length) : wr l (cp l) ≠ 0 := (cpF_spec l l.length 0).2.2.2 (by unfold cp at h; omega)
theorem cp_is (l : List Lp) (k : Nat) (h1 : ∀ i, i < k → wr l i = 0) (h2 : k ≤ l.length) (h3 : k < l.length → wr l k ≠ 0) : cp l = k := by
  rcases Nat.lt_trichotomy (cp l) k with h | h | h
  · exact absurd (h1 _ h) (cp_wrong l (by omega))
  · exact h
  · exact absurd (cp_ok l h) (h3 (by have := cp_le l; omega))
/-- the least second of an expiry, and what is wrong of it. -/
def lst (l : List Lp) : Int := if l.length = 0 then 63072000 else (dy l (l.length - 1) + 1) * 86400
def xp (l : List Lp) (has : Bool) (x : Int) : Int := if has then (if x < lst l ∨ 253402300799 < x then 9 else 0) else if x = 0 then 0 else 9
noncomputable def ce (l : List Lp) (has : Bool) (x : Int) : Int := if cp l < l.length then wr l (cp l) else xp l has x
theorem ce_at {l : List Lp} {has : Bool} {x : Int} {k : Nat} (h1 : ∀ i, i < k → wr l i = 0) (h2 : k < l.length) (h3 : wr l k ≠ 0) : cp l = k ∧ ce l has x = wr l k := by
  have e := cp_is l k h1 (by omega) (fun _ => h3)
  exact ⟨e, by unfold ce; rw [e, if_pos h2]⟩
theorem ce_end {l : List Lp} {has : Bool} {x : Int} (h1 : ∀ i, i < l.length → wr l i = 0) : cp l = l.length ∧ ce l has x = xp l has x := by
  have e := cp_is l l.length h1 (Nat.le_refl _) (fun h => by omega)
  exact ⟨e, by unfold ce; rw [e, if_neg (by omega)]⟩
theorem ce_ok {l : List Lp} {has : Bool} {x : Int} : ce l has x = 0 ↔ (∀ i, i < l.length → wr l i = 0) ∧ xp l has x = 0 := by
  constructor
  · intro h
    by_cases hc : cp l < l.length
    · unfold ce at h; rw [if_pos hc] at h; exact absurd h (cp_wrong l hc)
    · unfold ce at h; rw [if_neg hc] at h
      exact ⟨fun i hi => cp_ok l (by omega), h⟩
  · rintro ⟨h1, h2⟩
    rw [(ce_end h1).2, h2]
/-- all leaps are right. -/
def Good (l : List Lp) : Prop := ∀ i, i < l.length → wr l i = 0
theorem good_of {l : List Lp} {has : Bool} {x : Int} (h : ce l has x = 0) : Good l := (ce_ok.1 h).1
theorem Good.len {l : List Lp} (h : Good l) : l.length ≤ 200 := by
  rcases Nat.lt_or_ge 200 l.length with g | g
  · have := (wr_ok.1 (h 200 g)).1; omega
  · exact g
theorem Good.day {l : List Lp} (h : Good l) {i : Nat} (hi : i < l.length) : 730 ≤ dy l i ∧ dy l i < 2932896 := by
  have := wr_ok.1 (h i hi); exact ⟨this.2.1, this.2.2.1⟩
theorem Good.step {l : List Lp} (h : Good l) {i : Nat} (hi : i < l.length) : st l i = 1 ∨ st l i = -1 := (wr_ok.1 (h i hi)).2.2.2.2.1
theorem Good.lt {l : List Lp} (h : Good l) {i : Nat} (hi : i < l.length) : ∀ j, j < i → dy l j < dy l i := by
  induction i with
  | zero => intro j hj; omega
  | succ i ih =>
    intro j hj
    have e := (wr_ok.1 (h (i + 1) hi)).2.2.2.2.2 (by omega)
    rw [Nat.add_sub_cancel] at e
    rcases Nat.eq_or_lt_of_le (Nat.le_of_lt_succ hj) with rfl | g
    · exact e
    · have := ih (by omega) j g; omega
theorem Good.far {l : List Lp} (h : Good l) {i : Nat} (hi : i < l.length) (h0 : 0 < i) : 28 ≤ dy l i - dy l (i - 1) := by
  have a := wr_ok.1 (h i hi)
  have b := wr_ok.1 (h (i - 1) (by omega))
  exact end_far ((endB_iff _).1 b.2.2.2.1) ((endB_iff _).1 a.2.2.2.1) (a.2.2.2.2.2 h0)

/-! what is found -/
def fnd (l : List Lp) (d : Int) : Nat := match l with
  | [] => 0
  | x :: r => if x.1 < d then fnd r d + 1 else 0
theorem dy_cons (x : Lp) (r : List Lp) (i : Nat) : dy (x :: r) (i + 1) = dy r i := by unfold dy; simp
theorem dy_zero (x : Lp) (r : List Lp) : dy (x :: r) 0 = x.1 := by unfold dy; simp
theorem fnd_spec : ∀ (l : List Lp) (d : Int), fnd l d ≤ l.length ∧ (∀ i, i < fnd l d → dy l i < d) ∧ (fnd l d < l.length → d ≤ dy l (fnd l d))
  | [], d => ⟨by simp [fnd], fun i h => by simp [fnd] at h, fun h => by simp [fnd] at h⟩
  | x :: r, d => by
    obtain ⟨a, b, c⟩ := fnd_spec r d
    by_cases h : x.1 < d
    · have e : fnd (x :: r) d = fnd r d + 1 := by rw [fnd, if_pos h]
      rw [e]
      refine ⟨by simp; omega, fun i hi => ?_, fun g => ?_⟩
      · match i with
        | 0 => rw [dy_zero]; exact h
        | i + 1 => rw [dy_cons]; exact b i (by omega)
      · rw [dy_cons]; exact c (by simpa using g)
    · have e : fnd (x :: r) d = 0 := by rw [fnd, if_neg h]
      rw [e]
      exact ⟨Nat.zero_le _, fun i hi => by omega, fun _ => by rw [dy_zero]; omega⟩
theorem fnd_le (l : List Lp) (d : Int) : fnd l d ≤ l.length := (fnd_spec l d).1
theorem fnd_is {l : List Lp} {d : Int} {k : Nat} (h1 : k ≤ l.length) (h2 : ∀ i, i < k → dy l i < d) (h3 : k < l.length → d ≤ dy l k) : fnd l d = k := by
  obtain ⟨a, b, c⟩ := fnd_spec l d
  rcases Nat.lt_trichotomy (fnd l d) k with h | h | h
  · have := h2 _ h; have := c (by omega); omega
  · exact h
  · have := b _ h; have := h3 (by omega); omega
theorem Good.found {l : List Lp} (h : Good l) (d : Int) {i : Nat} (hi : i < l.length) : d ≤ dy l i ↔ fnd l d ≤ i := by
  obtain ⟨a, b, c⟩ := fnd_spec l d
  constructor
  · intro g
    rcases Nat.lt_or_ge i (fnd l d) with k | k
    · have := b i k; omega
    · exact k
  · intro g
    rcases Nat.eq_or_lt_of_le g with e | e
    · rw [← e]; exact c (by omega)
    · have := h.lt hi _ e; have := c (by omega); omega

/-! totals and steps -/
def tot (l : List Lp) : Nat → Int
  | 0 => 0
  | k + 1 => tot l k + st l k
theorem tot_bd {l : List Lp} (h : Good l) : ∀ k, k ≤ l.length → -(k : Int) ≤ tot l k ∧ tot l k ≤ k
  | 0, _ => ⟨by simp [tot], by simp [tot]⟩
  | k + 1, hk => by
    have := tot_bd h k (by omega)
    have s := h.step (i := k) (by omega)
    rw [tot]
    omega
def stp (l : List Lp) (d : Int) : Int := if fnd l d < l.length ∧ dy l (fnd l d) = d then st l (fnd l d) else 0
theorem stp_bd {l : List Lp} (h : Good l) (d : Int) : -1 ≤ stp l d ∧ stp l d ≤ 1 := by
  unfold stp
  split
  · rename_i g; have := h.step g.1; omega
  · omega
theorem stp_at {l : List Lp} (h : Good l) {i : Nat} (hi : i < l.length) : fnd l (dy l i) = i ∧ stp l (dy l i) = st l i := by
  have e : fnd l (dy l i) = i := fnd_is (Nat.le_of_lt hi) (fun j hj => h.lt hi j hj) (fun _ => Int.le_refl _)
  exact ⟨e, by unfold stp; rw [e, if_pos ⟨hi, rfl⟩]⟩
theorem stp_none {l : List Lp} {d : Int} (h : ∀ i, i < l.length → dy l i ≠ d) : stp l d = 0 := by
  unfold stp
  split
  · rename_i g; exact absurd g.2 (h _ g.1)
  · rfl
/-- the next day's. -/
theorem next_fnd {l : List Lp} (h : Good l) (d : Int) : (fnd l d < l.length ∧ dy l (fnd l d) = d ∧ fnd l (d + 1) = fnd l d + 1) ∨ (¬ (fnd l d < l.length ∧ dy l (fnd l d) = d) ∧ fnd l (d + 1) = fnd l d) := by
  obtain ⟨a, b, c⟩ := fnd_spec l d
  by_cases hc : fnd l d < l.length ∧ dy l (fnd l d) = d
  · refine Or.inl ⟨hc.1, hc.2, fnd_is (by omega) (fun i hi => ?_) (fun g => ?_)⟩
    · rcases Nat.eq_or_lt_of_le (Nat.le_of_lt_succ hi) with rfl | k
      · omega
      · have := b i k; omega
    · have := h.lt g (fnd l d) (by omega); omega
  · refine Or.inr ⟨hc, fnd_is a (fun i hi => by have := b i hi; omega) (fun g => ?_)⟩
    have := c g
    rcases Int.lt_or_eq_of_le this with k | k
    · omega
    · exact absurd ⟨g, k.symm⟩ hc
theorem next_tot {l : List Lp} (h : Good l) (d : Int) : tot l (fnd l (d + 1)) = tot l (fnd l d) + stp l d ∧ fnd l d ≤ fnd l (d + 1) := by
  rcases next_fnd h d with ⟨a, b, c⟩ | ⟨a, c⟩
  · rw [c]; exact ⟨by rw [tot, stp, if_pos ⟨a, b⟩], by omega⟩
  · rw [c]; exact ⟨by rw [stp, if_neg a]; omega, by omega⟩
theorem fnd_first {l : List Lp} {d : Int} (h : l.length = 0 ∨ d ≤ dy l 0) : fnd l d = 0 :=
  fnd_is (Nat.zero_le _) (fun i hi => by omega) (fun g => by rcases h with h | h; omega; exact h)
end Go.Proofs.YtpkohihnocblfaaGreatDoor.lm

/-
  Lines of leap seconds of sources as plain mathematics: months, clocks, kinds of lines, what is wrong of a line, how a source is read. Nothing of any program. No condition.
-/
namespace Go.Proofs.YtpkohihnocblfaaGreatDoor.zs
open lx cal stx
open lm (Lp ce Good dy st)
set_option linter.unusedVariables false
set_option maxRecDepth 100000

/-! what stands ahead of the first of a byte, and behind it -/
def ahd (c : UInt8) (l : List UInt8) : List UInt8 := l.takeWhile fun x => decide (x ≠ c)
def bhd (c : UInt8) (l : List UInt8) : List UInt8 := (l.dropWhile fun x => decide (x ≠ c)).drop 1
theorem ahd_some {c : UInt8} {l : List UInt8} (h : ∀ x ∈ l, x ≠ c) (r : List UInt8) : ahd c (l ++ c :: r) = l ∧ bhd c (l ++ c :: r) = r := by
  have no : ∀ x ∈ l, decide (x ≠ c) = true := fun x hx => by rw [decide_eq_true_eq]; exact h x hx
  constructor
  · unfold ahd
    rw [List.takeWhile_append_of_pos no, List.takeWhile_cons_of_neg (by simp), List.append_nil]
  · unfold bhd
    rw [List.dropWhile_append_of_pos no, List.dropWhile_cons_of_neg (by simp)]
    rfl
theorem ahd_none {c : UInt8} : ∀ {l : List UInt8}, (∀ x ∈ l, x ≠ c) → ahd c l = l ∧ bhd c l = []
  | [], _ => ⟨rfl, rfl⟩
  | x :: r, h => by
    obtain ⟨a, b⟩ := ahd_none (l := r) (fun y hy => h y (by simp [hy]))
    have hx : decide (x ≠ c) = true := by rw [decide_eq_true_eq]; exact h x (by simp)
    unfold ahd bhd at *
    rw [List.takeWhile_cons_of_pos (p := fun y => decide (y ≠ c)) hx, List.dropWhile_cons_of_pos (p := fun y => decide (y ≠ c)) hx]
    exact ⟨by rw [a], b⟩
/-- one or the other. -/
theorem ahd_or (c : UInt8) : ∀ l : List UInt8, (∀ x ∈ l, x ≠ c) ∨ ∃ a r, l = a ++ c :: r ∧ ∀ x ∈ a, x ≠ c
  | [] => .inl (by simp)
  | x :: l => by
    by_cases h : x = c
    · subst h
      exact .inr ⟨[], l, rfl, by simp⟩
    · rcases ahd_or c l with k | ⟨a, r, rfl, k⟩
      · refine .inl fun y hy => ?_
        rcases List.mem_cons.1 hy with rfl | hy
        · exact h
        · exact k y hy
      · refine .inr ⟨x :: a, r, rfl, fun y hy => ?_⟩
        rcases List.mem_cons.1 hy with rfl | hy
        · exact h
        · exact k y hy
theorem ahd_mem {c : UInt8} {l : List UInt8} : ∀ x ∈ ahd c l, x ∈ l ∧ x ≠ c := by
  intro x hx
  rcases ahd_or c l with h | ⟨a, r, rfl, h⟩
  · rw [(ahd_none h).1] at hx
    exact ⟨hx, h x hx⟩
  · rw [(ahd_some h r).1] at hx
    exact ⟨by simp [hx], h x hx⟩
theorem ahd_len (c : UInt8) (l : List UInt8) : (ahd c l).length ≤ l.length ∧ (bhd c l).length ≤ l.length := by
  rcases ahd_or c l with h | ⟨a, r, rfl, h⟩
  · rw [(ahd_none h).1, (ahd_none h).2]; simp
  · rw [(ahd_some h r).1, (ahd_some h r).2]; simp; omega

/-! months -/
def names : List (List UInt8) := [[106, 97, 110, 117, 97, 114, 121],
  [102, 101, 98, 114, 117, 97, 114, 121],
  [109, 97, 114, 99, 104],
  [97, 112, 114, 105, 108],
  [109, 97, 121],
  [106, 117, 110, 101],
  [106, 117, 108, 121],
  [97, 117, 103, 117, 115, 116],
  [115, 101, 112, 116, 101, 109, 98, 101, 114],
  [111, 99, 116, 111, 98, 101, 114],
  [110, 111, 118, 101, 109, 98, 101, 114],
  [100, 101, 99, 101, 109, 98, 101, 114]]
def monF (b : List UInt8) : List (List UInt8) → Nat → Nat
  | [], _ => 0
  | n :: r, k => if b.isPrefixOf n = true then k else monF b r (k + 1)
def monN (w : List UInt8) : Nat := if w.length < 3 then 0 else monF (w.map fld) names 1
def mon (w : List UInt8) : Int := (monN w : Nat)
theorem monF_bd (b : List UInt8) : ∀ (r : List (List UInt8)) (k : Nat), 1 ≤ k → monF b r k = 0 ∨ (k ≤ monF b r k ∧ monF b r k < k + r.length)
  | [], k, _ => .inl rfl
  | n :: r, k, h => by
    unfold monF
    by_cases e : b.isPrefixOf n = true
    · rw [if_pos e]
      right
      simp
    · rw [if_neg e]
      have := monF_bd b r (k + 1) (by omega)
      rw [List.length_cons]
      omega
theorem mon_bd (w : List UInt8) : 0 ≤ mon w ∧ mon w ≤ 12 := by
  unfold mon monN
  have := monF_bd (w.map fld) names 1 (Nat.le_refl _)
  have : names.length = 12 := rfl
  split <;> omega

/-! clocks -/
def clkB (h i x : Int) : Bool := decide ((0 ≤ h ∧ h ≤ 23 ∧ 0 ≤ i ∧ i ≤ 59 ∧ 0 ≤ x ∧ x ≤ 59) ∨ (h = 23 ∧ i = 59 ∧ x = 60))
theorem clkB_iff (h i x : Int) : clkB h i x = true ↔ Clk h i x := by unfold clkB Clk; exact decide_eq_true_iff
def cpt (l : List UInt8) : Option Int := if 2 < l.length then none else nm l
def cpT (l : List UInt8) : Bool := (cpt l).isSome
def cpI (l : List UInt8) : Int := (cpt l).getD 0
def c1 (l : List UInt8) : List UInt8 := ahd 58 l
def c2 (l : List UInt8) : List UInt8 := ahd 58 (bhd 58 l)
def c3 (l : List UInt8) : List UInt8 := bhd 58 (bhd 58 l)
def clkT (l : List UInt8) : Bool := cpT (c1 l) && (cpT (c2 l) && (cpT (c3 l) && clkB (cpI (c1 l)) (cpI (c2 l)) (cpI (c3 l))))
def clkI (l : List UInt8) : Int := if clkT l = true then secN (cpI (c1 l)) (cpI (c2 l)) (cpI (c3 l)) else 0
theorem clkI_bd (l : List UInt8) : 0 ≤ clkI l ∧ clkI l ≤ 86400 := by
  unfold clkI
  split
  · rename_i h
    unfold clkT at h
    simp only [Bool.and_eq_true] at h
    have := secN_bd ((clkB_iff _ _ _).1 h.2.2.2)
    exact this
  · omega

/-! days and seconds -/
def vldB (y m d : Int) : Bool := decide (1 ≤ y ∧ y ≤ 9999 ∧ 1 ≤ m ∧ m ≤ 12 ∧ 1 ≤ d ∧ d ≤ dim y m)
theorem vldB_iff (y m d : Int) : vldB y m d = true ↔ Vld y m d := by unfold vldB Vld; exact decide_eq_true_iff
def g (w : List (List UInt8)) (k : Nat) : List UInt8 := w.getD k []
def moT (w : List (List UInt8)) : Bool := nmT (g w 0) && (decide (mon (g w 1) ≠ 0) && (nmT (g w 2) && clkT (g w 3)))
def moD (w : List (List UInt8)) : Bool := vldB (nmI (g w 0)) (mon (g w 1)) (nmI (g w 2))
def moN (w : List (List UInt8)) : Int := if moD w = true then num (nmI (g w 0)) (mon (g w 1)) (nmI (g w 2)) else 0
def moS (w : List (List UInt8)) : Int := clkI (g w 3)
theorem moN_bd (w : List (List UInt8)) : -719162 ≤ moN w ∧ moN w ≤ 2932896 := by
  unfold moN
  split
  · rename_i h
    exact num_bd ((vldB_iff _ _ _).1 h)
  · omega

/-! lines -/
def lw (l : List UInt8) : List (List UInt8) := wds [] (ahd 35 l)
def fw (w : List (List UInt8)) : List UInt8 := (w.headD []).map fld
def leapL : List UInt8 := [108, 101, 97, 112]
def expL : List UInt8 := [101, 120, 112, 105, 114, 101, 115]
def rollL : List UInt8 := [114, 111, 108, 108, 105, 110, 103]
def statL : List UInt8 := [115, 116, 97, 116, 105, 111, 110, 97, 114, 121]
/-- what a line is: 0 empty, 1 a leap line, 2 an expiry line, 3 none of these. -/
def kd (w : List (List UInt8)) : Nat := if w = [] then 0 else if fw w = leapL ∧ w.length = 7 then 1 else if fw w = expL ∧ w.length = 5 then 2 else 3
theorem kd_le (w : List (List UInt8)) : kd w ≤ 3 := by unfold kd; (repeat' split) <;> omega
theorem kd_len {w : List (List UInt8)} : (kd w = 1 → w.length = 7) ∧ (kd w = 2 → w.length = 5) ∧ (kd w = 0 ↔ w = []) := by
  unfold kd
  refine ⟨?_, ?_, ?_⟩ <;> (repeat' split) <;> simp_all
def rkR (x : List UInt8) : Bool := (x.map fld).isPrefixOf rollL
def rkT (x : List UInt8) : Bool := rkR x || (x.map fld).isPrefixOf statL
def mo (w : List (List UInt8)) : List (List UInt8) := (w.drop 1).take 4
def sgT (w : List (List UInt8)) : Bool := decide (g w 5 = [43] ∨ g w 5 = [45])
def sgn (w : List (List UInt8)) : Int := if g w 5 = [45] then -1 else 1
def lfT (w : List (List UInt8)) : Bool := moT (mo w) && (rkT (g w 6) && sgT w)
def lpO (w : List (List UInt8)) : Lp := (moN (mo w), sgn w, rkR (g w 6))

/-- how far a source is read. -/
structure S where
  lv : List Lp
  xl : Nat
  ex : Int
def S0 : S := ⟨[], 0, 0⟩
noncomputable def lE (w : List (List UInt8)) (s : S) : Int := if lfT w = false then 2 else if moD (mo w) = false then 9 else if moS (mo w) ≠ (if sgn w = -1 then 86399 else 86400) then 6 else ce (s.lv ++ [lpO w]) false 0
def xE (w : List (List UInt8)) (s : S) : Int := if moT (mo w) = false ∨ s.xl ≠ 0 then 2 else if moD (mo w) = false ∨ moS (mo w) = 86400 then 9 else 0
noncomputable def stE (w : List (List UInt8)) (s : S) : Int := if kd w = 0 then 0 else if kd w = 1 then lE w s else if kd w = 2 then xE w s else 2
def stS (w : List (List UInt8)) (a : Nat) (s : S) : S :=
  { lv := if kd w = 1 then s.lv ++ [lpO w] else s.lv,
    xl := if kd w = 2 then a else s.xl,
    ex := if kd w = 2 then moN (mo w) * 86400 + moS (mo w) else s.ex }
noncomputable def run : List (List (List UInt8)) → Nat → S → (Nat × Int) × S
  | [], _, s => ((0, 0), s)
  | w :: r, k, s => if stE w s = 0 then run r (k + 1) (stS w (k + 1) s) else ((k + 1, stE w s), s)
theorem run_nil (k : Nat) (s : S) : run [] k s = ((0, 0), s) := rfl
theorem run_go {w : List (List UInt8)} {s : S} (h : stE w s = 0) (r : List (List (List UInt8))) (k : Nat) : run (w :: r) k s = run r (k + 1) (stS w (k + 1) s) := by rw [run, if_pos h]
theorem run_no {w : List (List UInt8)} {s : S} (h : stE w s ≠ 0) (r : List (List (List UInt8))) (k : Nat) : run (w :: r) k s = ((k + 1, stE w s), s) := by rw [run, if_neg h]
theorem run_app : ∀ (a b : List (List (List UInt8))) (k : Nat) (s : S), run (a ++ b) k s = if (run a k s).1.2 = 0 then run b (k + a.length) (run a k s).2 else run a k s
  | [], b, k, s => by simp [run_nil]
  | l :: a, b, k, s => by
    by_cases h : stE l s = 0
    · rw [List.cons_append, run_go h, run_go h, run_app a b, List.length_cons, show k + 1 + a.length = k + (a.length + 1) by omega]
    · rw [List.cons_append, run_no h, run_no h, if_neg h]

/-- what is told of a source. -/
structure Out where
  line : Nat
  code : Int
  lv : List Lp
  has : Bool
  x : Int
def bad (n : Nat) (c : Int) : Out := ⟨n, c, [], false, 0⟩
noncomputable def fin (s : S) : Out := if s.xl = 0 then ⟨0, 0, s.lv, false, 0⟩ else if ce s.lv true s.ex = 0 then ⟨0, 0, s.lv, true, s.ex⟩ else bad s.xl 9
noncomputable def parse (ws : List (List (List UInt8))) : Out := if (run ws 0 S0).1.2 ≠ 0 then bad (run ws 0 S0).1.1 (run ws 0 S0).1.2 else fin (run ws 0 S0).2

/-! what holds of how far a source is read -/
theorem ce_bd (l : List Lp) : 0 ≤ ce l false 0 ∧ ce l false 0 ≤ 9 ∧ ce l false 0 ≠ 1 := by
  have hw : ∀ k, lm.wr l k = 8 ∨ lm.wr l k = 9 ∨ lm.wr l k = 5 ∨ lm.wr l k = 6 ∨ lm.wr l k = 4 ∨ lm.wr l k = 0 := by
    intro k
    unfold lm.wr
    (repeat' split) <;> simp
  unfold lm.ce
  split
  · have := hw (lm.cp l)
    omega
  · simp [lm.xp]
theorem stE_bd (w : List (List UInt8)) (s : S) : stE w s = 0 ∨ (2 ≤ stE w s ∧ stE w s ≤ 9) := by
  have := ce_bd (s.lv ++ [lpO w])
  unfold stE lE xE
  (repeat' split) <;> omega
/-- what is so at each place. -/
structure Inv (k : Nat) (s : S) : Prop where
  good : ce s.lv false 0 = 0
  place : s.xl ≤ k
  bd : -100000000000000 ≤ s.ex ∧ s.ex ≤ 1000000000000000
theorem inv_zero : Inv 0 S0 := ⟨by unfold lm.ce S0; simp [lm.xp], Nat.le_refl _, by decide⟩
theorem inv_step {w : List (List UInt8)} {k : Nat} {s : S} (h : Inv k s) (e : stE w s = 0) : Inv (k + 1) (stS w (k + 1) s) := by
  have hm := moN_bd (mo w)
  have hs := clkI_bd (g (mo w) 3)
  refine ⟨?_, ?_, ?_⟩
  · unfold stS
    simp only
    split
    · rename_i q
      unfold stE lE at e
      rw [if_neg (by omega), if_pos q] at e
      (repeat' split at e) <;> first | exact e | omega
    · exact h.good
  · have := h.place
    unfold stS
    simp only
    split <;> omega
  · have := h.bd
    unfold stS moS
    simp only
    split <;> omega
theorem run_inv : ∀ (ws : List (List (List UInt8))) (k : Nat) (s : S), Inv k s → Inv (k + ws.length) (run ws k s).2 ∧ ((run ws k s).1.2 ≠ 0 → k < (run ws k s).1.1 ∧ (run ws k s).1.1 ≤ k + ws.length ∧ 2 ≤ (run ws k s).1.2 ∧ (run ws k s).1.2 ≤ 9)
  | [], k, s, h => ⟨h, fun g => absurd rfl g⟩
  | w :: r, k, s, h => by
    by_cases e : stE w s = 0
    · rw [run_go e]
      obtain ⟨a, b⟩ := run_inv r (k + 1) _ (inv_step h e)
      rw [List.length_cons]
      refine ⟨by rw [show k + (r.length + 1) = k + 1 + r.length by omega]; exact a, fun g => ?_⟩
      have := b g
      omega
    · rw [run_no e]
      refine ⟨⟨h.good, by have := h.place; rw [List.length_cons]; simp only; omega, h.bd⟩, fun _ => ?_⟩
      have := stE_bd w s
      rw [List.length_cons]
      simp only
      omega
theorem parse_right (ws : List (List (List UInt8))) : ((parse ws).code = 0 ∧ (parse ws).line = 0 ∧ ce (parse ws).lv (parse ws).has (parse ws).x = 0) ∨
    (2 ≤ (parse ws).code ∧ (parse ws).code ≤ 9 ∧ 1 ≤ (parse ws).line ∧ (parse ws).line ≤ ws.length ∧ (parse ws).lv = [] ∧ (parse ws).has = false ∧ (parse ws).x = 0) := by
  obtain ⟨a, b⟩ := run_inv ws 0 S0 inv_zero
  rw [Nat.zero_add] at a b
  unfold parse
  by_cases h : (run ws 0 S0).1.2 ≠ 0
  · rw [if_pos h]
    have := b h
    refine .inr ⟨?_, ?_, ?_, ?_, rfl, rfl, rfl⟩ <;> (unfold bad; simp only; omega)
  · rw [if_neg h]
    unfold fin
    have := a.place
    split
    · exact .inl ⟨rfl, rfl, a.good⟩
    split
    · rename_i q
      exact .inl ⟨rfl, rfl, q⟩
    · refine .inr ⟨?_, ?_, ?_, ?_, rfl, rfl, rfl⟩ <;> (unfold bad; simp only; omega)
theorem run_len (ws : List (List (List UInt8))) : (run ws 0 S0).2.lv.length ≤ 200 := (lm.good_of (run_inv ws 0 S0 inv_zero).1.good).len
theorem run_snoc {pre : List (List (List UInt8))} {s : S} {w : List (List UInt8)} (h : run pre 0 S0 = ((0, 0), s)) (e : stE w s = 0) : run (pre ++ [w]) 0 S0 = ((0, 0), stS w (pre.length + 1) s) := by
  rw [run_app, h, if_pos rfl, run_go e, run_nil, Nat.zero_add]
theorem run_bad {pre r : List (List (List UInt8))} {s : S} {w : List (List UInt8)} (h : run pre 0 S0 = ((0, 0), s)) (e : stE w s ≠ 0) : parse (pre ++ w :: r) = bad (pre.length + 1) (stE w s) := by
  have : run (pre ++ w :: r) 0 S0 = ((pre.length + 1, stE w s), s) := by rw [run_app, h, if_pos rfl, run_no e, Nat.zero_add]
  unfold parse
  rw [this, if_pos e]
theorem run_fin {ws : List (List (List UInt8))} {s : S} (h : run ws 0 S0 = ((0, 0), s)) : parse ws = fin s := by
  unfold parse
  rw [h, if_neg (fun k => k rfl)]
end Go.Proofs.YtpkohihnocblfaaGreatDoor.zs
