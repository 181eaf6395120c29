/-
  What leap's Same answers, and the library's Equal of rows of leaps. Condition: the slices read as the rows.
-/
import Derived.Test.YtefnlnehdogiaaaDoorLeapTotal
namespace Go.Proofs.YtefnlnehdogiaaaDoor.leap
open Go.ChangeShapes Go.WideShapes Go.ChangeAt Go.RowKit
open lm mem
set_option linter.unusedVariables false

theorem eqL (a b c d : Int) (r s : Bool) (W : World) : (Op.equalIn 10000 26 (.agg #[.int .i64 a, .int .i64 b, .bool r]) (.agg #[.int .i64 c, .int .i64 d, .bool s])).run Tryd.prog W = .ok (decide ((a, b, r) = (c, d, s))) W := by
  rw [run_equalIn_struct W 9999 26 _ _ (by kernel_rfl) (by kernel_rfl)]
  have hf : Tryd.prog.fieldsOf 26 = (match Tryd.prog.underlying 26 with | some (.struct fs) => fs | _ => #[]) := by kernel_rfl
  rw [Tryd.underlying26] at hf
  simp only at hf
  rw [hf]
  have p0 : ∀ x y : Int, ∀ t, (part 3 #[.int .i64 x, .int .i64 y, .bool t] 0).run Tryd.prog W = .ok (.int .i64 x) W := fun x y t => by simp [part, isAgg, run_underlying Tryd.underlying3]
  have p1 : ∀ x y : Int, ∀ t, (part 3 #[.int .i64 x, .int .i64 y, .bool t] 1).run Tryd.prog W = .ok (.int .i64 y) W := fun x y t => by simp [part, isAgg, run_underlying Tryd.underlying3]
  have p2 : ∀ x y : Int, ∀ t, (part 4 #[.int .i64 x, .int .i64 y, .bool t] 2).run Tryd.prog W = .ok (.bool t) W := fun x y t => by simp [part, isAgg, run_underlying Tryd.underlying4]
  have e3 : ∀ x y : Int, (Op.equalIn 9999 3 (.int .i64 x) (.int .i64 y)).run Tryd.prog W = .ok (x == y) W := fun x y => run_equalIn_int W 9998 3 .i64 .i64 x y Tryd.underlying3
  have e4 : ∀ x y : Bool, (Op.equalIn 9999 4 (.bool x) (.bool y)).run Tryd.prog W = .ok (x == y) W := fun x y => run_equalIn_bool W 9998 4 x y Tryd.underlying4
  by_cases h : a = c <;> by_cases h2 : b = d <;> by_cases h3 : r = s <;> simp [Op.eqFields, Sem.run_bind, p0, p1, p2, e3, e4, h, h2, h3]
theorem ext3 {l m : List Lp} (h : l.length = m.length) (hk : ∀ k, k < l.length → (dy l k, lm.st l k, rl l k) = (dy m k, lm.st m k, rl m k)) : l = m := by
  refine List.ext_getElem h fun k h1 h2 => ?_
  have := hk k h1
  unfold dy lm.st rl at this
  rw [List.getD_eq_getElem?_getD, List.getElem?_eq_getElem h1, List.getD_eq_getElem?_getD, List.getElem?_eq_getElem h2] at this
  simp at this
  exact Prod.ext this.1 (Prod.ext this.2.1 this.2.2)
/-- at the head of a round. -/
def EHead (l m : List Lp) (w : World) (i : Value) (W : World) : Prop :=
  ∃ k : Nat, k ≤ l.length ∧ i = .int .i64 (k : Nat) ∧ Below w.heap.size w W ∧ ∀ j, j < k → (dy l j, lm.st l j, rl l j) = (dy m j, lm.st m j, rl m j)
set_option maxHeartbeats 1000000 in
theorem equal_at (l m : List Lp) (A B : Option Addr) (c d : Nat) (w : World) (h : Lps w A l) (g : Lps w B m) (hl : l.length ≤ 9223372036854775807) (hm : m.length ≤ 9223372036854775807) :
    Calls Tryd.prog 31 #[.slice A l.length c, .slice B m.length d] w fun e w' => e = .returned (.bool (decide (l = m))) ∧ Below w.heap.size w w' := by
  by_cases hlen : l.length = m.length
  · go_enter Tryd.func31, Tryd.ntmps31
    go_wp2
    go_loopw [13] (fun i W => EHead l m w i W) (fun i _ => l.length - (intOf i).toNat)
    case atStart => exact ⟨0, Nat.zero_le _, rfl, Below.refl _ _, fun j hj => by omega⟩
    case round =>
      obtain ⟨k, hk, rfl, hb, hok⟩ := hrel
      by_cases hlt : k < l.length
      · obtain ⟨b, o, rfl, hb0, hc⟩ := h.below hb (by omega)
        obtain ⟨b', o', rfl, hb1, hc'⟩ := g.below hb (by omega)
        obtain ⟨x0, x1, x2⟩ := hc k hlt
        obtain ⟨y0, y1, y2⟩ := hc' k (by omega)
        have q := eqL (dy l k) (lm.st l k) (dy m k) (lm.st m k) (rl l k) (rl m k)
        by_cases he : (dy l k, lm.st l k, rl l k) = (dy m k, lm.st m k, rl m k)
        · rw [decide_eq_true he] at q
          have R : Hid (∀ W', Below w.heap.size w W' → EHead l m w (.int .i64 ((k : Int) + 1)) W') := fun W' hb' => ⟨k + 1, by omega, rfl, hb', fun j hj => by
            rcases Nat.eq_or_lt_of_le (Nat.le_of_lt_succ hj) with rfl | e
            · exact he
            · exact hok j e⟩
          clear hok he hc hc' h g
          generalize dy l k = a0 at *
          generalize lm.st l k = a1 at *
          generalize rl l k = a2 at *
          generalize dy m k = b0 at *
          generalize lm.st m k = b1 at *
          generalize rl m k = b2 at *
          generalize l.length = n at *
          generalize m.length = n' at *
          go_wp2_with fail
          go_quiet (fail)
          go_wp2
          go_roundw
          case rel => exact R.out _ (bel_drewN hb _)
          case measure => simp [intOf]; omega
        · rw [decide_eq_false he] at q
          have E : Hid (decide (l = m) = false) := decide_eq_false fun e => he (by rw [e])
          clear hok he hc hc' h g
          generalize dy l k = a0 at *
          generalize lm.st l k = a1 at *
          generalize rl l k = a2 at *
          generalize dy m k = b0 at *
          generalize lm.st m k = b1 at *
          generalize rl m k = b2 at *
          generalize l.length = n at *
          generalize m.length = n' at *
          go_wp2_with fail
          go_quiet (fail)
          go_wp2
          go_ret
          exact ⟨(congrArg (fun b => Ending.returned (Value.bool b)) E.out).symm, bel_drewN hb _⟩
      · obtain rfl : k = l.length := by omega
        have E : Hid (decide (l = m) = true) := decide_eq_true (ext3 hlen hok)
        clear hok h g
        go_wp2
        go_ret
        exact ⟨(congrArg (fun b => Ending.returned (Value.bool b)) E.out).symm, hb⟩
  · have e : decide (l = m) = false := decide_eq_false fun e => hlen (by rw [e])
    rw [e]
    clear e h g
    have t : ((l.length : Int) != (m.length : Int)) = true := by simp; omega
    clear hlen
    generalize l.length = n at *
    generalize m.length = n' at *
    go_enter Tryd.func31, Tryd.ntmps31
    go_wp2
    go_ret
    exact ⟨rfl, Below.refl _ _⟩
/-- do two tables say the same? -/
def sm (l m : List Lp) (h1 h2 : Bool) (x y : Int) : Bool := h1 == h2 && x == y && decide (l = m)
theorem sm_iff {l m : List Lp} {h1 h2 : Bool} {x y : Int} : sm l m h1 h2 x y = true ↔ l = m ∧ h1 = h2 ∧ x = y := by
  unfold sm
  simp only [Bool.and_eq_true, beq_iff_eq, decide_eq_true_eq]
  constructor
  · rintro ⟨⟨a, b⟩, c⟩; exact ⟨c, a, b⟩
  · rintro ⟨a, b, c⟩; exact ⟨⟨b, c⟩, a⟩
set_option maxHeartbeats 1000000 in
theorem same_at (l m : List Lp) (A B : Option Addr) (c d : Nat) (h1 h2 : Bool) (x y : Int) (w : World) (h : Lps w A l) (g : Lps w B m) (hl : l.length ≤ 9223372036854775807) (hm : m.length ≤ 9223372036854775807) :
    Calls Tryd.prog 15 #[.agg #[.slice A l.length c, .bool h1, .int .i64 x], .agg #[.slice B m.length d, .bool h2, .int .i64 y]] w fun e w' => e = .returned (.bool (sm l m h1 h2 x y)) ∧ Below w.heap.size w w' := by
  have hb0 := bal (bal (Below.refl w.heap.size w) (.cells #[.slice A l.length c, .bool h1, .int .i64 x] 24)) (.cells #[.slice B m.length d, .bool h2, .int .i64 y] 24)
  have C := Lib.hid (equal_at l m A B c d _ (h.below hb0) (g.below hb0) hl hm)
  have HB := Lib.hid hb0
  unfold sm
  clear h g hb0
  generalize decide (l = m) = z at *
  generalize l.length = n at *
  generalize m.length = n' at *
  by_cases e1 : h1 = h2
  · have t1 : (h1 == h2) = true := by simpa using e1
    by_cases e2 : x = y
    · have t2 : (x == y) = true := by simpa using e2
      rw [t1, t2]
      clear e1 e2
      go_enter Tryd.func15, Tryd.ntmps15
      go_wp2_with (go_at_call 31; with_reducible refine (C.out).mono ?_; rintro e w1 ⟨rfl, hb1⟩)
      go_ret
      exact ⟨rfl, btr HB.out hb1⟩
    · have t2 : (x == y) = false := by simpa using e2
      rw [t1, t2]
      clear e1 e2 C
      go_enter Tryd.func15, Tryd.ntmps15
      go_wp2
      go_ret
      exact ⟨rfl, HB.out⟩
  · have t1 : (h1 == h2) = false := by simpa using e1
    rw [t1]
    clear e1 C
    go_enter Tryd.func15, Tryd.ntmps15
    go_wp2
    go_ret
    exact ⟨rfl, HB.out⟩
end Go.Proofs.YtefnlnehdogiaaaDoor.leap
