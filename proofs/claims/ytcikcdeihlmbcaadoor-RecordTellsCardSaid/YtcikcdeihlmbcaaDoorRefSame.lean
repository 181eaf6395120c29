/-
  The document's own answer of layer 9, Same, and the bound of its laws, Few, for seats that have no more of them. Condition: the slices read as the rows.
-/
import Derived.Test.YtcikcdeihlmbcaaDoorLeapSame
import Derived.Test.YtcikcdeihlmbcaaDoorLeapAdd
namespace Go.Proofs.YtcikcdeihlmbcaaDoor.ref09
open Go.ChangeShapes Go.WideShapes Go.ChangeAt Go.RowKit
open lm mem leap
set_option linter.unusedVariables false
set_option maxRecDepth 100000

/-- at the head of a round. -/
def SHead (l m : List Lp) (W1 : World) (i : Value) (W : World) : Prop :=
  ∃ k : Nat, k ≤ l.length ∧ i = .int .i64 (k : Nat) ∧ Below W1.heap.size W1 W ∧ ∀ j, j < k → (dy l j, lm.st l j, rl l j) = (dy m j, lm.st m j, rl m j)
set_option maxHeartbeats 2000000 in
theorem same_at (l m : List Lp) (A B : Option Addr) (c d : Nat) (h1 h2 : Bool) (x y : Int) (w : World) (h : Lps w A l) (g : Lps w B m) (hl : l.length ≤ 9223372036854775807) (hm : m.length ≤ 9223372036854775807) :
    Calls Tryd.prog 23 #[.agg #[.slice A l.length c, .bool h1, .int .i64 x], .agg #[.slice B m.length d, .bool h2, .int .i64 y]] w fun e w' => e = .returned (.bool (sm l m h1 h2 x y)) ∧ Below w.heap.size w w' := by
  have hw : Below w.heap.size w ((w.alloc (.cells #[.slice A l.length c, .bool h1, .int .i64 x] 24)).alloc (.cells #[.slice B m.length d, .bool h2, .int .i64 y] 24)) := bal (bal (Below.refl w.heap.size w) _) _
  have b0 : ((w.alloc (.cells #[.slice A l.length c, .bool h1, .int .i64 x] 24)).alloc (.cells #[.slice B m.length d, .bool h2, .int .i64 y] 24)).heap[w.heap.size]? = some (.cells (tcs A l.length c h1 x) 24) := hp_old (hp_new w _) _
  have b1 : ((w.alloc (.cells #[.slice A l.length c, .bool h1, .int .i64 x] 24)).alloc (.cells #[.slice B m.length d, .bool h2, .int .i64 y] 24)).heap[w.heap.size + 1]? = some (.cells (tcs B m.length d h2 y) 24) := hp_new1 w _ _
  have h' := h.below hw
  have g' := g.below hw
  have SI : Hid (sm l m h1 h2 x y = true ↔ l = m ∧ h1 = h2 ∧ x = y) := sm_iff
  have HB := Lib.hid hw
  clear h g hw
  by_cases hlen : l.length = m.length
  · by_cases e1 : h1 = h2
    · by_cases e2 : x = y
      · subst e1
        subst e2
        have SJ : Hid ((sm l m h1 h1 x x = true ↔ l = m)) := ⟨fun e => (SI.out.1 e).1, fun e => SI.out.2 ⟨e, rfl, rfl⟩⟩
        have q0 : ((l.length : Int) != (m.length : Int)) = false := by rw [hlen]; simp
        have HLE := Lib.hid hlen
        clear SI hlen
        go_enter Tryd.func23, Tryd.ntmps23
        go_wp2_with fail
        generalize (w.alloc (.cells #[.slice A l.length c, .bool h1, .int .i64 x] 24)).alloc (.cells #[.slice B m.length d, .bool h1, .int .i64 x] 24) = W1 at *
        go_loopw [5] (fun i W => SHead l m W1 i W) (fun i _ => l.length - (intOf i).toNat)
        case atStart => exact ⟨0, Nat.zero_le _, rfl, Below.refl _ _, fun j hj => by omega⟩
        case round =>
          obtain ⟨k, hk, rfl, hb, hok⟩ := hrel
          obtain ⟨t0, t1, t2⟩ := tcs_cells (kept b0 hb)
          obtain ⟨u0, u1, u2⟩ := tcs_cells (kept b1 hb)
          by_cases hlt : k < l.length
          · have hkm : k < m.length := by have := HLE.out; omega
            obtain ⟨b, o, rfl, hb0, hc⟩ := h'.below hb (by omega)
            obtain ⟨b', o', rfl, hb1, hc'⟩ := g'.below hb (by omega)
            obtain ⟨x0, x1, x2⟩ := hc k hlt
            obtain ⟨y0, y1, y2⟩ := hc' k hkm
            have q := eqL (dy l k) (lm.st l k) (dy m k) (lm.st m k) (rl l k) (rl m k)
            by_cases he : (dy l k, lm.st l k, rl l k) = (dy m k, lm.st m k, rl m k)
            · rw [decide_eq_true he] at q
              have R : Hid (∀ W', Below W1.heap.size W1 W' → SHead l m W1 (.int .i64 ((k : Int) + 1)) W') := fun W' hb' => ⟨k + 1, by omega, rfl, hb', fun j hj => by
                rcases Nat.eq_or_lt_of_le (Nat.le_of_lt_succ hj) with rfl | e
                · exact he
                · exact hok j e⟩
              clear hok he hc hc' h' g' b0 b1
              generalize dy l k = a0 at *
              generalize lm.st l k = a1 at *
              generalize rl l k = a2 at *
              generalize dy m k = b0 at *
              generalize lm.st m k = b1 at *
              generalize rl m k = b2 at *
              generalize l.length = n at *
              generalize m.length = n' at *
              go_wp2_with fail
              go_quiet (fail)
              go_wp2
              go_roundw
              case rel => exact R.out _ (bel_drewN hb _)
              case measure => simp [intOf]; omega
            · rw [decide_eq_false he] at q
              have E : Hid (sm l m h1 h1 x x = false) := by
                show sm l m h1 h1 x x = false
                rw [Bool.eq_false_iff]
                intro e
                exact he (by rw [SJ.out.1 e])
              clear hok he hc hc' h' g' SJ b0 b1
              generalize dy l k = a0 at *
              generalize lm.st l k = a1 at *
              generalize rl l k = a2 at *
              generalize dy m k = b0 at *
              generalize lm.st m k = b1 at *
              generalize rl m k = b2 at *
              generalize l.length = n at *
              generalize m.length = n' at *
              go_wp2_with fail
              go_quiet (fail)
              go_wp2
              go_ret
              exact ⟨(congrArg (fun b => Ending.returned (Value.bool b)) E.out).symm, bel_drewN (btr HB.out hb) _⟩
          · obtain rfl : k = l.length := by omega
            have E : Hid (sm l m h1 h1 x x = true) := SJ.out.2 (ext3 HLE.out hok)
            clear hok h' g' SJ
            go_wp2
            go_ret
            exact ⟨(congrArg (fun b => Ending.returned (Value.bool b)) E.out).symm, btr HB.out hb⟩
      · have E : sm l m h1 h2 x y = false := by
          rw [Bool.eq_false_iff]
          intro e
          exact e2 (SI.out.1 e).2.2
        rw [E]
        subst e1
        have q0 : ((l.length : Int) != (m.length : Int)) = false := by rw [hlen]; simp
        have q1 : (h1 != h1) = false := by simp
        have q2 : (x != y) = true := by simpa using e2
        clear SI E h' g' b0 b1 hlen e2
        generalize l.length = n at *
        generalize m.length = n' at *
        go_enter Tryd.func23, Tryd.ntmps23
        go_wp2
        go_ret
        exact ⟨rfl, HB.out⟩
    · have E : sm l m h1 h2 x y = false := by
        rw [Bool.eq_false_iff]
        intro e
        exact e1 (SI.out.1 e).2.1
      rw [E]
      have q0 : ((l.length : Int) != (m.length : Int)) = false := by rw [hlen]; simp
      clear SI E h' g' b0 b1 hlen
      generalize l.length = n at *
      generalize m.length = n' at *
      cases h1 <;> cases h2
      · exact absurd rfl e1
      · clear e1
        go_enter Tryd.func23, Tryd.ntmps23
        go_wp2
        go_ret
        exact ⟨rfl, HB.out⟩
      · clear e1
        go_enter Tryd.func23, Tryd.ntmps23
        go_wp2
        go_ret
        exact ⟨rfl, HB.out⟩
      · exact absurd rfl e1
  · have E : sm l m h1 h2 x y = false := by
      rw [Bool.eq_false_iff]
      intro e
      exact hlen (by rw [(SI.out.1 e).1])
    rw [E]
    have q0 : ((l.length : Int) != (m.length : Int)) = true := by simp; omega
    clear SI E h' g' b0 b1 hlen
    generalize l.length = n at *
    generalize m.length = n' at *
    go_enter Tryd.func23, Tryd.ntmps23
    go_wp2
    go_ret
    exact ⟨rfl, HB.out⟩
end Go.Proofs.YtcikcdeihlmbcaaDoor.ref09
namespace Go.Proofs.YtcikcdeihlmbcaaDoor.leap
open Go.ChangeShapes Go.WideShapes Go.ChangeAt Go.RowKit
open lm mem
theorem few_at (A : Option Addr) (n c : Nat) (has : Bool) (x : Int) (w : World) (hn : n ≤ 9223372036854775807) : Calls Tryd.prog 10 #[.agg #[.slice A n c, .bool has, .int .i64 x]] w fun e w' => e = .returned (.bool (decide (n ≤ 300))) ∧ Below w.heap.size w w' := by
  have hb := bal (Below.refl w.heap.size w) (.cells #[.slice A n c, .bool has, .int .i64 x] 24)
  by_cases h : n ≤ 300
  · rw [decide_eq_true h]
    have t : decide ((n : Int) ≤ 300) = true := by simp; omega
    go_enter Tryd.func10, Tryd.ntmps10
    go_wp2
    go_ret
    exact ⟨rfl, hb⟩
  · rw [decide_eq_false h]
    have t : decide ((n : Int) ≤ 300) = false := by simp; omega
    go_enter Tryd.func10, Tryd.ntmps10
    go_wp2
    go_ret
    exact ⟨rfl, hb⟩
theorem sm_self (l : List Lp) (h : Bool) (x : Int) : sm l l h h x x = true := sm_iff.2 ⟨rfl, rfl, rfl⟩
end Go.Proofs.YtcikcdeihlmbcaaDoor.leap
