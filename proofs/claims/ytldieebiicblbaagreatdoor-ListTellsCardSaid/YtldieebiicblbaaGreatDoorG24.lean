/-
  The small case of layer 10, as plain mathematics: what is read of its texts. No condition.
-/
import Derived.Test.YtldieebiicblbaaGreatDoorG23
import Derived.Test.YtldieebiicblbaaGreatDoorG16
import Derived.Test.YtldieebiicblbaaGreatDoorG17
namespace Go.Proofs.YtldieebiicblbaaGreatDoor.ls
open lx nx
open lm (Lp ce dy st)
open list (stE_mark stS_mark stE_data stS_data stE_skip stS_skip mS dS)
set_option linter.unusedVariables false
set_option maxRecDepth 100000

def r1 : List UInt8 := [35, 9, 114, 101, 109, 97, 114, 107]
def r2 : List UInt8 := [35, 36, 9, 32, 51, 54, 55, 54, 57, 50, 52, 56, 48, 48]
def r3 : List UInt8 := [35]
def r4 : List UInt8 := [35, 64, 9, 51, 55, 48, 55, 53, 57, 54, 56, 48, 48]
def r6 : List UInt8 := [50, 50, 55, 50, 48, 54, 48, 56, 48, 48, 9, 49, 48, 9, 35, 32, 49, 32, 74, 97, 110, 32, 49, 57, 55, 50]
def r7 : List UInt8 := [50, 50, 56, 55, 55, 56, 53, 54, 48, 48, 9, 49, 49, 9, 35, 32, 49, 32, 74, 117, 108, 32, 49, 57, 55, 50]
def r8 : List UInt8 := [50, 51, 48, 51, 54, 56, 51, 50, 48, 48, 32, 49, 50]
def r9 : List UInt8 := [35, 104, 32, 49, 32, 50, 32, 51, 32, 52, 32, 53]
def ra : List UInt8 := [50, 50, 55, 50, 48, 54, 48, 56, 48, 48, 32, 49, 48]
def rb : List UInt8 := [50, 50, 56, 55, 55, 56, 53, 54, 48, 48, 32, 49, 50]
def rc' : List UInt8 := [35, 32, 97]
def rd' : List UInt8 := [50, 50, 55, 50, 48, 54, 48, 56, 48, 48, 32, 57]
def re : List UInt8 := [50, 50, 56, 55, 55, 56, 53, 54, 48, 49, 32, 49, 49]
def real : List (List UInt8) := [r1, r2, r3, r4, r3, r6, r7, r8]
def lA : List Lp := [(911, 1, false), (1095, 1, false)]
theorem goodA : lm.Good lA := by
  intro i hi
  match i, hi with
  | 0, _ => exact lm.wr_ok.2 ⟨by decide, by decide, by decide, lm.end_911, by decide, by decide⟩
  | 1, _ => exact lm.wr_ok.2 ⟨by decide, by decide, by decide, lm.end_1095, by decide, by decide⟩
theorem ceA : ce lA true 1498608000 = 0 := lm.ce_ok.2 ⟨goodA, by decide⟩
theorem ce1 : ce [(911, 1, false)] false 0 = 0 := ce_good (good_take goodA 1)
theorem ce2 : ce lA false 0 = 0 := ce_good goodA
theorem skip {l : List UInt8} {s : S} (h : kd l = 0 ∨ kd l = 4) (r : List (List UInt8)) (k : Nat) : run (l :: r) k s = run r (k + 1) (stS l (k + 1) s) := run_go (stE_skip h) r k
theorem mark {l : List UInt8} {s : S} {i : Nat} (hk : kd l = i) (hi : i = 1 ∨ i = 2 ∨ i = 3) (hp : s.p i = 0) (ho : ok l = true) (r : List (List UInt8)) (k : Nat) : run (l :: r) k s = run r (k + 1) (stS l (k + 1) s) := run_go (by rw [stE_mark hk hi, if_pos ⟨hp, ho⟩]) r k
theorem first {l : List UInt8} {s : S} (hk : kd l = 5) (ho : ok l = true) (hp : s.p 5 = 0) (h1 : g1 l = 2272060800) (h2 : g2 l = 10) (r : List (List UInt8)) (k : Nat) : run (l :: r) k s = run r (k + 1) (stS l (k + 1) s) :=
  run_go (by rw [stE_data hk]; unfold dE; rw [ho, if_neg (by decide), if_neg (fun h => h hp), h1, h2]; rfl) r k
theorem next {l : List UInt8} {s : S} (hk : kd l = 5) (ho : ok l = true) (hp : s.p 5 ≠ 0) (h : lE (g1 l) (g2 l - s.ct) s.lv = 0) (r : List (List UInt8)) (k : Nat) : run (l :: r) k s = run r (k + 1) (stS l (k + 1) s) :=
  run_go (by rw [stE_data hk]; unfold dE; rw [ho, if_neg (by decide), if_pos hp, h]) r k
def q1 : S := stS r1 1 S0
def q2 : S := stS r2 2 q1
def q3 : S := stS r3 3 q2
def q4 : S := stS r4 4 q3
def q5 : S := stS r3 5 q4
def q6 : S := stS r6 6 q5
def q7 : S := stS r7 7 q6
def q8 : S := stS r8 8 q7
theorem lE7 : lE (g1 r7) (g2 r7 - q6.ct) q6.lv = 0 := by
  unfold lE
  rw [if_neg (by decide +kernel), if_neg (by decide +kernel), show q6.lv ++ [lp (g1 r7) (g2 r7 - q6.ct)] = [(911, 1, false)] from by decide +kernel]
  exact ce1
theorem lE8 : lE (g1 r8) (g2 r8 - q7.ct) q7.lv = 0 := by
  unfold lE
  rw [if_neg (by decide +kernel), if_neg (by decide +kernel), show q7.lv ++ [lp (g1 r8) (g2 r8 - q7.ct)] = lA from by decide +kernel]
  exact ce2
theorem run_real (r : List (List UInt8)) : run (real ++ r) 0 S0 = run r 8 q8 := by
  show run (r1 :: r2 :: r3 :: r4 :: r3 :: r6 :: r7 :: r8 :: r) 0 S0 = _
  rw [skip (.inr (by decide +kernel)), mark (i := 1) (by decide +kernel) (by decide) (by decide +kernel) (by decide +kernel), skip (.inr (by decide +kernel)), mark (i := 2) (by decide +kernel) (by decide) (by decide +kernel) (by decide +kernel), skip (.inr (by decide +kernel)),
    first (by decide +kernel) (by decide +kernel) (by decide +kernel) (by decide +kernel) (by decide +kernel)]
  show run (r7 :: r8 :: r) 6 q6 = _
  rw [next (by decide +kernel) (by decide +kernel) (by decide +kernel) lE7]
  show run (r8 :: r) 7 q7 = _
  rw [next (by decide +kernel) (by decide +kernel) (by decide +kernel) lE8]
  rfl
theorem q8_facts : q8.p 5 = 6 ∧ q8.p 2 = 4 ∧ q8.p 3 = 0 ∧ q8.lv = lA ∧ q8.ex = 1498608000 := by decide +kernel
theorem parse_real : parse real = ⟨0, 0, lA, true, 1498608000⟩ := by
  have h := run_real []
  rw [List.append_nil, run_nil] at h
  obtain ⟨a, b, c, d, e⟩ := q8_facts
  unfold parse
  rw [h, if_neg (fun k => k rfl)]
  unfold fin
  rw [a, b, c, d, e, if_neg (by decide), if_neg (fun k => k.2 ceA), if_neg (by decide)]
  rfl
theorem bad_run {ls : List (List UInt8)} {n : Nat} {c : Int} {s : S} (h : run ls 0 S0 = ((n, c), s)) (hc : c ≠ 0) : parse ls = bad n c := by
  unfold parse
  rw [h, if_pos hc]
def p1 : S := stS ra 1 S0
theorem parse_c : parse [ra, rb] = bad 2 6 := by
  refine bad_run (s := p1) ?_ (by decide)
  rw [first (by decide +kernel) (by decide +kernel) (by decide +kernel) (by decide +kernel) (by decide +kernel)]
  show run [rb] 1 p1 = _
  have e : stE rb p1 = 6 := by
    rw [stE_data (by decide +kernel)]
    unfold dE
    rw [if_neg (by decide +kernel), if_pos (by decide +kernel)]
    unfold lE
    rw [if_neg (by decide +kernel), if_pos (by decide +kernel)]
  rw [run_no (by rw [e]; decide), e]
theorem parse_d : parse [rc', [], rd'] = bad 3 9 := by
  refine bad_run (s := stS [] 2 (stS rc' 1 S0)) ?_ (by decide)
  rw [skip (.inr (by decide +kernel)), skip (.inl (by decide +kernel))]
  show run [rd'] 2 (stS [] 2 (stS rc' 1 S0)) = _
  have e : stE rd' (stS [] 2 (stS rc' 1 S0)) = 9 := by
    rw [stE_data (by decide +kernel)]
    unfold dE
    rw [if_neg (by decide +kernel), if_neg (by decide +kernel), if_pos (by decide +kernel)]
  rw [run_no (by rw [e]; decide), e]
theorem parse_e : parse [r3] = bad 2 2 := by
  have h : run [r3] 0 S0 = ((0, 0), stS r3 1 S0) := by rw [skip (.inr (by decide +kernel)), run_nil]
  unfold parse
  rw [h, if_neg (fun k => k rfl)]
  unfold fin
  rw [if_pos (by decide +kernel)]
  rfl
theorem parse_f : parse [ra, re] = bad 2 5 := by
  refine bad_run (s := p1) ?_ (by decide)
  rw [first (by decide +kernel) (by decide +kernel) (by decide +kernel) (by decide +kernel) (by decide +kernel)]
  show run [re] 1 p1 = _
  have e : stE re p1 = 5 := by
    rw [stE_data (by decide +kernel)]
    unfold dE
    rw [if_neg (by decide +kernel), if_pos (by decide +kernel)]
    unfold lE
    rw [if_pos (by decide +kernel)]
  rw [run_no (by rw [e]; decide), e]
def q9 : S := stS r9 9 q8
theorem hq_real : hq (real ++ [r9]) 0 ≠ 1 := by
  unfold hq
  rw [show sha.nats (hsh (real ++ [r9])) = [51, 54, 55, 54, 57, 50, 52, 56, 48, 48, 51, 55, 48, 55, 53, 57, 54, 56, 48, 48, 50, 50, 55, 50, 48, 54, 48, 56, 48, 48, 49, 48, 50, 50, 56, 55, 55, 56, 53, 54, 48, 48, 49, 49, 50, 51, 48, 51, 54, 56, 51, 50, 48, 48, 49, 50] from by decide +kernel]
  decide +kernel
theorem parse_g : parse (real ++ [r9]) = bad 9 3 := by
  have h : run (real ++ [r9]) 0 S0 = ((0, 0), q9) := by
    rw [run_real, mark (i := 3) (by decide +kernel) (by decide) (by decide +kernel) (by decide +kernel), run_nil]
    rfl
  have f : q9.p 5 = 6 ∧ q9.p 2 = 4 ∧ q9.p 3 = 9 ∧ q9.lv = lA ∧ q9.ex = 1498608000 ∧ q9.h 0 = 1 := by decide +kernel
  obtain ⟨a, b, c, d, e, g⟩ := f
  unfold parse
  rw [h, if_neg (fun k => k rfl)]
  unfold fin
  have hh : h5 q9.h (hq (real ++ [r9])) = false := by
    cases hx : h5 q9.h (hq (real ++ [r9])) with
    | false => rfl
    | true => exact absurd ((h5_iff.1 hx 0 (by decide)).symm.trans g) hq_real
  rw [a, b, c, d, e, hh, if_neg (by decide), if_neg (fun k => k.2 ceA), if_pos (by decide)]
end Go.Proofs.YtldieebiicblbaaGreatDoor.ls

/-
  The document's own answer of layer 9, Same, and the bound of its laws, Few, for seats that have no more of them. Condition: the slices read as the rows.
-/
namespace Go.Proofs.YtldieebiicblbaaGreatDoor.ref09
open Go.ChangeShapes Go.WideShapes Go.ChangeAt Go.RowKit
open lm mem leap
set_option linter.unusedVariables false
set_option maxRecDepth 100000

/-- at the head of a round. -/
def SHead (l m : List Lp) (W1 : World) (i : Value) (W : World) : Prop :=
  ∃ k : Nat, k ≤ l.length ∧ i = .int .i64 (k : Nat) ∧ Below W1.heap.size W1 W ∧ ∀ j, j < k → (dy l j, lm.st l j, rl l j) = (dy m j, lm.st m j, rl m j)
set_option maxHeartbeats 2000000 in
theorem same_at (l m : List Lp) (A B : Option Addr) (c d : Nat) (h1 h2 : Bool) (x y : Int) (w : World) (h : Lps w A l) (g : Lps w B m) (hl : l.length ≤ 9223372036854775807) (hm : m.length ≤ 9223372036854775807) :
    Calls Tryz.prog 10 #[.agg #[.slice A l.length c, .bool h1, .int .i64 x], .agg #[.slice B m.length d, .bool h2, .int .i64 y]] w fun e w' => e = .returned (.bool (sm l m h1 h2 x y)) ∧ Below w.heap.size w w' := by
  have hw : Below w.heap.size w ((w.alloc (.cells #[.slice A l.length c, .bool h1, .int .i64 x] 24)).alloc (.cells #[.slice B m.length d, .bool h2, .int .i64 y] 24)) := bal (bal (Below.refl w.heap.size w) _) _
  have b0 : ((w.alloc (.cells #[.slice A l.length c, .bool h1, .int .i64 x] 24)).alloc (.cells #[.slice B m.length d, .bool h2, .int .i64 y] 24)).heap[w.heap.size]? = some (.cells (tcs A l.length c h1 x) 24) := hp_old (hp_new w _) _
  have b1 : ((w.alloc (.cells #[.slice A l.length c, .bool h1, .int .i64 x] 24)).alloc (.cells #[.slice B m.length d, .bool h2, .int .i64 y] 24)).heap[w.heap.size + 1]? = some (.cells (tcs B m.length d h2 y) 24) := hp_new1 w _ _
  have h' := h.below hw
  have g' := g.below hw
  have SI : Hid (sm l m h1 h2 x y = true ↔ l = m ∧ h1 = h2 ∧ x = y) := sm_iff
  have HB := Lib.hid hw
  clear h g hw
  by_cases hlen : l.length = m.length
  · by_cases e1 : h1 = h2
    · by_cases e2 : x = y
      · subst e1
        subst e2
        have SJ : Hid ((sm l m h1 h1 x x = true ↔ l = m)) := ⟨fun e => (SI.out.1 e).1, fun e => SI.out.2 ⟨e, rfl, rfl⟩⟩
        have q0 : ((l.length : Int) != (m.length : Int)) = false := by rw [hlen]; simp
        have HLE := Lib.hid hlen
        clear SI hlen
        go_enter Tryz.func10, Tryz.ntmps10
        go_wp2_with fail
        generalize (w.alloc (.cells #[.slice A l.length c, .bool h1, .int .i64 x] 24)).alloc (.cells #[.slice B m.length d, .bool h1, .int .i64 x] 24) = W1 at *
        go_loopw [5] (fun i W => SHead l m W1 i W) (fun i _ => l.length - (intOf i).toNat)
        case atStart => exact ⟨0, Nat.zero_le _, rfl, Below.refl _ _, fun j hj => by omega⟩
        case round =>
          obtain ⟨k, hk, rfl, hb, hok⟩ := hrel
          obtain ⟨t0, t1, t2⟩ := tcs_cells (kept b0 hb)
          obtain ⟨u0, u1, u2⟩ := tcs_cells (kept b1 hb)
          by_cases hlt : k < l.length
          · have hkm : k < m.length := by have := HLE.out; omega
            obtain ⟨b, o, rfl, hb0, hc⟩ := h'.below hb (by omega)
            obtain ⟨b', o', rfl, hb1, hc'⟩ := g'.below hb (by omega)
            obtain ⟨x0, x1, x2⟩ := hc k hlt
            obtain ⟨y0, y1, y2⟩ := hc' k hkm
            have q := eqL (dy l k) (lm.st l k) (dy m k) (lm.st m k) (rl l k) (rl m k)
            by_cases he : (dy l k, lm.st l k, rl l k) = (dy m k, lm.st m k, rl m k)
            · rw [decide_eq_true he] at q
              have R : Hid (∀ W', Below W1.heap.size W1 W' → SHead l m W1 (.int .i64 ((k : Int) + 1)) W') := fun W' hb' => ⟨k + 1, by omega, rfl, hb', fun j hj => by
                rcases Nat.eq_or_lt_of_le (Nat.le_of_lt_succ hj) with rfl | e
                · exact he
                · exact hok j e⟩
              clear hok he hc hc' h' g' b0 b1
              generalize dy l k = a0 at *
              generalize lm.st l k = a1 at *
              generalize rl l k = a2 at *
              generalize dy m k = b0 at *
              generalize lm.st m k = b1 at *
              generalize rl m k = b2 at *
              generalize l.length = n at *
              generalize m.length = n' at *
              go_wp2_with fail
              go_quiet (fail)
              go_wp2
              go_roundw
              case rel => exact R.out _ (bel_drewN hb _)
              case measure => simp [intOf]; omega
            · rw [decide_eq_false he] at q
              have E : Hid (sm l m h1 h1 x x = false) := by
                show sm l m h1 h1 x x = false
                rw [Bool.eq_false_iff]
                intro e
                exact he (by rw [SJ.out.1 e])
              clear hok he hc hc' h' g' SJ b0 b1
              generalize dy l k = a0 at *
              generalize lm.st l k = a1 at *
              generalize rl l k = a2 at *
              generalize dy m k = b0 at *
              generalize lm.st m k = b1 at *
              generalize rl m k = b2 at *
              generalize l.length = n at *
              generalize m.length = n' at *
              go_wp2_with fail
              go_quiet (fail)
              go_wp2
              go_ret
              exact ⟨(congrArg (fun b => Ending.returned (Value.bool b)) E.out).symm, bel_drewN (btr HB.out hb) _⟩
          · obtain rfl : k = l.length := by omega
            have E : Hid (sm l m h1 h1 x x = true) := SJ.out.2 (ext3 HLE.out hok)
            clear hok h' g' SJ
            go_wp2
            go_ret
            exact ⟨(congrArg (fun b => Ending.returned (Value.bool b)) E.out).symm, btr HB.out hb⟩
      · have E : sm l m h1 h2 x y = false := by
          rw [Bool.eq_false_iff]
          intro e
          exact e2 (SI.out.1 e).2.2
        rw [E]
        subst e1
        have q0 : ((l.length : Int) != (m.length : Int)) = false := by rw [hlen]; simp
        have q1 : (h1 != h1) = false := by simp
        have q2 : (x != y) = true := by simpa using e2
        clear SI E h' g' b0 b1 hlen e2
        generalize l.length = n at *
        generalize m.length = n' at *
        go_enter Tryz.func10, Tryz.ntmps10
        go_wp2
        go_ret
        exact ⟨rfl, HB.out⟩
    · have E : sm l m h1 h2 x y = false := by
        rw [Bool.eq_false_iff]
        intro e
        exact e1 (SI.out.1 e).2.1
      rw [E]
      have q0 : ((l.length : Int) != (m.length : Int)) = false := by rw [hlen]; simp
      clear SI E h' g' b0 b1 hlen
      generalize l.length = n at *
      generalize m.length = n' at *
      cases h1 <;> cases h2
      · exact absurd rfl e1
      · clear e1
        go_enter Tryz.func10, Tryz.ntmps10
        go_wp2
        go_ret
        exact ⟨rfl, HB.out⟩
      · clear e1
        go_enter Tryz.func10, Tryz.ntmps10
        go_wp2
        go_ret
        exact ⟨rfl, HB.out⟩
      · exact absurd rfl e1
  · have E : sm l m h1 h2 x y = false := by
      rw [Bool.eq_false_iff]
      intro e
      exact hlen (by rw [(SI.out.1 e).1])
    rw [E]
    have q0 : ((l.length : Int) != (m.length : Int)) = true := by simp; omega
    clear SI E h' g' b0 b1 hlen
    generalize l.length = n at *
    generalize m.length = n' at *
    go_enter Tryz.func10, Tryz.ntmps10
    go_wp2
    go_ret
    exact ⟨rfl, HB.out⟩
end Go.Proofs.YtldieebiicblbaaGreatDoor.ref09
namespace Go.Proofs.YtldieebiicblbaaGreatDoor.leap
open Go.ChangeShapes Go.WideShapes Go.ChangeAt Go.RowKit
open lm mem
theorem few_at (A : Option Addr) (n c : Nat) (has : Bool) (x : Int) (w : World) (hn : n ≤ 9223372036854775807) : Calls Tryz.prog 5 #[.agg #[.slice A n c, .bool has, .int .i64 x]] w fun e w' => e = .returned (.bool (decide (n ≤ 300))) ∧ Below w.heap.size w w' := by
  have hb := bal (Below.refl w.heap.size w) (.cells #[.slice A n c, .bool has, .int .i64 x] 24)
  by_cases h : n ≤ 300
  · rw [decide_eq_true h]
    have t : decide ((n : Int) ≤ 300) = true := by simp; omega
    go_enter Tryz.func5, Tryz.ntmps5
    go_wp2
    go_ret
    exact ⟨rfl, hb⟩
  · rw [decide_eq_false h]
    have t : decide ((n : Int) ≤ 300) = false := by simp; omega
    go_enter Tryz.func5, Tryz.ntmps5
    go_wp2
    go_ret
    exact ⟨rfl, hb⟩
theorem sm_self (l : List Lp) (h : Bool) (x : Int) : sm l l h h x x = true := sm_iff.2 ⟨rfl, rfl, rfl⟩
end Go.Proofs.YtldieebiicblbaaGreatDoor.leap
