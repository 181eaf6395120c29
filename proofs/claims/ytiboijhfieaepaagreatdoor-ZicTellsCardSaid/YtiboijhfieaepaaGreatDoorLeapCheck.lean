/-
  What leap's checkExpiry, Check and Right answer, for tables whose leaps read as a row. Conditions: the tables of package day hold what their initialisers lay; the slice reads as the row.
-/
import Derived.Test.YtiboijhfieaepaaGreatDoorLeap
namespace Go.Proofs.YtiboijhfieaepaaGreatDoor.leap
open Go.ChangeShapes Go.WideShapes Go.ChangeAt Go.RowKit
open lm mem
set_option linter.unusedVariables false
set_option maxRecDepth 100000

/-- the cells of a variable that holds a table. -/
def tcs (A : Option Addr) (n c : Nat) (has : Bool) (x : Int) : Array Value := #[.slice A n c, .bool has, .int .i64 x]
theorem xp_cases (l : List Lp) (has : Bool) (x : Int) (L : Int) (hL : L = lm.lst l) : xp l has x = if has then (if x < L ∨ 253402300799 < x then 9 else 0) else if x = 0 then 0 else 9 := by
  subst hL; rfl
set_option maxHeartbeats 2000000 in
set_option maxRecDepth 100000 in
theorem check_expiry (l : List Lp) (A : Option Addr) (c : Nat) (has : Bool) (x : Int) (w : World) (h : Lps w A l) (hg : lm.Good l) :
    Calls Tryz.prog 73 #[.agg #[.slice A l.length c, .bool has, .int .i64 x]] w fun e w' => e = .returned (.int .i64 (xp l has x)) ∧ Below w.heap.size w w' := by
  have hb0 := Lib.hid (fun n (A : Option Addr) has => bal (Below.refl w.heap.size w) (.cells #[.slice A n c, .bool has, .int .i64 x] 24))
  cases has
  · by_cases hx : x = 0
    · subst hx
      clear h hg
      show Calls _ _ _ _ fun e w' => e = .returned (.int .i64 0) ∧ _
      go_enter Tryz.func73, Tryz.ntmps73
      go_wp2
      go_ret
      exact ⟨rfl, hb0.out _ _ _⟩
    · have e : xp l false x = 9 := by unfold xp; rw [if_neg (by simp), if_neg hx]
      rw [e]
      clear h hg e
      by_cases h1 : x < 0
      · have t : decide (x < 0) = true := by simpa using h1
        go_enter Tryz.func73, Tryz.ntmps73
        go_wp2
        go_ret
        exact ⟨rfl, hb0.out _ _ _⟩
      · have t : decide (x < 0) = false := by simp; omega
        have t2 : decide (0 < x) = true := by simp; omega
        go_enter Tryz.func73, Tryz.ntmps73
        go_wp2
        go_ret
        exact ⟨rfl, hb0.out _ _ _⟩
  · have B1 := Lib.hid (fun W => behind 2932896 W (by decide) (by decide))
    have XP : Hid (∀ L, L = lm.lst l → xp l true x = if x < L ∨ 253402300799 < x then 9 else 0) := fun L hL => xp_cases l true x L hL
    by_cases h0 : l.length = 0
    · have e := XP.out 63072000 (by unfold lm.lst; rw [if_pos h0])
      rw [e]
      clear XP e h hg
      rw [h0] at *
      by_cases h1 : x < 63072000
      · rw [if_pos (Or.inl h1)]
        go_enter Tryz.func73, Tryz.ntmps73
        go_wp2_with (go_at_call 93; with_reducible refine (B1.out _).mono ?_; rintro e w' ⟨rfl, rfl⟩)
        go_ret
        exact ⟨rfl, hb0.out _ _ _⟩
      · by_cases h2 : 253402300799 < x
        · rw [if_pos (Or.inr h2)]
          go_enter Tryz.func73, Tryz.ntmps73
          go_wp2_with (go_at_call 93; with_reducible refine (B1.out _).mono ?_; rintro e w' ⟨rfl, rfl⟩)
          go_ret
          exact ⟨rfl, hb0.out _ _ _⟩
        · rw [if_neg (by omega)]
          go_enter Tryz.func73, Tryz.ntmps73
          go_wp2_with (go_at_call 93; with_reducible refine (B1.out _).mono ?_; rintro e w' ⟨rfl, rfl⟩)
          go_ret
          exact ⟨rfl, hb0.out _ _ _⟩
    · have hd := hg.day (i := l.length - 1) (by omega)
      have hlen := hg.len
      have e := XP.out ((dy l (l.length - 1) + 1) * 86400) (by unfold lm.lst; rw [if_neg h0])
      obtain ⟨b, o, rfl, hb1, hc⟩ := h h0
      have y := fun ob => (bal (Below.refl w.heap.size w) ob).cell (p := ⟨b, o + (l.length - 1) * 3, none⟩) hb1 |>.trans (hc (l.length - 1) (by omega)).1
      rw [e]
      clear XP e hc hg
      generalize dy l (l.length - 1) = D at *
      generalize l.length = n at *
      have B2 := Lib.hid (fun W => behind D W (by omega) (by omega))
      have hn : (n : Int) - 1 = ((n - 1 : Nat) : Int) := by omega
      generalize hE : (D + 1) * 86400 = E at *
      by_cases h1 : x < E
      · rw [if_pos (Or.inl h1)]
        go_enter Tryz.func73, Tryz.ntmps73
        go_wp2_with (go_at_call 93; (first | with_reducible refine (B1.out _).mono ?_ | with_reducible refine (B2.out _).mono ?_); rintro e w' ⟨rfl, rfl⟩)
        go_ret
        exact ⟨rfl, hb0.out _ _ _⟩
      · by_cases h2 : 253402300799 < x
        · rw [if_pos (Or.inr h2)]
          go_enter Tryz.func73, Tryz.ntmps73
          go_wp2_with (go_at_call 93; (first | with_reducible refine (B1.out _).mono ?_ | with_reducible refine (B2.out _).mono ?_); rintro e w' ⟨rfl, rfl⟩)
          go_ret
          exact ⟨rfl, hb0.out _ _ _⟩
        · rw [if_neg (by omega)]
          go_enter Tryz.func73, Tryz.ntmps73
          go_wp2_with (go_at_call 93; (first | with_reducible refine (B1.out _).mono ?_ | with_reducible refine (B2.out _).mono ?_); rintro e w' ⟨rfl, rfl⟩)
          go_ret
          exact ⟨rfl, hb0.out _ _ _⟩

/-- at the head of a round of Check. -/
def CHead (l : List Lp) (A : Option Addr) (c : Nat) (has : Bool) (x : Int) (w : World) (i : Value) (W : World) : Prop :=
  ∃ k : Nat, k ≤ l.length ∧ i = .int .i64 (k : Nat) ∧ Below w.heap.size w W ∧ W.heap[w.heap.size]? = some (.cells (tcs A l.length c has x) 24) ∧ ∀ j, j < k → wr l j = 0
def Checked (l : List Lp) (has : Bool) (x : Int) (w : World) (e : Ending) (w' : World) : Prop := e = .returned (.tuple #[.int .i64 (cp l : Nat), .int .i64 (ce l has x)]) ∧ Below w.heap.size w w'
set_option maxHeartbeats 2000000 in
set_option maxRecDepth 100000 in
theorem check_at (l : List Lp) (A : Option Addr) (c : Nat) (has : Bool) (x : Int) (w : World) (T : day.Tabs w) (h : Lps w A l) (hn : l.length ≤ 9223372036854775807) :
    Calls Tryz.prog 47 #[.agg #[.slice A l.length c, .bool has, .int .i64 x]] w (Checked l has x w) := by
  go_enter Tryz.func47, Tryz.ntmps47
  go_wp2
  go_loopw [9] (fun i W => CHead l A c has x w i W) (fun i _ => l.length - (intOf i).toNat)
  case atStart => exact ⟨0, Nat.zero_le _, rfl, bal (Below.refl _ _) _, hp_new _ _, fun j hj => by omega⟩
  case round =>
    obtain ⟨k, hk, rfl, hb, H0, hok⟩ := hrel
    have x0 : wr.cell? ⟨w.heap.size, 0, none⟩ = some (.slice A l.length c) := row_cell H0 0
    have x1 : wr.cell? ⟨w.heap.size, 1, none⟩ = some (.bool has) := row_cell H0 1
    have x2 : wr.cell? ⟨w.heap.size, 2, none⟩ = some (.int .i64 x) := row_cell H0 2
    by_cases hlt : k < l.length
    · have L := Lib.hid (check_leap l A c k wr (T.below hb) (h.below hb) hlt hn)
      by_cases hw : lm.wr l k = 0
      · rw [hw] at L
        have R : Hid (∀ W', Below wr.heap.size wr W' → CHead l A c has x w (.int .i64 ((k : Int) + 1)) W') := fun W' hb' => ⟨k + 1, by omega, rfl, btr hb hb', kept H0 hb', fun j hj => by
          rcases Nat.eq_or_lt_of_le (Nat.le_of_lt_succ hj) with rfl | g
          · exact hw
          · exact hok j g⟩
        clear hok h T H0 hw
        generalize l.length = n at *
        go_wp2_with (go_at_call 72; with_reducible refine (L.out).mono ?_; rintro e w1 ⟨rfl, hb1⟩; have R1 := R.out _ hb1)
        go_roundw
        case rel => exact R1
        case measure => simp [intOf]; omega
      · obtain ⟨e1, e2⟩ := ce_at (has := has) (x := x) hok hlt hw
        have R : Hid (∀ W', Below wr.heap.size wr W' → Checked l has x w (.returned (.tuple #[.int .i64 (k : Nat), .int .i64 (lm.wr l k)])) W') := fun W' hb' => ⟨by rw [e1, e2], btr hb hb'⟩
        clear hok h T H0 e1 e2
        have t : (lm.wr l k == 0) = false := by simpa using hw
        clear hw
        generalize lm.wr l k = z at *
        generalize l.length = n at *
        go_wp2_with (go_at_call 72; with_reducible refine (L.out).mono ?_; rintro e w1 ⟨rfl, hb1⟩; have R1 := R.out _ hb1)
        (try simp only [Exit.inBlock, Exit.then])
        exact bodyPost_ret (v := .tuple #[.int .i64 (k : Nat), .int .i64 z]) (by simp [results, Tryz.results47, go_sem]) rfl R1
    · obtain rfl : k = l.length := by omega
      obtain ⟨e1, e2⟩ := ce_end (has := has) (x := x) hok
      have X := Lib.hid (fun W (hb : Below w.heap.size w W) => check_expiry l A c has x W (h.below hb) hok)
      have R : Hid (∀ W', Below w.heap.size w W' → Checked l has x w (.returned (.tuple #[.int .i64 (l.length : Nat), .int .i64 (xp l has x)])) W') := fun W' hb' => ⟨by rw [e1, e2], hb'⟩
      clear hok h T hlt hk e1 e2
      generalize xp l has x = z at *
      generalize l.length = n at *
      have c0 : ∀ d' os, (Sort.grow (redrawn wr d') os).cell? ⟨w.heap.size, 0, none⟩ = some (.slice A n c) := fun d' os => cell_regrown x0 d' os
      have c1 : ∀ d' os, (Sort.grow (redrawn wr d') os).cell? ⟨w.heap.size, 1, none⟩ = some (.bool has) := fun d' os => cell_regrown x1 d' os
      have c2 : ∀ d' os, (Sort.grow (redrawn wr d') os).cell? ⟨w.heap.size, 2, none⟩ = some (.int .i64 x) := fun d' os => cell_regrown x2 d' os
      have F := Lib.hid (fun d' os => below_at (T := fun W => Below w.heap.size w W) X.out (fun W hb2 => btr hb hb2) d' os)
      clear H0
      go_wp2_with fail
      refine wp_region_quiet_below (by kernel_rfl) (by kernel_rfl) ?_
      repeat (quiet_step ((go_at_call 73; with_reducible exact F.out _ _)))
      refine wpQuiet_nil ?_
      intro _ hw'
      obtain ⟨⟨dq, osq⟩, hw''⟩ := hw'
      subst hw''
      have hbz := btr hb (below_regrown _ dq osq)
      generalize Sort.grow (redrawn wr dq) osq = W7 at *
      go_wp2
      exact bodyPost_ret (v := .tuple #[.int .i64 (n : Nat), .int .i64 z]) (by simp [results, Tryz.results47, go_sem]) rfl (R.out _ hbz)
def Righted (l : List Lp) (has : Bool) (x : Int) (w : World) (e : Ending) (w' : World) : Prop := e = .returned (.bool (ce l has x == 0)) ∧ Below w.heap.size w w'
theorem right_at (l : List Lp) (A : Option Addr) (c : Nat) (has : Bool) (x : Int) (w : World) (T : day.Tabs w) (h : Lps w A l) (hn : l.length ≤ 9223372036854775807) :
    Calls Tryz.prog 21 #[.agg #[.slice A l.length c, .bool has, .int .i64 x]] w fun e w' => e = .returned (.bool (ce l has x == 0)) ∧ Below w.heap.size w w' := by
  have hb0 := bal (Below.refl w.heap.size w) (.cells #[.slice A l.length c, .bool has, .int .i64 x] 24)
  have C := Lib.hid (check_at l A c has x _ (T.below hb0) (h.below hb0) hn)
  unfold Checked at C
  have HB := Lib.hid hb0
  clear T h hb0
  generalize ce l has x = z at *
  generalize cp l = p at *
  generalize l.length = n at *
  go_enter Tryz.func21, Tryz.ntmps21
  go_wp2_with (go_at_call 47; with_reducible refine (C.out).mono ?_; rintro e w1 ⟨rfl, hb1⟩)
  go_ret
  exact ⟨rfl, btr HB.out hb1⟩
end Go.Proofs.YtiboijhfieaepaaGreatDoor.leap
