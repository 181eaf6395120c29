/-
  What leap's checkLeap, checkExpiry, Check and Right answer. Conditions: the tables of package day hold what their initialisers lay; the slice reads as the row of leaps.
-/
import Derived.Test.YtldieebiicblbaaGreatDoorG07
import Derived.Test.YtldieebiicblbaaGreatDoorG15
import Derived.Test.YtldieebiicblbaaGreatDoorG13
import Derived.WalkSmall
import Derived.Shelf.Abstract
import Derived.Deep.AppendSrc
import Derived.StillTailTactics
namespace Go.Proofs.YtldieebiicblbaaGreatDoor.leap
open Go.ChangeShapes Go.WideShapes Go.ChangeAt Go.RowKit
open lm mem
set_option linter.unusedVariables false
set_option maxRecDepth 100000

def rl (l : List Lp) (k : Nat) : Bool := (l.getD k z3).2.2
/-- a slice that reads as a row of leaps. -/
def Lps (w : World) (A : Option Addr) (l : List Lp) : Prop :=
  l.length ≠ 0 → ∃ b o, A = some ⟨b, o, none⟩ ∧ b < w.heap.size ∧ ∀ k, k < l.length → w.cell? ⟨b, o + k * 3, none⟩ = some (.int .i64 (dy l k)) ∧ w.cell? ⟨b, o + k * 3 + 1, none⟩ = some (.int .i64 (st l k)) ∧ w.cell? ⟨b, o + k * 3 + 2, none⟩ = some (.bool (rl l k))
theorem Lps.below {w W : World} {A : Option Addr} {l : List Lp} (h : Lps w A l) (hb : Below w.heap.size w W) : Lps W A l := by
  intro hl
  obtain ⟨b, o, e, hlt, hc⟩ := h hl
  exact ⟨b, o, e, Nat.lt_of_lt_of_le hlt hb.size, fun k hk => ⟨(hb.cell (p := ⟨b, o + k * 3, none⟩) hlt).trans (hc k hk).1, (hb.cell (p := ⟨b, o + k * 3 + 1, none⟩) hlt).trans (hc k hk).2.1, (hb.cell (p := ⟨b, o + k * 3 + 2, none⟩) hlt).trans (hc k hk).2.2⟩⟩

theorem end_at (n : Int) (w : World) (T : day.Tabs w) (h1 : 730 ≤ n) (h2 : n < 2932896) : Calls Tryz.prog 98 #[.int .i64 n] w fun e w' => e = .returned (.bool (endB n)) ∧ Below w.heap.size w w' := by
  obtain ⟨y, m, d, v, hn⟩ := day.exists_date n (by omega) (by omega)
  rw [← endB_of v hn]
  exact day.end_is y m d n w T v hn

theorem behind (d : Int) (w : World) (h1 : -1000000000000 ≤ d) (h2 : d ≤ 1000000000000) : Calls Tryz.prog 99 #[.int .i64 d] w fun e w' => e = .returned (.int .i64 ((d + 1) * 86400)) ∧ w = w' := by
  go_enter Tryz.func99, Tryz.ntmps99
  go_wp2
  go_ret
  exact ⟨rfl, rfl⟩

set_option maxHeartbeats 2000000 in
set_option maxRecDepth 100000 in
theorem check_leap (l : List Lp) (A : Option Addr) (c k : Nat) (w : World) (T : day.Tabs w) (h : Lps w A l) (hk : k < l.length) (hn : l.length ≤ 9223372036854775807) :
    Calls Tryz.prog 71 #[.slice A l.length c, .int .i64 k] w fun e w' => e = .returned (.int .i64 (wr l k)) ∧ Below w.heap.size w w' := by
  have hl0 : l.length ≠ 0 := by omega
  obtain ⟨b, o, rfl, hb0, hc⟩ := h hl0
  obtain ⟨x0, x1, x2⟩ := hc k hk
  have EN : Hid (730 ≤ dy l k → dy l k < 2932896 → ∀ W, Below w.heap.size w W → Calls Tryz.prog 98 #[.int .i64 (dy l k)] W fun e w' => e = .returned (.bool (endB (dy l k))) ∧ Below W.heap.size W w') := fun a b W hb => end_at _ W (T.below hb) a b
  have PV : Hid (0 < k → ∀ W, Below w.heap.size w W → W.cell? ⟨b, o + (k - 1) * 3, none⟩ = some (.int .i64 (dy l (k - 1)))) := fun h0 W hb => (hb.cell (p := ⟨b, o + (k - 1) * 3, none⟩) hb0).trans (hc (k - 1) (by omega)).1
  have WR : Hid (wr l k = if 200 ≤ k then 8 else if dy l k < 730 ∨ 2932896 ≤ dy l k then 9 else if endB (dy l k) = false then 5 else if st l k ≠ 1 ∧ st l k ≠ -1 then 6 else if 0 < k ∧ dy l k ≤ dy l (k - 1) then 4 else 0) := rfl
  clear hc h T
  generalize wr l k = R at *
  generalize dy l k = D at *
  generalize st l k = S at *
  generalize rl l k = O at *
  generalize dy l (k - 1) = P at *
  generalize endB D = E at *
  generalize l.length = n at *
  have B0 := Lib.hid (bal (Below.refl w.heap.size w) (.cells #[.int .i64 D, .int .i64 S, .bool O] 40))
  by_cases h200 : 200 ≤ k
  · have e : R = 8 := by rw [WR.out, if_pos h200]
    subst e
    clear WR EN PV
    go_enter Tryz.func71, Tryz.ntmps71
    go_wp2
    go_ret
    exact ⟨rfl, B0.out⟩
  by_cases hd : D < 730
  · have e : R = 9 := by rw [WR.out, if_neg h200, if_pos (Or.inl hd)]
    subst e
    clear WR EN PV
    go_enter Tryz.func71, Tryz.ntmps71
    go_wp2
    go_ret
    exact ⟨rfl, B0.out⟩
  by_cases hd2 : 2932896 ≤ D
  · have e : R = 9 := by rw [WR.out, if_neg h200, if_pos (Or.inr hd2)]
    subst e
    clear WR EN PV
    go_enter Tryz.func71, Tryz.ntmps71
    go_wp2
    go_ret
    exact ⟨rfl, B0.out⟩
  have W2 : Hid (R = if E = false then 5 else if S ≠ 1 ∧ S ≠ -1 then 6 else if 0 < k ∧ D ≤ P then 4 else 0) := by
    show R = _
    rw [WR.out, if_neg h200, if_neg (by omega)]
  have EN2 := Lib.hid (EN.out (by omega) (by omega) _ B0.out)
  clear WR EN
  cases E
  · have e : R = 5 := by rw [W2.out, if_pos rfl]
    subst e
    clear W2 PV
    go_enter Tryz.func71, Tryz.ntmps71
    go_wp2_with (go_at_call 98; with_reducible refine (EN2.out).mono ?_; rintro e w1 ⟨rfl, hb1⟩)
    go_ret
    exact ⟨rfl, btr B0.out hb1⟩
  have W3 : Hid (R = if S ≠ 1 ∧ S ≠ -1 then 6 else if 0 < k ∧ D ≤ P then 4 else 0) := by
    show R = _
    rw [W2.out, if_neg (by simp)]
  clear W2
  have CC : Hid (∀ w1, Below (w.alloc (.cells #[.int .i64 D, .int .i64 S, .bool O] 40)).heap.size (w.alloc (.cells #[.int .i64 D, .int .i64 S, .bool O] 40)) w1 → w1.cell? ⟨w.heap.size, 0, none⟩ = some (.int .i64 D) ∧ w1.cell? ⟨w.heap.size, 1, none⟩ = some (.int .i64 S)) := fun w1 hb1 => ⟨row_cell (kept (hp_new w _) hb1) 0, row_cell (kept (hp_new w _) hb1) 1⟩
  by_cases hs : S ≠ 1 ∧ S ≠ -1
  · have e : R = 6 := by rw [W3.out, if_pos hs]
    subst e
    have t1 : (S != 1) = true := by simpa using hs.1
    have t2 : (S != -1) = true := by simpa using hs.2
    clear W3 PV hs
    go_enter Tryz.func71, Tryz.ntmps71
    go_wp2_with (go_at_call 98; with_reducible refine (EN2.out).mono ?_; rintro e w1 ⟨rfl, hb1⟩; obtain ⟨y0, y1⟩ := CC.out w1 hb1)
    go_ret
    exact ⟨rfl, btr B0.out hb1⟩
  have W4 : Hid (R = if 0 < k ∧ D ≤ P then 4 else 0) := by
    show R = _
    rw [W3.out, if_neg hs]
  clear W3
  have hs2 : S = 1 ∨ S = -1 := by omega
  clear hs
  by_cases h0 : 0 < k
  · have t3 : decide (0 < (k : Int)) = true := by simp; omega
    have PV2 := Lib.hid (PV.out h0)
    clear PV
    rcases hs2 with rfl | rfl
    · by_cases hp : D ≤ P
      · have e : R = 4 := by rw [W4.out, if_pos ⟨h0, hp⟩]
        subst e
        have t4 : decide (D ≤ P) = true := by simpa using hp
        clear W4
        go_enter Tryz.func71, Tryz.ntmps71
        go_wp2_with (go_at_call 98; with_reducible refine (EN2.out).mono ?_; rintro e w1 ⟨rfl, hb1⟩; obtain ⟨y0, y1⟩ := CC.out w1 hb1; have y3 := PV2.out w1 (btr B0.out hb1))
        go_quiet (fail)
        go_wp2
        go_ret
        exact ⟨rfl, bel_drewN (btr B0.out hb1) _⟩
      · have e : R = 0 := by rw [W4.out, if_neg (fun g => hp g.2)]
        subst e
        have t4 : decide (D ≤ P) = false := by simpa using hp
        clear W4
        go_enter Tryz.func71, Tryz.ntmps71
        go_wp2_with (go_at_call 98; with_reducible refine (EN2.out).mono ?_; rintro e w1 ⟨rfl, hb1⟩; obtain ⟨y0, y1⟩ := CC.out w1 hb1; have y3 := PV2.out w1 (btr B0.out hb1))
        go_quiet (fail)
        go_wp2
        go_ret
        exact ⟨rfl, bel_drewN (btr B0.out hb1) _⟩
    · by_cases hp : D ≤ P
      · have e : R = 4 := by rw [W4.out, if_pos ⟨h0, hp⟩]
        subst e
        have t4 : decide (D ≤ P) = true := by simpa using hp
        clear W4
        go_enter Tryz.func71, Tryz.ntmps71
        go_wp2_with (go_at_call 98; with_reducible refine (EN2.out).mono ?_; rintro e w1 ⟨rfl, hb1⟩; obtain ⟨y0, y1⟩ := CC.out w1 hb1; have y3 := PV2.out w1 (btr B0.out hb1))
        go_quiet (fail)
        go_wp2
        go_ret
        exact ⟨rfl, bel_drewN (btr B0.out hb1) _⟩
      · have e : R = 0 := by rw [W4.out, if_neg (fun g => hp g.2)]
        subst e
        have t4 : decide (D ≤ P) = false := by simpa using hp
        clear W4
        go_enter Tryz.func71, Tryz.ntmps71
        go_wp2_with (go_at_call 98; with_reducible refine (EN2.out).mono ?_; rintro e w1 ⟨rfl, hb1⟩; obtain ⟨y0, y1⟩ := CC.out w1 hb1; have y3 := PV2.out w1 (btr B0.out hb1))
        go_quiet (fail)
        go_wp2
        go_ret
        exact ⟨rfl, bel_drewN (btr B0.out hb1) _⟩
  · have t3 : decide (0 < (k : Int)) = false := by simp; omega
    have e : R = 0 := by rw [W4.out, if_neg (fun g => h0 g.1)]
    subst e
    clear W4 PV
    rcases hs2 with rfl | rfl
    · go_enter Tryz.func71, Tryz.ntmps71
      go_wp2_with (go_at_call 98; with_reducible refine (EN2.out).mono ?_; rintro e w1 ⟨rfl, hb1⟩; obtain ⟨y0, y1⟩ := CC.out w1 hb1)
      go_quiet (fail)
      go_wp2
      go_ret
      exact ⟨rfl, bel_drewN (btr B0.out hb1) _⟩
    · go_enter Tryz.func71, Tryz.ntmps71
      go_wp2_with (go_at_call 98; with_reducible refine (EN2.out).mono ?_; rintro e w1 ⟨rfl, hb1⟩; obtain ⟨y0, y1⟩ := CC.out w1 hb1)
      go_quiet (fail)
      go_wp2
      go_ret
      exact ⟨rfl, bel_drewN (btr B0.out hb1) _⟩
end Go.Proofs.YtldieebiicblbaaGreatDoor.leap

/-
  What leap's checkExpiry, Check and Right answer, for tables whose leaps read as a row. Conditions: the tables of package day hold what their initialisers lay; the slice reads as the row.
-/
namespace Go.Proofs.YtldieebiicblbaaGreatDoor.leap
open Go.ChangeShapes Go.WideShapes Go.ChangeAt Go.RowKit
open lm mem
set_option linter.unusedVariables false
set_option maxRecDepth 100000

/-- the cells of a variable that holds a table. -/
def tcs (A : Option Addr) (n c : Nat) (has : Bool) (x : Int) : Array Value := #[.slice A n c, .bool has, .int .i64 x]
theorem xp_cases (l : List Lp) (has : Bool) (x : Int) (L : Int) (hL : L = lm.lst l) : xp l has x = if has then (if x < L ∨ 253402300799 < x then 9 else 0) else if x = 0 then 0 else 9 := by
  subst hL; rfl
set_option maxHeartbeats 2000000 in
set_option maxRecDepth 100000 in
theorem check_expiry (l : List Lp) (A : Option Addr) (c : Nat) (has : Bool) (x : Int) (w : World) (h : Lps w A l) (hg : lm.Good l) :
    Calls Tryz.prog 72 #[.agg #[.slice A l.length c, .bool has, .int .i64 x]] w fun e w' => e = .returned (.int .i64 (xp l has x)) ∧ Below w.heap.size w w' := by
  have hb0 := Lib.hid (fun n (A : Option Addr) has => bal (Below.refl w.heap.size w) (.cells #[.slice A n c, .bool has, .int .i64 x] 24))
  cases has
  · by_cases hx : x = 0
    · subst hx
      clear h hg
      show Calls _ _ _ _ fun e w' => e = .returned (.int .i64 0) ∧ _
      go_enter Tryz.func72, Tryz.ntmps72
      go_wp2
      go_ret
      exact ⟨rfl, hb0.out _ _ _⟩
    · have e : xp l false x = 9 := by unfold xp; rw [if_neg (by simp), if_neg hx]
      rw [e]
      clear h hg e
      by_cases h1 : x < 0
      · have t : decide (x < 0) = true := by simpa using h1
        go_enter Tryz.func72, Tryz.ntmps72
        go_wp2
        go_ret
        exact ⟨rfl, hb0.out _ _ _⟩
      · have t : decide (x < 0) = false := by simp; omega
        have t2 : decide (0 < x) = true := by simp; omega
        go_enter Tryz.func72, Tryz.ntmps72
        go_wp2
        go_ret
        exact ⟨rfl, hb0.out _ _ _⟩
  · have B1 := Lib.hid (fun W => behind 2932896 W (by decide) (by decide))
    have XP : Hid (∀ L, L = lm.lst l → xp l true x = if x < L ∨ 253402300799 < x then 9 else 0) := fun L hL => xp_cases l true x L hL
    by_cases h0 : l.length = 0
    · have e := XP.out 63072000 (by unfold lm.lst; rw [if_pos h0])
      rw [e]
      clear XP e h hg
      rw [h0] at *
      by_cases h1 : x < 63072000
      · rw [if_pos (Or.inl h1)]
        go_enter Tryz.func72, Tryz.ntmps72
        go_wp2_with (go_at_call 99; with_reducible refine (B1.out _).mono ?_; rintro e w' ⟨rfl, rfl⟩)
        go_ret
        exact ⟨rfl, hb0.out _ _ _⟩
      · by_cases h2 : 253402300799 < x
        · rw [if_pos (Or.inr h2)]
          go_enter Tryz.func72, Tryz.ntmps72
          go_wp2_with (go_at_call 99; with_reducible refine (B1.out _).mono ?_; rintro e w' ⟨rfl, rfl⟩)
          go_ret
          exact ⟨rfl, hb0.out _ _ _⟩
        · rw [if_neg (by omega)]
          go_enter Tryz.func72, Tryz.ntmps72
          go_wp2_with (go_at_call 99; with_reducible refine (B1.out _).mono ?_; rintro e w' ⟨rfl, rfl⟩)
          go_ret
          exact ⟨rfl, hb0.out _ _ _⟩
    · have hd := hg.day (i := l.length - 1) (by omega)
      have hlen := hg.len
      have e := XP.out ((dy l (l.length - 1) + 1) * 86400) (by unfold lm.lst; rw [if_neg h0])
      obtain ⟨b, o, rfl, hb1, hc⟩ := h h0
      have y := fun ob => (bal (Below.refl w.heap.size w) ob).cell (p := ⟨b, o + (l.length - 1) * 3, none⟩) hb1 |>.trans (hc (l.length - 1) (by omega)).1
      rw [e]
      clear XP e hc hg
      generalize dy l (l.length - 1) = D at *
      generalize l.length = n at *
      have B2 := Lib.hid (fun W => behind D W (by omega) (by omega))
      have hn : (n : Int) - 1 = ((n - 1 : Nat) : Int) := by omega
      generalize hE : (D + 1) * 86400 = E at *
      by_cases h1 : x < E
      · rw [if_pos (Or.inl h1)]
        go_enter Tryz.func72, Tryz.ntmps72
        go_wp2_with (go_at_call 99; (first | with_reducible refine (B1.out _).mono ?_ | with_reducible refine (B2.out _).mono ?_); rintro e w' ⟨rfl, rfl⟩)
        go_ret
        exact ⟨rfl, hb0.out _ _ _⟩
      · by_cases h2 : 253402300799 < x
        · rw [if_pos (Or.inr h2)]
          go_enter Tryz.func72, Tryz.ntmps72
          go_wp2_with (go_at_call 99; (first | with_reducible refine (B1.out _).mono ?_ | with_reducible refine (B2.out _).mono ?_); rintro e w' ⟨rfl, rfl⟩)
          go_ret
          exact ⟨rfl, hb0.out _ _ _⟩
        · rw [if_neg (by omega)]
          go_enter Tryz.func72, Tryz.ntmps72
          go_wp2_with (go_at_call 99; (first | with_reducible refine (B1.out _).mono ?_ | with_reducible refine (B2.out _).mono ?_); rintro e w' ⟨rfl, rfl⟩)
          go_ret
          exact ⟨rfl, hb0.out _ _ _⟩

/-- at the head of a round of Check. -/
def CHead (l : List Lp) (A : Option Addr) (c : Nat) (has : Bool) (x : Int) (w : World) (i : Value) (W : World) : Prop :=
  ∃ k : Nat, k ≤ l.length ∧ i = .int .i64 (k : Nat) ∧ Below w.heap.size w W ∧ W.heap[w.heap.size]? = some (.cells (tcs A l.length c has x) 24) ∧ ∀ j, j < k → wr l j = 0
def Checked (l : List Lp) (has : Bool) (x : Int) (w : World) (e : Ending) (w' : World) : Prop := e = .returned (.tuple #[.int .i64 (cp l : Nat), .int .i64 (ce l has x)]) ∧ Below w.heap.size w w'
set_option maxHeartbeats 2000000 in
set_option maxRecDepth 100000 in
theorem check_at (l : List Lp) (A : Option Addr) (c : Nat) (has : Bool) (x : Int) (w : World) (T : day.Tabs w) (h : Lps w A l) (hn : l.length ≤ 9223372036854775807) :
    Calls Tryz.prog 43 #[.agg #[.slice A l.length c, .bool has, .int .i64 x]] w (Checked l has x w) := by
  go_enter Tryz.func43, Tryz.ntmps43
  go_wp2
  go_loopw [9] (fun i W => CHead l A c has x w i W) (fun i _ => l.length - (intOf i).toNat)
  case atStart => exact ⟨0, Nat.zero_le _, rfl, bal (Below.refl _ _) _, hp_new _ _, fun j hj => by omega⟩
  case round =>
    obtain ⟨k, hk, rfl, hb, H0, hok⟩ := hrel
    have x0 : wr.cell? ⟨w.heap.size, 0, none⟩ = some (.slice A l.length c) := row_cell H0 0
    have x1 : wr.cell? ⟨w.heap.size, 1, none⟩ = some (.bool has) := row_cell H0 1
    have x2 : wr.cell? ⟨w.heap.size, 2, none⟩ = some (.int .i64 x) := row_cell H0 2
    by_cases hlt : k < l.length
    · have L := Lib.hid (check_leap l A c k wr (T.below hb) (h.below hb) hlt hn)
      by_cases hw : lm.wr l k = 0
      · rw [hw] at L
        have R : Hid (∀ W', Below wr.heap.size wr W' → CHead l A c has x w (.int .i64 ((k : Int) + 1)) W') := fun W' hb' => ⟨k + 1, by omega, rfl, btr hb hb', kept H0 hb', fun j hj => by
          rcases Nat.eq_or_lt_of_le (Nat.le_of_lt_succ hj) with rfl | g
          · exact hw
          · exact hok j g⟩
        clear hok h T H0 hw
        generalize l.length = n at *
        go_wp2_with (go_at_call 71; with_reducible refine (L.out).mono ?_; rintro e w1 ⟨rfl, hb1⟩; have R1 := R.out _ hb1)
        go_roundw
        case rel => exact R1
        case measure => simp [intOf]; omega
      · obtain ⟨e1, e2⟩ := ce_at (has := has) (x := x) hok hlt hw
        have R : Hid (∀ W', Below wr.heap.size wr W' → Checked l has x w (.returned (.tuple #[.int .i64 (k : Nat), .int .i64 (lm.wr l k)])) W') := fun W' hb' => ⟨by rw [e1, e2], btr hb hb'⟩
        clear hok h T H0 e1 e2
        have t : (lm.wr l k == 0) = false := by simpa using hw
        clear hw
        generalize lm.wr l k = z at *
        generalize l.length = n at *
        go_wp2_with (go_at_call 71; with_reducible refine (L.out).mono ?_; rintro e w1 ⟨rfl, hb1⟩; have R1 := R.out _ hb1)
        (try simp only [Exit.inBlock, Exit.then])
        exact bodyPost_ret (v := .tuple #[.int .i64 (k : Nat), .int .i64 z]) (by simp [results, Tryz.results43, go_sem]) rfl R1
    · obtain rfl : k = l.length := by omega
      obtain ⟨e1, e2⟩ := ce_end (has := has) (x := x) hok
      have X := Lib.hid (fun W (hb : Below w.heap.size w W) => check_expiry l A c has x W (h.below hb) hok)
      have R : Hid (∀ W', Below w.heap.size w W' → Checked l has x w (.returned (.tuple #[.int .i64 (l.length : Nat), .int .i64 (xp l has x)])) W') := fun W' hb' => ⟨by rw [e1, e2], hb'⟩
      clear hok h T hlt hk e1 e2
      generalize xp l has x = z at *
      generalize l.length = n at *
      have c0 : ∀ d' os, (Sort.grow (redrawn wr d') os).cell? ⟨w.heap.size, 0, none⟩ = some (.slice A n c) := fun d' os => cell_regrown x0 d' os
      have c1 : ∀ d' os, (Sort.grow (redrawn wr d') os).cell? ⟨w.heap.size, 1, none⟩ = some (.bool has) := fun d' os => cell_regrown x1 d' os
      have c2 : ∀ d' os, (Sort.grow (redrawn wr d') os).cell? ⟨w.heap.size, 2, none⟩ = some (.int .i64 x) := fun d' os => cell_regrown x2 d' os
      have F := Lib.hid (fun d' os => below_at (T := fun W => Below w.heap.size w W) X.out (fun W hb2 => btr hb hb2) d' os)
      clear H0
      go_wp2_with fail
      refine wp_region_quiet_below (by kernel_rfl) (by kernel_rfl) ?_
      repeat (quiet_step ((go_at_call 72; with_reducible exact F.out _ _)))
      refine wpQuiet_nil ?_
      intro _ hw'
      obtain ⟨⟨dq, osq⟩, hw''⟩ := hw'
      subst hw''
      have hbz := btr hb (below_regrown _ dq osq)
      generalize Sort.grow (redrawn wr dq) osq = W7 at *
      go_wp2
      exact bodyPost_ret (v := .tuple #[.int .i64 (n : Nat), .int .i64 z]) (by simp [results, Tryz.results43, go_sem]) rfl (R.out _ hbz)
def Righted (l : List Lp) (has : Bool) (x : Int) (w : World) (e : Ending) (w' : World) : Prop := e = .returned (.bool (ce l has x == 0)) ∧ Below w.heap.size w w'
theorem right_at (l : List Lp) (A : Option Addr) (c : Nat) (has : Bool) (x : Int) (w : World) (T : day.Tabs w) (h : Lps w A l) (hn : l.length ≤ 9223372036854775807) :
    Calls Tryz.prog 16 #[.agg #[.slice A l.length c, .bool has, .int .i64 x]] w fun e w' => e = .returned (.bool (ce l has x == 0)) ∧ Below w.heap.size w w' := by
  have hb0 := bal (Below.refl w.heap.size w) (.cells #[.slice A l.length c, .bool has, .int .i64 x] 24)
  have C := Lib.hid (check_at l A c has x _ (T.below hb0) (h.below hb0) hn)
  unfold Checked at C
  have HB := Lib.hid hb0
  clear T h hb0
  generalize ce l has x = z at *
  generalize cp l = p at *
  generalize l.length = n at *
  go_enter Tryz.func16, Tryz.ntmps16
  go_wp2_with (go_at_call 43; with_reducible refine (C.out).mono ?_; rintro e w1 ⟨rfl, hb1⟩)
  go_ret
  exact ⟨rfl, btr HB.out hb1⟩
end Go.Proofs.YtldieebiicblbaaGreatDoor.leap

/-
  What leap's Find, Total, Step and Length answer, and the library's binary search with Find's closure. Conditions: the slice reads as the row; its leaps are right.
-/
namespace Go.Proofs.YtldieebiicblbaaGreatDoor.leap
open Go.ChangeShapes Go.WideShapes Go.ChangeAt Go.RowKit
open lm mem
set_option linter.unusedVariables false
set_option maxRecDepth 100000
end Go.Proofs.YtldieebiicblbaaGreatDoor.leap

/-
  What leap's Find, Total, Step, Length and Same answer. Conditions: the slices read as the rows, and have room for them; but for Same the leaps are right.
-/
namespace Go.Proofs.YtldieebiicblbaaGreatDoor.leap
open Go.ChangeShapes Go.WideShapes Go.ChangeAt Go.RowKit
open lm mem
set_option linter.unusedVariables false
set_option maxRecDepth 100000

/-- a table's box, behind calls. -/
theorem box_tab (w : World) (A : Option Addr) (n c : Nat) (has : Bool) (x : Int) {w1 : World} (hb : Below (w.alloc (.cells #[.slice A n c, .bool has, .int .i64 x] 24)).heap.size (w.alloc (.cells #[.slice A n c, .bool has, .int .i64 x] 24)) w1) :
    w1.cell? ⟨w.heap.size, 0, none⟩ = some (.slice A n c) ∧ w1.cell? ⟨w.heap.size, 1, none⟩ = some (.bool has) ∧ w1.cell? ⟨w.heap.size, 2, none⟩ = some (.int .i64 x) :=
  have h := row_cell (kept (hp_new w (.cells #[.slice A n c, .bool has, .int .i64 x] 24)) hb)
  ⟨h 0, h 1, h 2⟩
set_option maxRecDepth 100000 in
theorem cutL (A : Option Addr) (n c f : Nat) (h : f ≤ c) (W : World) : (Instr.slice 22 (.slice A n c) none (some (.int .i64 (f : Nat))) none).run Tryz.prog W = .ok (.slice A f c) W := by
  rw [run_slice_h (P := Tryz.prog) W 22 A n c Tryz.underlying22 .i64 f (by omega) (by omega)]
  rw [show (Go.sizeOf (Tryz.prog.elem 22)).run Tryz.prog W = .ok 3 W by kernel_rfl]
  simp only [Result.andThen, sliced, Int.toNat_natCast, Nat.sub_zero, Nat.zero_mul]
  cases A with
  | none => simp
  | some a => simp [Addr.add]
end Go.Proofs.YtldieebiicblbaaGreatDoor.leap

/-
  What leap's Same answers, and the library's Equal of rows of leaps. Condition: the slices read as the rows.
-/
namespace Go.Proofs.YtldieebiicblbaaGreatDoor.leap
open Go.ChangeShapes Go.WideShapes Go.ChangeAt Go.RowKit
open lm mem
set_option linter.unusedVariables false
set_option maxRecDepth 100000

set_option maxRecDepth 100000 in
theorem eqL (a b c d : Int) (r s : Bool) (W : World) : (Op.equalIn 10000 40 (.agg #[.int .i64 a, .int .i64 b, .bool r]) (.agg #[.int .i64 c, .int .i64 d, .bool s])).run Tryz.prog W = .ok (decide ((a, b, r) = (c, d, s))) W := by
  rw [run_equalIn_struct W 9999 40 _ _ (by kernel_rfl) (by kernel_rfl)]
  have hf : Tryz.prog.fieldsOf 40 = (match Tryz.prog.underlying 40 with | some (.struct fs) => fs | _ => #[]) := by kernel_rfl
  rw [Tryz.underlying40] at hf
  simp only at hf
  rw [hf]
  have p0 : ∀ x y : Int, ∀ t, (part 3 #[.int .i64 x, .int .i64 y, .bool t] 0).run Tryz.prog W = .ok (.int .i64 x) W := fun x y t => by simp [part, isAgg, run_underlying Tryz.underlying3]
  have p1 : ∀ x y : Int, ∀ t, (part 3 #[.int .i64 x, .int .i64 y, .bool t] 1).run Tryz.prog W = .ok (.int .i64 y) W := fun x y t => by simp [part, isAgg, run_underlying Tryz.underlying3]
  have p2 : ∀ x y : Int, ∀ t, (part 4 #[.int .i64 x, .int .i64 y, .bool t] 2).run Tryz.prog W = .ok (.bool t) W := fun x y t => by simp [part, isAgg, run_underlying Tryz.underlying4]
  have e3 : ∀ x y : Int, (Op.equalIn 9999 3 (.int .i64 x) (.int .i64 y)).run Tryz.prog W = .ok (x == y) W := fun x y => run_equalIn_int W 9998 3 .i64 .i64 x y Tryz.underlying3
  have e4 : ∀ x y : Bool, (Op.equalIn 9999 4 (.bool x) (.bool y)).run Tryz.prog W = .ok (x == y) W := fun x y => run_equalIn_bool W 9998 4 x y Tryz.underlying4
  by_cases h : a = c <;> by_cases h2 : b = d <;> by_cases h3 : r = s <;> simp [Op.eqFields, Sem.run_bind, p0, p1, p2, e3, e4, h, h2, h3]
theorem ext3 {l m : List Lp} (h : l.length = m.length) (hk : ∀ k, k < l.length → (dy l k, lm.st l k, rl l k) = (dy m k, lm.st m k, rl m k)) : l = m := by
  refine List.ext_getElem h fun k h1 h2 => ?_
  have := hk k h1
  unfold dy lm.st rl at this
  rw [List.getD_eq_getElem?_getD, List.getElem?_eq_getElem h1, List.getD_eq_getElem?_getD, List.getElem?_eq_getElem h2] at this
  simp at this
  exact Prod.ext this.1 (Prod.ext this.2.1 this.2.2)
/-- at the head of a round. -/
def EHead (l m : List Lp) (w : World) (i : Value) (W : World) : Prop :=
  ∃ k : Nat, k ≤ l.length ∧ i = .int .i64 (k : Nat) ∧ Below w.heap.size w W ∧ ∀ j, j < k → (dy l j, lm.st l j, rl l j) = (dy m j, lm.st m j, rl m j)
/-- do two tables say the same? -/
def sm (l m : List Lp) (h1 h2 : Bool) (x y : Int) : Bool := h1 == h2 && x == y && decide (l = m)
theorem sm_iff {l m : List Lp} {h1 h2 : Bool} {x y : Int} : sm l m h1 h2 x y = true ↔ l = m ∧ h1 = h2 ∧ x = y := by
  unfold sm
  simp only [Bool.and_eq_true, beq_iff_eq, decide_eq_true_eq]
  constructor
  · rintro ⟨⟨a, b⟩, c⟩; exact ⟨c, a, b⟩
  · rintro ⟨a, b, c⟩; exact ⟨⟨b, c⟩, a⟩
end Go.Proofs.YtldieebiicblbaaGreatDoor.leap

/-
  Rows of leaps of a call's own: what they hold, and what 'append' makes of a row without spare room. Conditions: as said.
-/
namespace Go.Proofs.YtldieebiicblbaaGreatDoor.leap
open Go.ChangeShapes Go.WideShapes Go.ChangeAt Go.RowKit
open lm mem
set_option linter.unusedVariables false
set_option maxRecDepth 100000

/-- the cells of a row of leaps. -/
def pcs : List Lp → List Value
  | [] => []
  | f :: l => .int .i64 f.1 :: .int .i64 f.2.1 :: .bool f.2.2 :: pcs l
theorem pcs_len : ∀ l : List Lp, (pcs l).length = l.length * 3
  | [] => rfl
  | f :: l => by rw [pcs, List.length_cons, List.length_cons, List.length_cons, pcs_len l, List.length_cons]; omega
theorem pcs_app : ∀ l m : List Lp, pcs (l ++ m) = pcs l ++ pcs m
  | [], m => rfl
  | f :: l, m => by rw [List.cons_append, pcs, pcs, pcs_app l m]; rfl
theorem pcs_one : ∀ (l : List Lp), ∀ u ∈ pcs l, u.oneCell' = true
  | [], u, h => by cases h
  | f :: l, u, h => by
    rw [pcs] at h
    rcases List.mem_cons.1 h with rfl | h
    · rfl
    rcases List.mem_cons.1 h with rfl | h
    · rfl
    rcases List.mem_cons.1 h with rfl | h
    · rfl
    · exact pcs_one l u h
theorem dy_cons' (f : Lp) (l : List Lp) (k : Nat) : dy (f :: l) (k + 1) = dy l k ∧ lm.st (f :: l) (k + 1) = lm.st l k ∧ rl (f :: l) (k + 1) = rl l k := by
  unfold dy lm.st rl; simp
theorem pcs_at : ∀ (l : List Lp) (k : Nat) (h : k < l.length), (pcs l)[k * 3]? = some (.int .i64 (dy l k)) ∧ (pcs l)[k * 3 + 1]? = some (.int .i64 (lm.st l k)) ∧ (pcs l)[k * 3 + 2]? = some (.bool (rl l k))
  | f :: l, 0, _ => ⟨rfl, rfl, rfl⟩
  | f :: l, k + 1, h => by
    have h' : k < l.length := by simpa using h
    have := pcs_at l k h'
    obtain ⟨e0, e1, e2⟩ := dy_cons' f l k
    rw [pcs, show (k + 1) * 3 = k * 3 + 1 + 1 + 1 by omega, e0, e1, e2]
    exact this
theorem pcs_get (l : List Lp) (j : Nat) (u : Value) (h : (pcs l)[j]? = some u) : ∃ k, k < l.length ∧ ((j = k * 3 ∧ u = .int .i64 (dy l k)) ∨ (j = k * 3 + 1 ∧ u = .int .i64 (lm.st l k)) ∨ (j = k * 3 + 2 ∧ u = .bool (rl l k))) := by
  have hj : j < l.length * 3 := by
    rw [← pcs_len l]
    rcases Nat.lt_or_ge j (pcs l).length with g | g
    · exact g
    · rw [List.getElem?_eq_none g] at h; cases h
  have hk : j / 3 < l.length := by omega
  obtain ⟨a, b, c⟩ := pcs_at l (j / 3) hk
  refine ⟨j / 3, hk, ?_⟩
  have h3 : j = j / 3 * 3 ∨ j = j / 3 * 3 + 1 ∨ j = j / 3 * 3 + 2 := by omega
  rcases h3 with e | e | e
  · left; refine ⟨e, ?_⟩; rw [e] at h; exact Option.some.inj (h.symm.trans a)
  · right; left; refine ⟨e, ?_⟩; rw [e] at h; exact Option.some.inj (h.symm.trans b)
  · right; right; refine ⟨e, ?_⟩; rw [e] at h; exact Option.some.inj (h.symm.trans c)
theorem Lps.src {w : World} {A : Option Addr} {l : List Lp} (h : Lps w A l) (h0 : l.length ≠ 0) : ∃ b o, A = some ⟨b, o, none⟩ ∧ b < w.heap.size ∧ ∀ j u, (pcs l)[j]? = some u → w.cell? ((⟨b, o, none⟩ : Addr).add j) = some u := by
  obtain ⟨b, o, e, hb, hc⟩ := h h0
  refine ⟨b, o, e, hb, fun j u hj => ?_⟩
  obtain ⟨k, hk, h3⟩ := pcs_get l j u hj
  rw [Addr.add_mid]
  rcases h3 with ⟨rfl, rfl⟩ | ⟨rfl, rfl⟩ | ⟨rfl, rfl⟩
  · exact (hc k hk).1
  · exact (hc k hk).2.1
  · exact (hc k hk).2.2
/-- the block N holds a row of leaps ahead of its spare room. -/
def Own (w : World) (N : Nat) (l : List Lp) : Prop := ∃ cs : Array Value, w.heap[N]? = some (.cells cs 40 (0, 0)) ∧ cs.toList.take (l.length * 3) = pcs l
theorem Own.lt {w : World} {N : Nat} {l : List Lp} (h : Own w N l) : N < w.heap.size := by obtain ⟨cs, h, _⟩ := h; exact hp_lt h
theorem Own.kept {w W : World} {N : Nat} {l : List Lp} (h : Own w N l) (hb : Below w.heap.size w W) : Own W N l := by obtain ⟨cs, h, g⟩ := h; exact ⟨cs, mem.kept h hb, g⟩
theorem Own.cut {w : World} {N : Nat} {l m : List Lp} (h : Own w N (l ++ m)) : Own w N l := by
  obtain ⟨cs, h, g⟩ := h
  refine ⟨cs, h, ?_⟩
  have := congrArg (List.take (l.length * 3)) g
  rw [List.take_take, pcs_app, List.take_left' (pcs_len l), List.length_append, Nat.min_eq_left (Nat.mul_le_mul_right 3 (Nat.le_add_right _ _))] at this
  exact this
theorem Own.lps {w : World} {N : Nat} {l : List Lp} (h : Own w N l) : Lps w (some ⟨N, 0, none⟩) l := by
  obtain ⟨cs, h, g⟩ := h
  intro h0
  refine ⟨N, 0, rfl, hp_lt h, fun k hk => ?_⟩
  have at' : ∀ j, j < l.length * 3 → w.cell? ⟨N, j, none⟩ = (pcs l)[j]? := fun j hj => by
    rw [row_cell h j, ← g, List.getElem?_take_of_lt hj, Array.getElem?_toList]
  obtain ⟨a, b, c⟩ := pcs_at l k hk
  rw [Nat.zero_add]
  exact ⟨(at' _ (by omega)).trans a, (at' _ (by omega)).trans b, (at' _ (by omega)).trans c⟩
theorem infoL : (Tryz.prog.info? 40).map (fun i => (i.zero, i.size, i.bytes)) = some (some (.agg #[.int .i64 0, .int .i64 0, .bool false]), 3, 24) := by kernel_rfl
/-- 'append(A[:n:n], y)': a new row. -/
theorem app_run (W : World) (A : Option Addr) (l : List Lp) (h : Lps W A l) (hn : l.length ≤ 1000000) (g : Nat) (z : Lp) (hz : W.heap[g]? = some (.cells #[.int .i64 z.1, .int .i64 z.2.1, .bool z.2.2] 40)) (ty : TypeId) :
    ∃ cap cs, (Builtin.append_ #[22, 22] ty #[.slice A l.length l.length, .slice (some ⟨g, 0, none⟩) 1 1]).run Tryz.prog W = .ok (.slice (some ⟨W.heap.size, 0, none⟩) (l.length + 1) cap) (W.drew.alloc (.cells cs 40)) ∧ l.length + 1 ≤ cap ∧ cap ≤ maxLen ∧ cs.toList.take ((l ++ [z]).length * 3) = pcs (l ++ [z]) := by
  obtain ⟨i0, hi, hz0, hz1, hz2⟩ := info_parts infoL
  have src : Src Tryz.prog i0.size 22 (.slice (some ⟨g, 0, none⟩) 1 1) 1 (pcs [z]) W := by
    rw [hz1]
    refine Src.ofSlice W (e' := 40) Tryz.underlying22 ⟨g, 0, none⟩ 1 1 (pcs [z]) (pcs_len [z]) (fun j u hj => ?_) (pcs_one [z])
    rw [Addr.add_mid, Nat.zero_add, row_cell hz j]
    simpa [pcs] using hj
  have hold : (Builtin.firstCells i0.size l.length (.slice A l.length l.length)).run Tryz.prog W.drew = .ok (pcs l).toArray W.drew := by
    rw [hz1]
    by_cases h0 : l.length = 0
    · have : l = [] := List.eq_nil_of_length_eq_zero h0
      subst this
      cases A with
      | none => exact run_firstCells_none W.drew 3 0 0 0
      | some a => exact run_firstCells_some W.drew 3 0 a 0 0 [] rfl (fun j u hj => by simp at hj)
    · obtain ⟨b, o, rfl, _, hc⟩ := h.src h0
      exact run_firstCells_some W.drew 3 l.length ⟨b, o, none⟩ l.length l.length (pcs l) (pcs_len l) (fun j u hj => by simpa using hc j u hj)
  have hm : l.length + 1 ≤ maxLen := by unfold maxLen; omega
  have := run_append_grow_src (P := Tryz.prog) W 22 22 ty 40 i0 _ Tryz.underlying22 hi hz0 A l.length l.length (pcs l) hold (.slice (some ⟨g, 0, none⟩) 1 1) 1 (pcs [z]) src (by omega) (by omega) (by rw [hz2]; exact growslice_fits (by omega) (by omega))
  refine ⟨_, _, this, grownCap_ge _ _ _ _, grownCap_le_maxLen _ _ _ _ hm, ?_⟩
  rw [pcs_app, Array.toList_append, List.take_left']
  simp [pcs_len]
  omega
end Go.Proofs.YtldieebiicblbaaGreatDoor.leap
