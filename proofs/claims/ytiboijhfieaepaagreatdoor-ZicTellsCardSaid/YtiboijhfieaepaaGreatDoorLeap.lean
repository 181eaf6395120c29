/-
  What leap's checkLeap, checkExpiry, Check and Right answer. Conditions: the tables of package day hold what their initialisers lay; the slice reads as the row of leaps.
-/
import Derived.Test.YtiboijhfieaepaaGreatDoorLeapMath
import Derived.Test.YtiboijhfieaepaaGreatDoorDayEnd
import Derived.Test.YtiboijhfieaepaaGreatDoorMem
import Derived.WalkSmall
namespace Go.Proofs.YtiboijhfieaepaaGreatDoor.leap
open Go.ChangeShapes Go.WideShapes Go.ChangeAt Go.RowKit
open lm mem
set_option linter.unusedVariables false
set_option maxRecDepth 100000

def rl (l : List Lp) (k : Nat) : Bool := (l.getD k z3).2.2
/-- a slice that reads as a row of leaps. -/
def Lps (w : World) (A : Option Addr) (l : List Lp) : Prop :=
  l.length ≠ 0 → ∃ b o, A = some ⟨b, o, none⟩ ∧ b < w.heap.size ∧ ∀ k, k < l.length → w.cell? ⟨b, o + k * 3, none⟩ = some (.int .i64 (dy l k)) ∧ w.cell? ⟨b, o + k * 3 + 1, none⟩ = some (.int .i64 (st l k)) ∧ w.cell? ⟨b, o + k * 3 + 2, none⟩ = some (.bool (rl l k))
theorem Lps.below {w W : World} {A : Option Addr} {l : List Lp} (h : Lps w A l) (hb : Below w.heap.size w W) : Lps W A l := by
  intro hl
  obtain ⟨b, o, e, hlt, hc⟩ := h hl
  exact ⟨b, o, e, Nat.lt_of_lt_of_le hlt hb.size, fun k hk => ⟨(hb.cell (p := ⟨b, o + k * 3, none⟩) hlt).trans (hc k hk).1, (hb.cell (p := ⟨b, o + k * 3 + 1, none⟩) hlt).trans (hc k hk).2.1, (hb.cell (p := ⟨b, o + k * 3 + 2, none⟩) hlt).trans (hc k hk).2.2⟩⟩

theorem end_at (n : Int) (w : World) (T : day.Tabs w) (h1 : 730 ≤ n) (h2 : n < 2932896) : Calls Tryz.prog 92 #[.int .i64 n] w fun e w' => e = .returned (.bool (endB n)) ∧ Below w.heap.size w w' := by
  obtain ⟨y, m, d, v, hn⟩ := day.exists_date n (by omega) (by omega)
  rw [← endB_of v hn]
  exact day.end_is y m d n w T v hn

theorem behind (d : Int) (w : World) (h1 : -1000000000000 ≤ d) (h2 : d ≤ 1000000000000) : Calls Tryz.prog 93 #[.int .i64 d] w fun e w' => e = .returned (.int .i64 ((d + 1) * 86400)) ∧ w = w' := by
  go_enter Tryz.func93, Tryz.ntmps93
  go_wp2
  go_ret
  exact ⟨rfl, rfl⟩

set_option maxHeartbeats 2000000 in
set_option maxRecDepth 100000 in
theorem check_leap (l : List Lp) (A : Option Addr) (c k : Nat) (w : World) (T : day.Tabs w) (h : Lps w A l) (hk : k < l.length) (hn : l.length ≤ 9223372036854775807) :
    Calls Tryz.prog 72 #[.slice A l.length c, .int .i64 k] w fun e w' => e = .returned (.int .i64 (wr l k)) ∧ Below w.heap.size w w' := by
  have hl0 : l.length ≠ 0 := by omega
  obtain ⟨b, o, rfl, hb0, hc⟩ := h hl0
  obtain ⟨x0, x1, x2⟩ := hc k hk
  have EN : Hid (730 ≤ dy l k → dy l k < 2932896 → ∀ W, Below w.heap.size w W → Calls Tryz.prog 92 #[.int .i64 (dy l k)] W fun e w' => e = .returned (.bool (endB (dy l k))) ∧ Below W.heap.size W w') := fun a b W hb => end_at _ W (T.below hb) a b
  have PV : Hid (0 < k → ∀ W, Below w.heap.size w W → W.cell? ⟨b, o + (k - 1) * 3, none⟩ = some (.int .i64 (dy l (k - 1)))) := fun h0 W hb => (hb.cell (p := ⟨b, o + (k - 1) * 3, none⟩) hb0).trans (hc (k - 1) (by omega)).1
  have WR : Hid (wr l k = if 200 ≤ k then 8 else if dy l k < 730 ∨ 2932896 ≤ dy l k then 9 else if endB (dy l k) = false then 5 else if st l k ≠ 1 ∧ st l k ≠ -1 then 6 else if 0 < k ∧ dy l k ≤ dy l (k - 1) then 4 else 0) := rfl
  clear hc h T
  generalize wr l k = R at *
  generalize dy l k = D at *
  generalize st l k = S at *
  generalize rl l k = O at *
  generalize dy l (k - 1) = P at *
  generalize endB D = E at *
  generalize l.length = n at *
  have B0 := Lib.hid (bal (Below.refl w.heap.size w) (.cells #[.int .i64 D, .int .i64 S, .bool O] 39))
  by_cases h200 : 200 ≤ k
  · have e : R = 8 := by rw [WR.out, if_pos h200]
    subst e
    clear WR EN PV
    go_enter Tryz.func72, Tryz.ntmps72
    go_wp2
    go_ret
    exact ⟨rfl, B0.out⟩
  by_cases hd : D < 730
  · have e : R = 9 := by rw [WR.out, if_neg h200, if_pos (Or.inl hd)]
    subst e
    clear WR EN PV
    go_enter Tryz.func72, Tryz.ntmps72
    go_wp2
    go_ret
    exact ⟨rfl, B0.out⟩
  by_cases hd2 : 2932896 ≤ D
  · have e : R = 9 := by rw [WR.out, if_neg h200, if_pos (Or.inr hd2)]
    subst e
    clear WR EN PV
    go_enter Tryz.func72, Tryz.ntmps72
    go_wp2
    go_ret
    exact ⟨rfl, B0.out⟩
  have W2 : Hid (R = if E = false then 5 else if S ≠ 1 ∧ S ≠ -1 then 6 else if 0 < k ∧ D ≤ P then 4 else 0) := by
    show R = _
    rw [WR.out, if_neg h200, if_neg (by omega)]
  have EN2 := Lib.hid (EN.out (by omega) (by omega) _ B0.out)
  clear WR EN
  cases E
  · have e : R = 5 := by rw [W2.out, if_pos rfl]
    subst e
    clear W2 PV
    go_enter Tryz.func72, Tryz.ntmps72
    go_wp2_with (go_at_call 92; with_reducible refine (EN2.out).mono ?_; rintro e w1 ⟨rfl, hb1⟩)
    go_ret
    exact ⟨rfl, btr B0.out hb1⟩
  have W3 : Hid (R = if S ≠ 1 ∧ S ≠ -1 then 6 else if 0 < k ∧ D ≤ P then 4 else 0) := by
    show R = _
    rw [W2.out, if_neg (by simp)]
  clear W2
  have CC : Hid (∀ w1, Below (w.alloc (.cells #[.int .i64 D, .int .i64 S, .bool O] 39)).heap.size (w.alloc (.cells #[.int .i64 D, .int .i64 S, .bool O] 39)) w1 → w1.cell? ⟨w.heap.size, 0, none⟩ = some (.int .i64 D) ∧ w1.cell? ⟨w.heap.size, 1, none⟩ = some (.int .i64 S)) := fun w1 hb1 => ⟨row_cell (kept (hp_new w _) hb1) 0, row_cell (kept (hp_new w _) hb1) 1⟩
  by_cases hs : S ≠ 1 ∧ S ≠ -1
  · have e : R = 6 := by rw [W3.out, if_pos hs]
    subst e
    have t1 : (S != 1) = true := by simpa using hs.1
    have t2 : (S != -1) = true := by simpa using hs.2
    clear W3 PV hs
    go_enter Tryz.func72, Tryz.ntmps72
    go_wp2_with (go_at_call 92; with_reducible refine (EN2.out).mono ?_; rintro e w1 ⟨rfl, hb1⟩; obtain ⟨y0, y1⟩ := CC.out w1 hb1)
    go_ret
    exact ⟨rfl, btr B0.out hb1⟩
  have W4 : Hid (R = if 0 < k ∧ D ≤ P then 4 else 0) := by
    show R = _
    rw [W3.out, if_neg hs]
  clear W3
  have hs2 : S = 1 ∨ S = -1 := by omega
  clear hs
  by_cases h0 : 0 < k
  · have t3 : decide (0 < (k : Int)) = true := by simp; omega
    have PV2 := Lib.hid (PV.out h0)
    clear PV
    rcases hs2 with rfl | rfl
    · by_cases hp : D ≤ P
      · have e : R = 4 := by rw [W4.out, if_pos ⟨h0, hp⟩]
        subst e
        have t4 : decide (D ≤ P) = true := by simpa using hp
        clear W4
        go_enter Tryz.func72, Tryz.ntmps72
        go_wp2_with (go_at_call 92; with_reducible refine (EN2.out).mono ?_; rintro e w1 ⟨rfl, hb1⟩; obtain ⟨y0, y1⟩ := CC.out w1 hb1; have y3 := PV2.out w1 (btr B0.out hb1))
        go_quiet (fail)
        go_wp2
        go_ret
        exact ⟨rfl, bel_drewN (btr B0.out hb1) _⟩
      · have e : R = 0 := by rw [W4.out, if_neg (fun g => hp g.2)]
        subst e
        have t4 : decide (D ≤ P) = false := by simpa using hp
        clear W4
        go_enter Tryz.func72, Tryz.ntmps72
        go_wp2_with (go_at_call 92; with_reducible refine (EN2.out).mono ?_; rintro e w1 ⟨rfl, hb1⟩; obtain ⟨y0, y1⟩ := CC.out w1 hb1; have y3 := PV2.out w1 (btr B0.out hb1))
        go_quiet (fail)
        go_wp2
        go_ret
        exact ⟨rfl, bel_drewN (btr B0.out hb1) _⟩
    · by_cases hp : D ≤ P
      · have e : R = 4 := by rw [W4.out, if_pos ⟨h0, hp⟩]
        subst e
        have t4 : decide (D ≤ P) = true := by simpa using hp
        clear W4
        go_enter Tryz.func72, Tryz.ntmps72
        go_wp2_with (go_at_call 92; with_reducible refine (EN2.out).mono ?_; rintro e w1 ⟨rfl, hb1⟩; obtain ⟨y0, y1⟩ := CC.out w1 hb1; have y3 := PV2.out w1 (btr B0.out hb1))
        go_quiet (fail)
        go_wp2
        go_ret
        exact ⟨rfl, bel_drewN (btr B0.out hb1) _⟩
      · have e : R = 0 := by rw [W4.out, if_neg (fun g => hp g.2)]
        subst e
        have t4 : decide (D ≤ P) = false := by simpa using hp
        clear W4
        go_enter Tryz.func72, Tryz.ntmps72
        go_wp2_with (go_at_call 92; with_reducible refine (EN2.out).mono ?_; rintro e w1 ⟨rfl, hb1⟩; obtain ⟨y0, y1⟩ := CC.out w1 hb1; have y3 := PV2.out w1 (btr B0.out hb1))
        go_quiet (fail)
        go_wp2
        go_ret
        exact ⟨rfl, bel_drewN (btr B0.out hb1) _⟩
  · have t3 : decide (0 < (k : Int)) = false := by simp; omega
    have e : R = 0 := by rw [W4.out, if_neg (fun g => h0 g.1)]
    subst e
    clear W4 PV
    rcases hs2 with rfl | rfl
    · go_enter Tryz.func72, Tryz.ntmps72
      go_wp2_with (go_at_call 92; with_reducible refine (EN2.out).mono ?_; rintro e w1 ⟨rfl, hb1⟩; obtain ⟨y0, y1⟩ := CC.out w1 hb1)
      go_quiet (fail)
      go_wp2
      go_ret
      exact ⟨rfl, bel_drewN (btr B0.out hb1) _⟩
    · go_enter Tryz.func72, Tryz.ntmps72
      go_wp2_with (go_at_call 92; with_reducible refine (EN2.out).mono ?_; rintro e w1 ⟨rfl, hb1⟩; obtain ⟨y0, y1⟩ := CC.out w1 hb1)
      go_quiet (fail)
      go_wp2
      go_ret
      exact ⟨rfl, bel_drewN (btr B0.out hb1) _⟩
end Go.Proofs.YtiboijhfieaepaaGreatDoor.leap
