/-
  The document's own answers of layer 9 but for Copy, Add and Same: what is wrong of a leap, Check, Right, Find, Total, Step, Length. Conditions: the slice reads as the row; for Step that its leaps are right.
-/
import Derived.Test.YtiboijhfieaepaaGreatDoorLeapAdd
import Derived.Test.YtiboijhfieaepaaGreatDoorRef03
namespace Go.Proofs.YtiboijhfieaepaaGreatDoor.ref09
open Go.ChangeShapes Go.WideShapes Go.ChangeAt Go.RowKit
open lm mem leap
set_option linter.unusedVariables false
set_option maxRecDepth 100000

theorem end_at (n : Int) (w : World) (h1 : 730 ≤ n) (h2 : n < 2932896) : Calls Tryz.prog 95 #[.int .i64 n] w fun e w' => e = .returned (.bool (endB n)) ∧ Below w.heap.size w w' := by
  obtain ⟨y, m, d, v, hn⟩ := day.exists_date n (by omega) (by omega)
  exact ref03.end_on w (Below.refl _ _) y m d n v hn (endB n) (endB_of v hn)
set_option maxHeartbeats 2000000 in
set_option maxRecDepth 100000 in
theorem wrong_at (l : List Lp) (A : Option Addr) (c : Nat) (has : Bool) (x : Int) (k : Nat) (w : World) (h : Lps w A l) (hk : k < l.length) (hn : l.length ≤ 9223372036854775807) :
    Calls Tryz.prog 77 #[.agg #[.slice A l.length c, .bool has, .int .i64 x], .int .i64 k] w fun e w' => e = .returned (.int .i64 (wr l k)) ∧ Below w.heap.size w w' := by
  have hl0 : l.length ≠ 0 := by omega
  obtain ⟨b, o, rfl, hb0, hc⟩ := h hl0
  obtain ⟨x0, x1, x2⟩ := hc k hk
  have EN : Hid (730 ≤ dy l k → dy l k < 2932896 → ∀ W, Below w.heap.size w W → Calls Tryz.prog 95 #[.int .i64 (dy l k)] W fun e w' => e = .returned (.bool (endB (dy l k))) ∧ Below W.heap.size W w') := fun a b W hb => end_at _ W a b
  have PV : Hid (0 < k → ∀ W, Below w.heap.size w W → W.cell? ⟨b, o + (k - 1) * 3, none⟩ = some (.int .i64 (dy l (k - 1)))) := fun h0 W hb => (hb.cell (p := ⟨b, o + (k - 1) * 3, none⟩) hb0).trans (hc (k - 1) (by omega)).1
  have WR : Hid (wr l k = if 200 ≤ k then 8 else if dy l k < 730 ∨ 2932896 ≤ dy l k then 9 else if endB (dy l k) = false then 5 else if st l k ≠ 1 ∧ st l k ≠ -1 then 6 else if 0 < k ∧ dy l k ≤ dy l (k - 1) then 4 else 0) := rfl
  clear hc h
  generalize wr l k = R at *
  generalize dy l k = D at *
  generalize st l k = S at *
  generalize rl l k = O at *
  generalize dy l (k - 1) = P at *
  generalize endB D = E at *
  generalize l.length = n at *
  have B0 := Lib.hid (bal (bal (Below.refl w.heap.size w) (.cells #[.slice (some ⟨b, o, none⟩) n c, .bool has, .int .i64 x] 24)) (.cells #[.int .i64 D, .int .i64 S, .bool O] 39))
  have y3 : ∀ ob, (w.alloc ob).cell? ⟨b, o + k * 3, none⟩ = some (.int .i64 D) := fun ob => ((bal (Below.refl w.heap.size w) ob).cell (p := ⟨b, o + k * 3, none⟩) hb0).trans x0
  have y4 : ∀ ob, (w.alloc ob).cell? ⟨b, o + k * 3 + 1, none⟩ = some (.int .i64 S) := fun ob => ((bal (Below.refl w.heap.size w) ob).cell (p := ⟨b, o + k * 3 + 1, none⟩) hb0).trans x1
  have y5 : ∀ ob, (w.alloc ob).cell? ⟨b, o + k * 3 + 2, none⟩ = some (.bool O) := fun ob => ((bal (Below.refl w.heap.size w) ob).cell (p := ⟨b, o + k * 3 + 2, none⟩) hb0).trans x2
  by_cases h200 : 200 ≤ k
  · have e : R = 8 := by rw [WR.out, if_pos h200]
    subst e
    clear WR EN PV
    go_enter Tryz.func77, Tryz.ntmps77
    go_wp2
    go_ret
    exact ⟨rfl, B0.out⟩
  by_cases hd : D < 730
  · have e : R = 9 := by rw [WR.out, if_neg h200, if_pos (Or.inl hd)]
    subst e
    clear WR EN PV
    go_enter Tryz.func77, Tryz.ntmps77
    go_wp2
    go_ret
    exact ⟨rfl, B0.out⟩
  by_cases hd2 : 2932896 ≤ D
  · have e : R = 9 := by rw [WR.out, if_neg h200, if_pos (Or.inr hd2)]
    subst e
    clear WR EN PV
    go_enter Tryz.func77, Tryz.ntmps77
    go_wp2
    go_ret
    exact ⟨rfl, B0.out⟩
  have W2 : Hid (R = if E = false then 5 else if S ≠ 1 ∧ S ≠ -1 then 6 else if 0 < k ∧ D ≤ P then 4 else 0) := by
    show R = _
    rw [WR.out, if_neg h200, if_neg (by omega)]
  have EN2 := Lib.hid (EN.out (by omega) (by omega) _ B0.out)
  clear WR EN
  cases E
  · have e : R = 5 := by rw [W2.out, if_pos rfl]
    subst e
    clear W2 PV
    go_enter Tryz.func77, Tryz.ntmps77
    go_wp2_with (go_at_call 95; with_reducible refine (EN2.out).mono ?_; rintro e w1 ⟨rfl, hb1⟩)
    go_ret
    exact ⟨rfl, btr B0.out hb1⟩
  have W3 : Hid (R = if S ≠ 1 ∧ S ≠ -1 then 6 else if 0 < k ∧ D ≤ P then 4 else 0) := by
    show R = _
    rw [W2.out, if_neg (by simp)]
  clear W2
  have CC : Hid (∀ w1, Below ((w.alloc (.cells #[.slice (some ⟨b, o, none⟩) n c, .bool has, .int .i64 x] 24)).alloc (.cells #[.int .i64 D, .int .i64 S, .bool O] 39)).heap.size ((w.alloc (.cells #[.slice (some ⟨b, o, none⟩) n c, .bool has, .int .i64 x] 24)).alloc (.cells #[.int .i64 D, .int .i64 S, .bool O] 39)) w1 → w1.cell? ⟨w.heap.size + 1, 0, none⟩ = some (.int .i64 D) ∧ w1.cell? ⟨w.heap.size + 1, 1, none⟩ = some (.int .i64 S) ∧ w1.cell? ⟨w.heap.size, 0, none⟩ = some (.slice (some ⟨b, o, none⟩) n c)) := fun w1 hb1 => ⟨row_cell (kept (hp_new1 w _ _) hb1) 0, row_cell (kept (hp_new1 w _ _) hb1) 1, row_cell (kept (hp_old (hp_new w _) _) hb1) 0⟩
  by_cases hs : S ≠ 1 ∧ S ≠ -1
  · have e : R = 6 := by rw [W3.out, if_pos hs]
    subst e
    have t1 : (S != 1) = true := by simpa using hs.1
    have t2 : (S != -1) = true := by simpa using hs.2
    clear W3 PV hs
    go_enter Tryz.func77, Tryz.ntmps77
    go_wp2_with (go_at_call 95; with_reducible refine (EN2.out).mono ?_; rintro e w1 ⟨rfl, hb1⟩; obtain ⟨y0, y1, y2⟩ := CC.out w1 hb1)
    go_ret
    exact ⟨rfl, btr B0.out hb1⟩
  have W4 : Hid (R = if 0 < k ∧ D ≤ P then 4 else 0) := by
    show R = _
    rw [W3.out, if_neg hs]
  clear W3
  have hs2 : S = 1 ∨ S = -1 := by omega
  clear hs
  by_cases h0 : 0 < k
  · have t3 : decide (0 < (k : Int)) = true := by simp; omega
    have PV2 := Lib.hid (PV.out h0)
    clear PV
    rcases hs2 with rfl | rfl
    · by_cases hp : D ≤ P
      · have e : R = 4 := by rw [W4.out, if_pos ⟨h0, hp⟩]
        subst e
        have t4 : decide (D ≤ P) = true := by simpa using hp
        clear W4
        go_enter Tryz.func77, Tryz.ntmps77
        go_wp2_with (go_at_call 95; with_reducible refine (EN2.out).mono ?_; rintro e w1 ⟨rfl, hb1⟩; obtain ⟨y0, y1, y2⟩ := CC.out w1 hb1; have y6 := PV2.out w1 (btr B0.out hb1))
        go_quiet (fail)
        go_wp2
        go_ret
        exact ⟨rfl, bel_drewN (btr B0.out hb1) _⟩
      · have e : R = 0 := by rw [W4.out, if_neg (fun g => hp g.2)]
        subst e
        have t4 : decide (D ≤ P) = false := by simpa using hp
        clear W4
        go_enter Tryz.func77, Tryz.ntmps77
        go_wp2_with (go_at_call 95; with_reducible refine (EN2.out).mono ?_; rintro e w1 ⟨rfl, hb1⟩; obtain ⟨y0, y1, y2⟩ := CC.out w1 hb1; have y6 := PV2.out w1 (btr B0.out hb1))
        go_quiet (fail)
        go_wp2
        go_ret
        exact ⟨rfl, bel_drewN (btr B0.out hb1) _⟩
    · by_cases hp : D ≤ P
      · have e : R = 4 := by rw [W4.out, if_pos ⟨h0, hp⟩]
        subst e
        have t4 : decide (D ≤ P) = true := by simpa using hp
        clear W4
        go_enter Tryz.func77, Tryz.ntmps77
        go_wp2_with (go_at_call 95; with_reducible refine (EN2.out).mono ?_; rintro e w1 ⟨rfl, hb1⟩; obtain ⟨y0, y1, y2⟩ := CC.out w1 hb1; have y6 := PV2.out w1 (btr B0.out hb1))
        go_quiet (fail)
        go_wp2
        go_ret
        exact ⟨rfl, bel_drewN (btr B0.out hb1) _⟩
      · have e : R = 0 := by rw [W4.out, if_neg (fun g => hp g.2)]
        subst e
        have t4 : decide (D ≤ P) = false := by simpa using hp
        clear W4
        go_enter Tryz.func77, Tryz.ntmps77
        go_wp2_with (go_at_call 95; with_reducible refine (EN2.out).mono ?_; rintro e w1 ⟨rfl, hb1⟩; obtain ⟨y0, y1, y2⟩ := CC.out w1 hb1; have y6 := PV2.out w1 (btr B0.out hb1))
        go_quiet (fail)
        go_wp2
        go_ret
        exact ⟨rfl, bel_drewN (btr B0.out hb1) _⟩
  · have t3 : decide (0 < (k : Int)) = false := by simp; omega
    have e : R = 0 := by rw [W4.out, if_neg (fun g => h0 g.1)]
    subst e
    clear W4 PV
    rcases hs2 with rfl | rfl
    · go_enter Tryz.func77, Tryz.ntmps77
      go_wp2_with (go_at_call 95; with_reducible refine (EN2.out).mono ?_; rintro e w1 ⟨rfl, hb1⟩; obtain ⟨y0, y1, y2⟩ := CC.out w1 hb1)
      go_quiet (fail)
      go_wp2
      go_ret
      exact ⟨rfl, bel_drewN (btr B0.out hb1) _⟩
    · go_enter Tryz.func77, Tryz.ntmps77
      go_wp2_with (go_at_call 95; with_reducible refine (EN2.out).mono ?_; rintro e w1 ⟨rfl, hb1⟩; obtain ⟨y0, y1, y2⟩ := CC.out w1 hb1)
      go_quiet (fail)
      go_wp2
      go_ret
      exact ⟨rfl, bel_drewN (btr B0.out hb1) _⟩

/-- the least second of an expiry behind the first k leaps. -/
def lk (l : List Lp) (k : Nat) : Int := if k = 0 then 63072000 else 86400 * (dy l (k - 1) + 1)
theorem lk_all (l : List Lp) : lk l l.length = lm.lst l := by unfold lk lm.lst; split <;> omega
/-- at the head of a round of Check. -/
def RHead (l : List Lp) (A : Option Addr) (c : Nat) (has : Bool) (x : Int) (w : World) (s i : Value) (W : World) : Prop :=
  ∃ k : Nat, k ≤ l.length ∧ i = .int .i64 (k : Nat) ∧ s = .int .i64 (lk l k) ∧ Below w.heap.size w W ∧ W.heap[w.heap.size]? = some (.cells (tcs A l.length c has x) 24) ∧ ∀ j, j < k → lm.wr l j = 0
set_option maxHeartbeats 2000000 in
set_option maxRecDepth 100000 in
theorem check_at (l : List Lp) (A : Option Addr) (c : Nat) (has : Bool) (x : Int) (w : World) (h : Lps w A l) (hn : l.length ≤ 9223372036854775807) :
    Calls Tryz.prog 54 #[.agg #[.slice A l.length c, .bool has, .int .i64 x]] w (leap.Checked l has x w) := by
  go_enter Tryz.func54, Tryz.ntmps54
  go_wp2
  go_loopw [4, 5] (fun s i W => RHead l A c has x w s i W) (fun _ i _ => l.length - (intOf i).toNat)
  case atStart => exact ⟨0, Nat.zero_le _, rfl, rfl, bal (Below.refl _ _) _, hp_new _ _, fun j hj => by omega⟩
  case round =>
    obtain ⟨k, hk, rfl, rfl, hb, H0, hok⟩ := hrel
    obtain ⟨x0, x1, x2⟩ := tcs_cells H0
    by_cases hlt : k < l.length
    · have L := Lib.hid (wrong_at l A c has x k wr (h.below hb) hlt hn)
      by_cases hw : lm.wr l k = 0
      · rw [hw] at L
        obtain ⟨b, o, rfl, hb0, hc⟩ := h.below hb (by omega)
        have CE : Hid (∀ W', Below wr.heap.size wr W' → W'.cell? ⟨b, o + k * 3, none⟩ = some (.int .i64 (dy l k)) ∧ W'.cell? ⟨w.heap.size, 0, none⟩ = some (.slice (some ⟨b, o, none⟩) l.length c)) := fun W' hb' => ⟨(hb'.cell (p := ⟨b, o + k * 3, none⟩) hb0).trans (hc k hlt).1, (tcs_cells (kept H0 hb')).1⟩
        have bd := (wr_ok.1 hw).2
        have R : Hid (∀ W', Below wr.heap.size wr W' → RHead l (some ⟨b, o, none⟩) c has x w (.int .i64 (86400 * (dy l k + 1))) (.int .i64 ((k : Int) + 1)) W') := fun W' hb' => ⟨k + 1, by omega, rfl, by unfold lk; rw [if_neg (by omega), Nat.add_sub_cancel], btr hb hb', kept H0 hb', fun j hj => by
          rcases Nat.eq_or_lt_of_le (Nat.le_of_lt_succ hj) with rfl | g
          · exact hw
          · exact hok j g⟩
        have b1 := bd.1
        have b2 := bd.2.1
        clear hok h H0 hw hc bd
        generalize dy l k = D at *
        generalize lk l k = Q at *
        generalize l.length = n at *
        go_wp2_with (go_at_call 77; with_reducible refine (L.out).mono ?_; rintro e w1 ⟨rfl, hb1⟩; have R1 := R.out _ hb1; obtain ⟨z0, z1⟩ := CE.out _ hb1)
        go_roundw
        case rel => exact R1
        case measure => simp [intOf]; omega
      · obtain ⟨e1, e2⟩ := ce_at (has := has) (x := x) hok hlt hw
        have R : Hid (∀ W', Below wr.heap.size wr W' → leap.Checked l has x w (.returned (.tuple #[.int .i64 (k : Nat), .int .i64 (lm.wr l k)])) W') := fun W' hb' => ⟨by rw [e1, e2], btr hb hb'⟩
        clear hok h H0 e1 e2
        have t : (lm.wr l k == 0) = false := by simpa using hw
        clear hw
        generalize lm.wr l k = z at *
        generalize lk l k = Q at *
        generalize l.length = n at *
        go_wp2_with (go_at_call 77; with_reducible refine (L.out).mono ?_; rintro e w1 ⟨rfl, hb1⟩; have R1 := R.out _ hb1)
        (try simp only [Exit.inBlock, Exit.then])
        exact bodyPost_ret (v := .tuple #[.int .i64 (k : Nat), .int .i64 z]) (by simp [results, Tryz.results54, go_sem]) rfl R1
    · obtain rfl : k = l.length := by omega
      obtain ⟨e1, e2⟩ := ce_end (has := has) (x := x) hok
      have R : Hid (∀ z, z = xp l has x → ∀ W', Below w.heap.size w W' → leap.Checked l has x w (.returned (.tuple #[.int .i64 (l.length : Nat), .int .i64 z])) W') := fun z hz W' hb' => ⟨by rw [e1, e2, hz], hb'⟩
      have XP : Hid (∀ L, L = lm.lst l → xp l has x = if has then (if x < L ∨ 253402300799 < x then 9 else 0) else if x = 0 then 0 else 9) := fun L hL => xp_cases l has x L hL
      have hq := lk_all l
      clear hok h hlt hk e1 e2 H0
      generalize lk l l.length = Q at *
      have XQ := XP.out Q hq
      clear XP hq
      generalize xp l has x = z at *
      generalize l.length = n at *
      cases has
      · by_cases hx : x = 0
        · have R2 := Lib.hid (R.out 0 (by rw [XQ, if_neg (by decide), if_pos hx]))
          clear R XQ
          subst hx
          go_wp2
          exact bodyPost_ret (v := .tuple #[.int .i64 (n : Nat), .int .i64 0]) (by simp [results, Tryz.results54, go_sem]) rfl (R2.out _ hb)
        · have R2 := Lib.hid (R.out 9 (by rw [XQ, if_neg (by decide), if_neg hx]))
          have t : (x != 0) = true := by simpa using hx
          clear R XQ hx
          go_wp2
          exact bodyPost_ret (v := .tuple #[.int .i64 (n : Nat), .int .i64 9]) (by simp [results, Tryz.results54, go_sem]) rfl (R2.out _ hb)
      · by_cases h1 : x < Q
        · have R2 := Lib.hid (R.out 9 (by rw [XQ, if_pos rfl, if_pos (Or.inl h1)]))
          have t : decide (x < Q) = true := by simpa using h1
          clear R XQ h1
          go_wp2
          exact bodyPost_ret (v := .tuple #[.int .i64 (n : Nat), .int .i64 9]) (by simp [results, Tryz.results54, go_sem]) rfl (R2.out _ hb)
        · have t : decide (x < Q) = false := by simp; omega
          by_cases h2 : 253402300799 < x
          · have R2 := Lib.hid (R.out 9 (by rw [XQ, if_pos rfl, if_pos (Or.inr h2)]))
            have t2 : decide (253402300799 < x) = true := by simpa using h2
            clear R XQ h1 h2
            go_wp2
            exact bodyPost_ret (v := .tuple #[.int .i64 (n : Nat), .int .i64 9]) (by simp [results, Tryz.results54, go_sem]) rfl (R2.out _ hb)
          · have R2 := Lib.hid (R.out 0 (by rw [XQ, if_pos rfl, if_neg (by omega)]))
            have t2 : decide (253402300799 < x) = false := by simp; omega
            clear R XQ h1 h2
            go_wp2
            exact bodyPost_ret (v := .tuple #[.int .i64 (n : Nat), .int .i64 0]) (by simp [results, Tryz.results54, go_sem]) rfl (R2.out _ hb)
theorem right_at (l : List Lp) (A : Option Addr) (c : Nat) (has : Bool) (x : Int) (w : World) (h : Lps w A l) (hn : l.length ≤ 9223372036854775807) :
    Calls Tryz.prog 26 #[.agg #[.slice A l.length c, .bool has, .int .i64 x]] w fun e w' => e = .returned (.bool (ce l has x == 0)) ∧ Below w.heap.size w w' := by
  have hb0 := bal (Below.refl w.heap.size w) (.cells #[.slice A l.length c, .bool has, .int .i64 x] 24)
  have C := Lib.hid (check_at l A c has x _ (h.below hb0) hn)
  unfold leap.Checked at C
  have HB := Lib.hid hb0
  clear h hb0
  generalize ce l has x = z at *
  generalize cp l = p at *
  generalize l.length = n at *
  go_enter Tryz.func26, Tryz.ntmps26
  go_wp2_with (go_at_call 54; with_reducible refine (C.out).mono ?_; rintro e w1 ⟨rfl, hb1⟩)
  go_ret
  exact ⟨rfl, btr HB.out hb1⟩
end Go.Proofs.YtiboijhfieaepaaGreatDoor.ref09
