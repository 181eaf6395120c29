/-
  The document's own answers of layer 9: Total, Step, Length. Conditions: the slice reads as the row; its leaps are right.
-/
import Derived.Test.YtefnlnehdogiaaaDoorRef09
namespace Go.Proofs.YtefnlnehdogiaaaDoor.ref09
open Go.ChangeShapes Go.WideShapes Go.ChangeAt Go.RowKit
open lm mem leap
set_option linter.unusedVariables false

/-- at the head of a round of Total. -/
def RTot (l : List Lp) (A : Option Addr) (c : Nat) (has : Bool) (x : Int) (f : Nat) (w : World) (s i : Value) (W : World) : Prop :=
  ∃ k : Nat, k ≤ f ∧ i = .int .i64 (k : Nat) ∧ s = .int .i64 (tot l k) ∧ Below w.heap.size w W ∧ W.heap[w.heap.size]? = some (.cells (tcs A l.length c has x) 24)
set_option maxHeartbeats 1000000 in
theorem total_at (l : List Lp) (A : Option Addr) (c : Nat) (has : Bool) (x d : Int) (w : World) (h : Lps w A l) (hg : lm.Good l) :
    Calls Tryd.prog 23 #[.agg #[.slice A l.length c, .bool has, .int .i64 x], .int .i64 d] w fun e w' => e = .returned (.int .i64 (tot l (fnd l d))) ∧ Below w.heap.size w w' := by
  have hlen := hg.len
  have hf := fnd_le l d
  go_enter Tryd.func23, Tryd.ntmps23
  go_wp2
  go_loopw [5, 6] (fun s i W => RTot l A c has x (fnd l d) w s i W) (fun _ i _ => fnd l d - (intOf i).toNat)
  case atStart => exact ⟨0, Nat.zero_le _, rfl, rfl, bal (Below.refl _ _) _, hp_new _ _⟩
  case round =>
    obtain ⟨k, hk, rfl, rfl, hb, H0⟩ := hrel
    obtain ⟨x0, x1, x2⟩ := tcs_cells H0
    have F := Lib.hid (find_at l A c has x d wr (h.below hb) (by omega))
    by_cases hlt : k < fnd l d
    · obtain ⟨b, o, rfl, hb0, hc⟩ := h.below hb (by omega)
      have CE : Hid (∀ W', Below wr.heap.size wr W' → W'.cell? ⟨b, o + k * 3 + 1, none⟩ = some (.int .i64 (lm.st l k)) ∧ W'.cell? ⟨w.heap.size, 0, none⟩ = some (.slice (some ⟨b, o, none⟩) l.length c)) := fun W' hb' => ⟨(hb'.cell (p := ⟨b, o + k * 3 + 1, none⟩) hb0).trans (hc k (by omega)).2.1, (tcs_cells (kept H0 hb')).1⟩
      have tb := tot_bd hg k (by omega)
      have st := hg.step (i := k) (by omega)
      have R : Hid (∀ W', Below wr.heap.size wr W' → RTot l (some ⟨b, o, none⟩) c has x (fnd l d) w (.int .i64 (tot l k + lm.st l k)) (.int .i64 ((k : Int) + 1)) W') := fun W' hb' => ⟨k + 1, by omega, rfl, by rw [tot], btr hb hb', kept H0 hb'⟩
      have kl : k < l.length := by omega
      clear hc h hg H0
      generalize hT : tot l k = S at *
      clear hT
      generalize fnd l d = f at *
      generalize lm.st l k = z at *
      generalize l.length = n at *
      go_wp2_with (go_at_call 21; with_reducible refine (F.out).mono ?_; rintro e w1 ⟨rfl, hb1⟩; have R1 := R.out _ hb1; obtain ⟨z0, z1⟩ := CE.out _ hb1)
      go_roundw
      case rel => exact R1
      case measure => simp [intOf]; omega
    · obtain rfl : k = fnd l d := by omega
      clear h hg H0
      go_wp2_with (go_at_call 21; with_reducible refine (F.out).mono ?_; rintro e w1 ⟨rfl, hb1⟩)
      go_ret
      exact ⟨rfl, btr hb hb1⟩
set_option maxHeartbeats 1000000 in
theorem step_at (l : List Lp) (A : Option Addr) (c : Nat) (has : Bool) (x d : Int) (w : World) (h : Lps w A l) (hg : lm.Good l) :
    Calls Tryd.prog 25 #[.agg #[.slice A l.length c, .bool has, .int .i64 x], .int .i64 d] w fun e w' => e = .returned (.int .i64 (stp l d)) ∧ Below w.heap.size w w' := by
  have hlen := hg.len
  have hb0 := bal (Below.refl w.heap.size w) (.cells #[.slice A l.length c, .bool has, .int .i64 x] 24)
  have x0 := (tcs_cells (n := l.length) (A := A) (c := c) (has := has) (x := x) (hp_new w _)).1
  have h1 := h.below hb0
  have HB := Lib.hid hb0
  have SA : Hid (∀ k, k < l.length → dy l k = d → stp l d = lm.st l k) := fun k hk e => by rw [← e]; exact (stp_at hg hk).2
  have SN : Hid ((∀ k, k < l.length → dy l k ≠ d) → stp l d = 0) := fun h => stp_none h
  clear h hb0 hg
  change (w.alloc (.cells #[.slice A l.length c, .bool has, .int .i64 x] 24)).cell? _ = _ at x0
  go_enter Tryd.func25, Tryd.ntmps25
  go_wp2_with fail
  generalize w.alloc (.cells #[.slice A l.length c, .bool has, .int .i64 x] 24) = W1 at *
  go_loop [5] (fun i => ∃ k : Nat, k ≤ l.length ∧ i = .int .i64 (k : Nat) ∧ ∀ j, j < k → dy l j ≠ d) (fun i => l.length - (intOf i).toNat)
  case atStart => exact ⟨0, Nat.zero_le _, rfl, fun j hj => by omega⟩
  case round =>
    obtain ⟨k, hk, rfl, hno⟩ := hrel
    by_cases hlt : k < l.length
    · obtain ⟨b, o, rfl, hb1, hc⟩ := h1 (by omega)
      obtain ⟨y0, y1, _⟩ := hc k hlt
      by_cases hd : dy l k = d
      · have t1 : (dy l k == d) = true := by simpa using hd
        have e := SA.out k hlt hd
        have E : Hid (Ending.returned (.int .i64 (lm.st l k)) = Ending.returned (.int .i64 (stp l d))) := by show _ = _; rw [e]
        clear h1 hc hb1 SA SN hno hd e
        generalize dy l k = D at *
        generalize lm.st l k = z at *
        generalize l.length = n at *
        go_wp2
        go_ret
        exact ⟨E.out, HB.out⟩
      · have t1 : (dy l k == d) = false := by simpa using hd
        have R : Hid (∀ j, j < k + 1 → dy l j ≠ d) := fun j hj => by
          rcases Nat.eq_or_lt_of_le (Nat.le_of_lt_succ hj) with rfl | g
          · exact hd
          · exact hno j g
        clear h1 hc hb1 SA SN hno hd
        generalize dy l k = D at *
        generalize lm.st l k = z at *
        go_wp2
        go_round
        case rel => exact ⟨k + 1, by omega, rfl, R.out⟩
        case measure => simp [intOf]; omega
    · obtain rfl : k = l.length := by omega
      have e := SN.out hno
      have E : Hid (Ending.returned (.int .i64 0) = Ending.returned (.int .i64 (stp l d))) := by show _ = _; rw [e]
      clear h1 SA SN hno e
      go_wp2
      go_ret
      exact ⟨E.out, HB.out⟩
theorem length_at (l : List Lp) (A : Option Addr) (c : Nat) (has : Bool) (x d : Int) (w : World) (h : Lps w A l) (hg : lm.Good l) :
    Calls Tryd.prog 27 #[.agg #[.slice A l.length c, .bool has, .int .i64 x], .int .i64 d] w fun e w' => e = .returned (.int .i64 (86400 + stp l d)) ∧ Below w.heap.size w w' := by
  have hb0 := bal (Below.refl w.heap.size w) (.cells #[.slice A l.length c, .bool has, .int .i64 x] 24)
  have F := Lib.hid (step_at l A c has x d _ (h.below hb0) hg)
  have HB := Lib.hid hb0
  have sb := stp_bd hg d
  clear h hb0 hg
  generalize stp l d = z at *
  generalize l.length = n at *
  go_enter Tryd.func27, Tryd.ntmps27
  go_wp2_with (go_at_call 25; with_reducible refine (F.out).mono ?_; rintro e w1 ⟨rfl, hb1⟩)
  go_ret
  exact ⟨rfl, btr HB.out hb1⟩
end Go.Proofs.YtefnlnehdogiaaaDoor.ref09
