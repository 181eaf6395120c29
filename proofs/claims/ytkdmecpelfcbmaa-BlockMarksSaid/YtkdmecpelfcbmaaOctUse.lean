/-
  What Open, Num, Take, Left and Ok answer; and the small case of layer 13's statements comes out true. Conditions: the slices that are handed in read as bytes; readers are such as Open made.
-/
import Derived.Test.YtkdmecpelfcbmaaOctCalls
namespace Go.Proofs.Ytkdmecpelfcbmaa.oct
open Go.ChangeShapes Go.WideShapes Go.ChangeAt Go.RowKit
open om mem
set_option linter.unusedVariables false
set_option maxRecDepth 100000

theorem own_slice {base : Nat} {W : World} {v : Value} {l : List Nat} (h : Own base W v l) : ∃ A n c, v = .slice A n c := by
  rcases h.2 with ⟨rfl, _⟩ | ⟨g, cap, cur, rfl, _⟩
  · exact ⟨_, _, _, rfl⟩
  · exact ⟨_, _, _, rfl⟩
def OpenTold (T : TypeId) (w : World) (l : List Nat) (e : Ending) (w' : World) : Prop :=
  ∃ g, e = .returned (.pointer (some ⟨g, 0, none⟩)) ∧ Rdr T w.heap.size w'.heap.size w' g l false ∧ Below w.heap.size w w'
theorem open_told {T : TypeId} {w w1 : World} {v : Value} {l : List Nat} (ho : Own w.heap.size w1 v l) (hb : Below w.heap.size w w1) : OpenTold T w l (.returned (.pointer (some ⟨w1.heap.size, 0, none⟩))) (w1.alloc (.cells #[v, .bool false] T)) := by
  have hs : (w1.alloc (.cells #[v, .bool false] T)).heap.size = w1.heap.size + 1 := by simp
  refine ⟨_, rfl, ⟨hb.size, by omega, v, hp_new _ _, ?_⟩, hb.alloc hb.size _⟩
  refine (own_by ho).imp (fun b hb => by omega) fun b o x hp hx => ?_
  exact ((bal (Below.refl w1.heap.size w1) (.cells #[v, .bool false] T)).cell (p := ⟨b, o, none⟩) hp.2).trans hx
set_option maxHeartbeats 1000000 in
theorem open_at (l : List Nat) (v : Value) (w : World) (h : RdW w v l) (hl : l.length < 2000000000000) : Calls Try.prog 28 #[v] w (OpenTold 98 w l) := by
  have C := Lib.hid (copied_at l v 0 0 w rfl h (by omega))
  clear h
  go_enter Try.func28, Try.ntmps28
  go_wp2_with (go_at_call 52; (with_reducible refine C.out.mono ?_); rintro e w1 ⟨v1, rfl, ho1, hb1⟩; obtain ⟨A1, n1, c1, rfl⟩ := own_slice ho1; have R := Lib.hid (open_told (T := 98) ho1 hb1); clear ho1 hb1)
  go_ret
  exact R.out
def TakeTold (T : TypeId) (lo hi : Nat) (W : World) (g : Nat) (l : List Nat) (f : Bool) (n : Int) (e : Ending) (w' : World) : Prop :=
  ∃ v', e = .returned v' ∧ Own W.heap.size w' v' (pre n l) ∧ Rdr T lo hi w' g (rst n l) (fl n l f) ∧ Keep g W w'
set_option maxHeartbeats 1000000 in
theorem take_at (lo hi : Nat) (W : World) (g : Nat) (l : List Nat) (f : Bool) (n : Int) (h : Rdr 98 lo hi W g l f) (hn : I64 n) (hl : l.length < 2000000000000) : Calls Try.prog 32 #[.pointer (some ⟨g, 0, none⟩), .int .i64 n] W (TakeTold 98 lo hi W g l f n) := by
  have C := Lib.hid (next_at lo hi W g l f n h hn (by omega))
  have D : Hid (∀ w1 v1, By (fun b => lo ≤ b ∧ b < hi ∧ b ≠ g) w1 v1 (pre n l) → Calls Try.prog 52 #[v1, .int .i64 0] w1 (NewBy w1 (pre n l))) := Lib.hid fun w1 v1 hby => copied_at (pre n l) v1 0 0 w1 rfl hby.rd (by have := pre_le n l; omega)
  have R : Hid (∀ w1 w2 v2, Rdr 98 lo hi w1 g (rst n l) (fl n l f) → Keep g W w1 → Own w1.heap.size w2 v2 (pre n l) → Below w1.heap.size w1 w2 → TakeTold 98 lo hi W g l f n (.returned v2) w2) := Lib.hid fun w1 w2 v2 hr hk ho hb =>
    ⟨v2, rfl, own_mono ho hk.size, hr.below hb, hk.below hb⟩
  clear h
  go_enter Try.func32, Try.ntmps32
  go_wp2_with (first
    | (go_at_call 56; (with_reducible refine C.out.mono ?_); rintro e w1 ⟨v1, rfl, hy1, hr1, hk1⟩; have HY := Lib.hid hy1; have HR := Lib.hid hr1; have HK := Lib.hid hk1; clear hy1 hr1 hk1)
    | (go_at_call 52; (with_reducible refine (D.out _ _ HY.out).mono ?_); rintro e w2 ⟨v2, rfl, ho2, hb2⟩; have Q := Lib.hid (R.out _ _ _ HR.out HK.out ho2 hb2); clear ho2 hb2))
  go_ret
  exact Q.out
/-- the size that is asked, or one that may never be. -/
def nz (z : Int) : Int := if z = 1 ∨ z = 4 ∨ z = 8 then z else -1
theorem nz_yes {z : Int} (h : Sz z) : nz z = z := if_pos h
theorem nz_no {z : Int} (h : ¬ Sz z) : nz z = -1 := if_neg h
theorem nz_bd (z : Int) : I64 (nz z) := by unfold nz I64; split <;> omega
def NumTold (T : TypeId) (lo hi : Nat) (W : World) (g : Nat) (l : List Nat) (f : Bool) (z : Int) (e : Ending) (w' : World) : Prop :=
  e = .returned (.int .i64 (rd (pre (nz z) l))) ∧ Rdr T lo hi w' g (rst (nz z) l) (fl (nz z) l f) ∧ Keep g W w'
theorem ok_neg (l : List Nat) : okB (-1) l = false := ok_no.2 (by omega)
set_option maxHeartbeats 1000000 in
theorem num_at (lo hi : Nat) (W : World) (g : Nat) (l : List Nat) (f : Bool) (z : Int) (h : Rdr 98 lo hi W g l f) (hz : I64 z) (hl : l.length < 2000000000000) (hb : Bys l) : Calls Try.prog 53 #[.pointer (some ⟨g, 0, none⟩), .int .i64 z] W (NumTold 98 lo hi W g l f z) := by
  have S := Lib.hid (fun w => isSize_at z w hz)
  by_cases hs : Sz z
  · rw [fit_iff.2 (fit_zero.2 hs)] at S
    have C := Lib.hid (next_at lo hi W g l f z h hz (by omega))
    have D : Hid (∀ w1 v1, By (fun b => lo ≤ b ∧ b < hi ∧ b ≠ g) w1 v1 (pre z l) → Calls Try.prog 62 #[v1] w1 fun e w' => e = .returned (.int .i64 (rd (pre z l))) ∧ w1 = w') := Lib.hid fun w1 v1 hby => number_at (pre z l) v1 w1 hby.rd (pre_bys hb) (by have := pre_le z l; omega)
    have R : Hid (∀ w1, Rdr 98 lo hi w1 g (rst z l) (fl z l f) → Keep g W w1 → NumTold 98 lo hi W g l f z (.returned (.int .i64 (rd (pre z l)))) w1) := Lib.hid fun w1 hr hk => by
      unfold NumTold
      rw [nz_yes hs]
      exact ⟨rfl, hr, hk⟩
    clear h hs hz hb
    go_enter Try.func53, Try.ntmps53
    go_wp2_with (first
      | (go_at_call 60; (with_reducible refine (S.out _).mono ?_); rintro e w1 ⟨rfl, rfl⟩)
      | (go_at_call 56; (with_reducible refine C.out.mono ?_); rintro e w1 ⟨v1, rfl, hy1, hr1, hk1⟩; have HY := Lib.hid hy1; have HR := Lib.hid (R.out _ hr1 hk1); clear hy1 hr1 hk1)
      | (go_at_call 62; (with_reducible refine (D.out _ _ HY.out).mono ?_); rintro e w1 ⟨rfl, rfl⟩))
    go_ret
    exact HR.out
  · have hf : fitB 0 z = false := fit_no.2 (fun h => hs (fit_zero.1 h))
    rw [hf] at S
    obtain ⟨h1, h2, v, hg, hby⟩ := h
    have C := Lib.hid (fail_at W g v f hg)
    have R : Hid (∀ w1, w1.heap[g]? = some (.cells #[.slice none 0 0, .bool true] 98) → Keep g W w1 → NumTold 98 lo hi W g l f z (.returned (.int .i64 0)) w1) := Lib.hid fun w1 hw hk => by
      unfold NumTold
      rw [nz_no hs, pre_no (ok_neg l), rst_no (ok_neg l), fl_no (ok_neg l)]
      exact ⟨rfl, ⟨h1, h2, .slice none 0 0, hw, Or.inl ⟨rfl, rfl⟩⟩, hk⟩
    clear hs hz hb hg hby hf
    go_enter Try.func53, Try.ntmps53
    go_wp2_with (first
      | (go_at_call 60; (with_reducible refine (S.out _).mono ?_); rintro e w1 ⟨rfl, rfl⟩)
      | (go_at_call 61; (with_reducible refine C.out.mono ?_); rintro e w1 ⟨rfl, hw1, hk1⟩; have HR := Lib.hid (R.out _ hw1 hk1); clear hw1 hk1))
    go_ret
    exact HR.out
end Go.Proofs.Ytkdmecpelfcbmaa.oct
