/-
  Tables and leaps that came in, as they are read. Conditions: the row's own.
-/
import Derived.Test.YtcikcdeihlmbcaaDoorLeapAdd
import Derived.Test.YtcikcdeihlmbcaaDoorLaw
import Derived.Test.YtcikcdeihlmbcaaDoorDayLaid
import Derived.Deep.Slices
import Derived.Lib.SmallJoins
namespace Go.Proofs.YtcikcdeihlmbcaaDoor.leap
open Go.ChangeShapes Go.WideShapes Go.ChangeAt Go.RowKit
open lm mem
set_option linter.unusedVariables false
set_option maxRecDepth 100000

theorem cL : Tryd.prog.cellsOf 47 = 3 := by kernel_rfl
theorem cT : Tryd.prog.cellsOf 24 = 3 := by kernel_rfl
theorem cI : Tryd.prog.cellsOf 3 = 1 := by kernel_rfl
theorem cB : Tryd.prog.cellsOf 4 = 1 := by kernel_rfl
def boolOf : Value → Bool
  | .bool b => b
  | _ => false
def at0 (w : World) (a : Addr) (j : Nat) : Value := (w.cell? (a.add j)).getD undef
/-- the leaps that a slice reads as. -/
def lpsOf (w : World) (a : Addr) (n : Nat) : List Lp := (List.range n).map fun i => (intOf (at0 w a (i * 3)), intOf (at0 w a (i * 3 + 1)), boolOf (at0 w a (i * 3 + 2)))
theorem lpsOf_len (w : World) (a : Addr) (n : Nat) : (lpsOf w a n).length = n := by simp [lpsOf]
theorem lpsOf_at (w : World) (a : Addr) (n k : Nat) (h : k < n) : dy (lpsOf w a n) k = intOf (at0 w a (k * 3)) ∧ lm.st (lpsOf w a n) k = intOf (at0 w a (k * 3 + 1)) ∧ rl (lpsOf w a n) k = boolOf (at0 w a (k * 3 + 2)) := by
  have e : (lpsOf w a n).getD k z3 = (intOf (at0 w a (k * 3)), intOf (at0 w a (k * 3 + 1)), boolOf (at0 w a (k * 3 + 2))) := by
    rw [List.getD_eq_getElem?_getD, List.getElem?_eq_getElem (by rw [lpsOf_len]; exact h)]
    simp [lpsOf]
  unfold dy lm.st rl
  rw [e]
  exact ⟨rfl, rfl, rfl⟩
theorem open_lps {H : Type} {enc : TypeId × Value → H} {W : World} {held : Bool} {fuel : Nat} {v : Value} {x : DataW H × List MemPlace} (h : DataW.trod enc Tryd.prog W 0 (fun _ => true) held fuel 22 [v] = some x) :
    ∃ A c l, v = .slice A (List.length l) c ∧ Lps W A l ∧ List.length l ≤ 9223372036854775807 ∧ List.length l ≤ c := by
  rcases Deep.open_slice Tryd.underlying22 h with ⟨h1, _⟩ | ⟨a, len, cap, m, n, D, Pl, h1, _, h3, h4, h5, _, h7⟩
  · obtain rfl := (List.cons.inj h1).1
    exact ⟨none, 0, [], rfl, fun h => absurd rfl h, by decide, by decide⟩
  · obtain rfl := (List.cons.inj h1).1
    simp only [if_true] at h5
    unfold maxLen at h4
    have cells : ∀ k, k < len → W.cell? (a.add (k * 3)) = some (.int .i64 (dy (lpsOf W a len) k)) ∧ W.cell? (a.add (k * 3 + 1)) = some (.int .i64 (lm.st (lpsOf W a len) k)) ∧ W.cell? (a.add (k * 3 + 2)) = some (.bool (rl (lpsOf W a len) k)) := by
      intro k hk
      obtain ⟨cs', g1, g2⟩ := h7 k (by omega)
      rw [cL] at g1
      obtain ⟨_, hlen, hcell⟩ := World.cells?_some g1
      obtain ⟨xs, n', _, _, _, hxl, hf⟩ := DataW.trod_struct Tryd.underlying47 g2
      match cs', hlen, xs, hxl with
      | [u0, u1, u2], _, [y0, y1, y2], _ =>
        have f0 := hf 0 _ rfl
        have f1 := hf 1 _ rfl
        have f2 := hf 2 _ rfl
        change DataW.trod _ _ _ _ _ _ _ 3 (([u0, u1, u2].drop 0).take (Tryd.prog.cellsOf 3)) = some y0 at f0
        change DataW.trod _ _ _ _ _ _ _ 3 (([u0, u1, u2].drop 1).take (Tryd.prog.cellsOf 3)) = some y1 at f1
        change DataW.trod _ _ _ _ _ _ _ 4 (([u0, u1, u2].drop 2).take (Tryd.prog.cellsOf 4)) = some y2 at f2
        rw [cI] at f0 f1
        rw [cB] at f2
        have c0 := hcell 0 (by decide)
        have c1 := hcell 1 (by decide)
        have c2 := hcell 2 (by decide)
        rw [Deep.add_add] at c0 c1 c2
        obtain ⟨k0, e0, _, _⟩ := DataW.trod_int Tryd.underlying3 f0
        obtain ⟨k1, e1, _, _⟩ := DataW.trod_int Tryd.underlying3 f1
        obtain ⟨k2, e2, _⟩ := DataW.trod_bool Tryd.underlying4 f2
        obtain rfl : u0 = .int .i64 k0 := (List.cons.inj e0).1
        obtain rfl : u1 = .int .i64 k1 := (List.cons.inj e1).1
        obtain rfl : u2 = .bool k2 := (List.cons.inj e2).1
        obtain ⟨i0, i1, i2⟩ := lpsOf_at W a len k hk
        have d0 : W.cell? (a.add (k * 3)) = some (.int .i64 k0) := by simpa using c0
        have d1 : W.cell? (a.add (k * 3 + 1)) = some (.int .i64 k1) := by simpa using c1
        have d2 : W.cell? (a.add (k * 3 + 2)) = some (.bool k2) := by simpa using c2
        rw [i0, i1, i2]
        unfold at0
        rw [d0, d1, d2]
        exact ⟨rfl, rfl, rfl⟩
    refine ⟨some a, cap, lpsOf W a len, by rw [lpsOf_len], fun hne => ?_, by rw [lpsOf_len]; omega, by rw [lpsOf_len]; exact h3⟩
    rw [lpsOf_len] at hne
    obtain ⟨b, off, spot⟩ := a
    have hspot : spot = none := by simpa [Addr.add] using World.cell?_spot (cells 0 (by omega)).1
    subst hspot
    have hz := (cells 0 (by omega)).1
    refine ⟨b, off, rfl, ?_, fun k hk => ?_⟩
    · have := World.block_lt_of_cell? W _ hz
      simpa [Addr.add] using this
    · rw [lpsOf_len] at hk
      obtain ⟨a0, a1, a2⟩ := cells k hk
      rw [Addr.add_mid] at a0 a1 a2
      exact ⟨a0, a1, a2⟩
theorem open_table {H : Type} {enc : TypeId × Value → H} {W : World} {base : Nat} {v : Value} {d : DataW H} {p : List MemPlace} (hv : Value.okWide Tryd.prog W .any base 24 v) (h : DataW.Trod enc Tryd.prog W 0 (fun _ => true) true 24 v d p) :
    ∃ A c l has x, v = .agg #[.slice A (List.length l) c, .bool has, .int .i64 x] ∧ Lps W A l ∧ List.length l ≤ 9223372036854775807 ∧ List.length l ≤ c ∧ (-9223372036854775808 ≤ x ∧ x ≤ 9223372036854775807) := by
  obtain ⟨c0, c1, c2, y0, y1, y2, m, rfl, _, _, hy0, hy1, hy2⟩ := Joins.open_agg3 Tryd.underlying24 (by kernel_rfl) cT hv h
  obtain ⟨A, c, l, rfl, hl, hn, hc⟩ := open_lps hy0
  obtain ⟨b, e1, _⟩ := DataW.trod_bool Tryd.underlying4 hy1
  obtain ⟨x, e2, _, w2⟩ := DataW.trod_int Tryd.underlying3 hy2
  obtain rfl := (List.cons.inj e1).1
  obtain rfl := (List.cons.inj e2).1
  exact ⟨A, c, l, b, x, rfl, hl, hn, hc, bounds_i64 w2⟩
theorem open_leap {H : Type} {enc : TypeId × Value → H} {W : World} {base : Nat} {v : Value} {d : DataW H} {p : List MemPlace} (hv : Value.okWide Tryd.prog W .any base 47 v) (h : DataW.Trod enc Tryd.prog W 0 (fun _ => true) true 47 v d p) :
    ∃ z : Lp, v = .agg #[.int .i64 z.1, .int .i64 z.2.1, .bool z.2.2] := by
  obtain ⟨c0, c1, c2, y0, y1, y2, m, rfl, _, _, hy0, hy1, hy2⟩ := Joins.open_agg3 Tryd.underlying47 (by kernel_rfl) cL hv h
  obtain ⟨a, e0, _, _⟩ := DataW.trod_int Tryd.underlying3 hy0
  obtain ⟨b, e1, _, _⟩ := DataW.trod_int Tryd.underlying3 hy1
  obtain ⟨c, e2, _⟩ := DataW.trod_bool Tryd.underlying4 hy2
  obtain rfl := (List.cons.inj e0).1
  obtain rfl := (List.cons.inj e1).1
  obtain rfl := (List.cons.inj e2).1
  exact ⟨(a, b, c), rfl⟩
end Go.Proofs.YtcikcdeihlmbcaaDoor.leap
