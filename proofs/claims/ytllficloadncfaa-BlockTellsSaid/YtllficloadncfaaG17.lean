/-
  Zones compared, and Few. Conditions: the zones are read.
-/
import Derived.Test.YtllficloadncfaaG09
import Derived.Test.YtllficloadncfaaG08
import Derived.Test.YtllficloadncfaaG07
import Derived.Deep.SlicePairs
import Derived.HandedShaped
import Derived.Test.YtllficloadncfaaG13
import Derived.Test.YtllficloadncfaaG16
namespace Go.Proofs.Ytllficloadncfaa.blk
open Go.ChangeShapes Go.WideShapes Go.ChangeAt Go.RowKit
open om mem oct bk
set_option linter.unusedVariables false
set_option maxRecDepth 100000

theorem eqT (a : Int) (b : Bool) (c : ByteArray) (W : World) : (Op.equalIn 10000 41 (.agg #[.int .i64 a, .bool b, .string c]) (.agg #[.int .i64 a, .bool b, .string c])).run Try.prog W = .ok true W := by
  rw [run_equalIn_struct W 9999 41 _ _ (by kernel_rfl) (by kernel_rfl)]
  have hf : Try.prog.fieldsOf 41 = (match Try.prog.underlying 41 with | some (.struct fs) => fs | _ => #[]) := by kernel_rfl
  rw [Try.underlying41] at hf
  simp only at hf
  rw [hf]
  have p0 : ∀ (x : Int) (y : Bool) (z : ByteArray), (part 3 #[.int .i64 x, .bool y, .string z] 0).run Try.prog W = .ok (.int .i64 x) W := fun x y z => by simp [part, isAgg, run_underlying Try.underlying3]
  have p1 : ∀ (x : Int) (y : Bool) (z : ByteArray), (part 4 #[.int .i64 x, .bool y, .string z] 1).run Try.prog W = .ok (.bool y) W := fun x y z => by simp [part, isAgg, run_underlying Try.underlying4]
  have p2 : ∀ (x : Int) (y : Bool) (z : ByteArray), (part 9 #[.int .i64 x, .bool y, .string z] 2).run Try.prog W = .ok (.string z) W := fun x y z => by simp [part, isAgg, run_underlying Try.underlying9]
  have e0 : ∀ x y : Int, (Op.equalIn 9999 3 (.int .i64 x) (.int .i64 y)).run Try.prog W = .ok (x == y) W := fun x y => run_equalIn_int W 9998 3 .i64 .i64 x y Try.underlying3
  have e1 : ∀ x y : Bool, (Op.equalIn 9999 4 (.bool x) (.bool y)).run Try.prog W = .ok (x == y) W := fun x y => run_equalIn_bool' W 9998 4 x y Try.underlying4
  have e2 : ∀ x y : ByteArray, (Op.equalIn 9999 9 (.string x) (.string y)).run Try.prog W = .ok (x.toList == y.toList) W := fun x y => run_equalIn_string W 9998 9 x y Try.underlying9
  simp [Op.eqFields, Sem.run_bind, p0, p1, p2, e0, e1, e2]
theorem eqP (T : TypeId) (hT : T = 43 ∨ T = 45) (a b : Int) (W : World) : (Op.equalIn 10000 T (.agg #[.int .i64 a, .int .i64 b]) (.agg #[.int .i64 a, .int .i64 b])).run Try.prog W = .ok true W := by
  have p0 : ∀ x y : Int, (part 3 #[.int .i64 x, .int .i64 y] 0).run Try.prog W = .ok (.int .i64 x) W := fun x y => by simp [part, isAgg, run_underlying Try.underlying3]
  have p1 : ∀ x y : Int, (part 3 #[.int .i64 x, .int .i64 y] 1).run Try.prog W = .ok (.int .i64 y) W := fun x y => by simp [part, isAgg, run_underlying Try.underlying3]
  have e3 : ∀ x y : Int, (Op.equalIn 9999 3 (.int .i64 x) (.int .i64 y)).run Try.prog W = .ok (x == y) W := fun x y => run_equalIn_int W 9998 3 .i64 .i64 x y Try.underlying3
  rcases hT with rfl | rfl
  · rw [run_equalIn_struct W 9999 43 _ _ (by kernel_rfl) (by kernel_rfl)]
    have hf : Try.prog.fieldsOf 43 = (match Try.prog.underlying 43 with | some (.struct fs) => fs | _ => #[]) := by kernel_rfl
    rw [Try.underlying43] at hf
    simp only at hf
    rw [hf]
    simp [Op.eqFields, Sem.run_bind, p0, p1, e3]
  · rw [run_equalIn_struct W 9999 45 _ _ (by kernel_rfl) (by kernel_rfl)]
    have hf : Try.prog.fieldsOf 45 = (match Try.prog.underlying 45 with | some (.struct fs) => fs | _ => #[]) := by kernel_rfl
    rw [Try.underlying45] at hf
    simp only at hf
    rw [hf]
    simp [Op.eqFields, Sem.run_bind, p0, p1, e3]
def EHead (n : Nat) (w : World) (i : Value) (W : World) : Prop := ∃ k : Nat, k ≤ n ∧ i = .int .i64 (k : Nat) ∧ Below w.heap.size w W
theorem prs_at {W : World} {A : Option Addr} {l : List Pr} (h : Prs W A l) (k : Nat) (hk : k < l.length) : ∃ b o, A = some ⟨b, o, none⟩ ∧ W.cell? ⟨b, o + k * 2, none⟩ = some (.int .i64 l[k].1) ∧ W.cell? ⟨b, o + k * 2 + 1, none⟩ = some (.int .i64 l[k].2) := by
  obtain ⟨b, o, e, _, hc⟩ := h (fun e => by rw [e] at hk; simp at hk)
  exact ⟨b, o, e, hc k hk⟩
theorem tys_at {W : World} {A : Option Addr} {l : List Ty} (h : Tys W A l) (k : Nat) (hk : k < l.length) : ∃ b o, A = some ⟨b, o, none⟩ ∧ W.cell? ⟨b, o + k * 3, none⟩ = some (.int .i64 l[k].off) ∧ W.cell? ⟨b, o + k * 3 + 1, none⟩ = some (.bool l[k].dst) ∧ W.cell? ⟨b, o + k * 3 + 2, none⟩ = some (.string l[k].ab) := by
  obtain ⟨b, o, e, _, hc⟩ := h (fun e => by rw [e] at hk; simp at hk)
  exact ⟨b, o, e, hc k hk⟩
set_option maxHeartbeats 2000000 in
theorem same12_at (l : List Pr) (A B : Option Addr) (c d : Nat) (w : World) (h : Prs w A l) (g : Prs w B l) (hn : l.length ≤ 1000000) : Calls Try.prog 37 #[.slice A l.length c, .slice B l.length d] w fun e w' => e = .returned (.bool true) ∧ Below w.heap.size w w' := by
  have ne : ((l.length : Int) != (l.length : Int)) = false := by simp
  have q := fun a b W => eqP 45 (Or.inr rfl) a b W
  go_enter Try.func37, Try.ntmps37
  go_wp2
  go_loopw [5] (fun i W => EHead l.length w i W) (fun i _ => l.length - (intOf i).toNat)
  case atStart => exact ⟨0, Nat.zero_le _, rfl, Below.refl _ _⟩
  case round =>
    obtain ⟨k, hk, rfl, hb⟩ := hrel
    by_cases hlt : k < l.length
    · obtain ⟨b, o, rfl, x0, x1⟩ := prs_at (h.below hb) k hlt
      obtain ⟨b', o', rfl, y0, y1⟩ := prs_at (g.below hb) k hlt
      clear h g
      generalize l[k].1 = a0 at *
      generalize l[k].2 = a1 at *
      generalize l.length = n at *
      go_wp2_with fail
      go_quiet (fail)
      go_wp2
      go_roundw
      case rel => exact ⟨k + 1, hlt, rfl, bel_drewN hb _⟩
      case measure => simp [intOf]; omega
    · obtain rfl : k = l.length := by omega
      clear h g
      go_wp2
      go_ret
      exact ⟨rfl, hb⟩
set_option maxHeartbeats 4000000 in
theorem same_at (A : Option Addr) (a : Nat) (B : Option Addr) (b : Nat) (C : Option Addr) (c : Nat) (A' : Option Addr) (a' : Nat) (B' : Option Addr) (b' : Nat) (C' : Option Addr) (c' : Nat) (z : Zn) (w : World) (h : Zr w A B C z) (g : Zr w A' B' C' z) (hn : z.ty.length ≤ 1000000 ∧ z.tr.length ≤ 1000000 ∧ z.lp.length ≤ 1000000) : Calls Try.prog 12 #[(.agg #[.slice A z.ty.length a, .slice B z.tr.length b, .slice C z.lp.length c, .string z.ft, .int .i64 z.v]), (.agg #[.slice A' z.ty.length a', .slice B' z.tr.length b', .slice C' z.lp.length c', .string z.ft, .int .i64 z.v])] w fun e w' => e = .returned (.bool true) ∧ Below w.heap.size w w' := by
  obtain ⟨hn1, hn2, hn3⟩ := id hn
  have T1 := zbox A a B b C c z w
  have T2 := zbox A' a' B' b' C' c' z (w.alloc (.cells #[.slice A z.ty.length a, .slice B z.tr.length b, .slice C z.lp.length c, .string z.ft, .int .i64 z.v] 26))
  have n1 : ((z.ty.length : Int) != (z.ty.length : Int)) = false := by simp
  have n2 : ((z.tr.length : Int) != (z.tr.length : Int)) = false := by simp
  have n3 : (z.ft.toList != z.ft.toList) = false := by simp
  have n4 : (z.v != z.v) = false := by simp
  have q1 := eqT
  have q2 := fun a b W => eqP 43 (Or.inl rfl) a b W
  have hb0 : Below w.heap.size w ((w.alloc (.cells #[.slice A z.ty.length a, .slice B z.tr.length b, .slice C z.lp.length c, .string z.ft, .int .i64 z.v] 26)).alloc (.cells #[.slice A' z.ty.length a', .slice B' z.tr.length b', .slice C' z.lp.length c', .string z.ft, .int .i64 z.v] 26)) := bal (bal (Below.refl _ _) _) _
  have XB : Hid (∀ W, Below ((w.alloc (.cells #[.slice A z.ty.length a, .slice B z.tr.length b, .slice C z.lp.length c, .string z.ft, .int .i64 z.v] 26)).alloc (.cells #[.slice A' z.ty.length a', .slice B' z.tr.length b', .slice C' z.lp.length c', .string z.ft, .int .i64 z.v] 26)).heap.size ((w.alloc (.cells #[.slice A z.ty.length a, .slice B z.tr.length b, .slice C z.lp.length c, .string z.ft, .int .i64 z.v] 26)).alloc (.cells #[.slice A' z.ty.length a', .slice B' z.tr.length b', .slice C' z.lp.length c', .string z.ft, .int .i64 z.v] 26)) W → Below w.heap.size w W ∧ Tys W A z.ty ∧ Tys W A' z.ty ∧ Prs W B z.tr ∧ Prs W B' z.tr ∧ Prs W C z.lp ∧ Prs W C' z.lp ∧ W.cell? ⟨w.heap.size, 0, none⟩ = some (.slice A z.ty.length a) ∧ W.cell? ⟨w.heap.size, 1, none⟩ = some (.slice B z.tr.length b) ∧ W.cell? ⟨w.heap.size, 2, none⟩ = some (.slice C z.lp.length c) ∧ W.cell? ⟨w.heap.size + 1, 0, none⟩ = some (.slice A' z.ty.length a') ∧ W.cell? ⟨w.heap.size + 1, 1, none⟩ = some (.slice B' z.tr.length b') ∧ W.cell? ⟨w.heap.size + 1, 2, none⟩ = some (.slice C' z.lp.length c')) := Lib.hid fun W hb => by
    have hbw := btr hb0 hb
    obtain ⟨x0, x1, x2, _⟩ := T1.out _ (btr (bal (Below.refl _ _) _) hb)
    obtain ⟨y0, y1, y2, _⟩ := T2.out _ hb
    rw [World.size_alloc] at y0 y1 y2
    exact ⟨hbw, h.ty.below hbw, g.ty.below hbw, h.tr.below hbw, g.tr.below hbw, h.lp.below hbw, g.lp.below hbw, x0, x1, x2, y0, y1, y2⟩
  have C12 := Lib.hid (fun W h g => same12_at z.lp C C' c c' W h g hn.2.2)
  clear T1 T2 hb0 h g hn
  obtain ⟨ty, tr, lp, ft, v⟩ := z
  simp only at *
  go_enter Try.func12, Try.ntmps12
  go_wp2
  generalize hW0 : ((w.alloc (.cells #[.slice A ty.length a, .slice B tr.length b, .slice C lp.length c, .string ft, .int .i64 v] 26)).alloc (.cells #[.slice A' ty.length a', .slice B' tr.length b', .slice C' lp.length c', .string ft, .int .i64 v] 26)) = W0 at *
  clear hW0
  go_loopw [5] (fun i W => EHead ty.length W0 i W) (fun i _ => ty.length - (intOf i).toNat)
  case atStart => exact ⟨0, Nat.zero_le _, rfl, Below.refl _ _⟩
  case round =>
    obtain ⟨k, hk, rfl, hb⟩ := hrel
    obtain ⟨hbw, tA, tA', -, -, -, -, u0, u1, u2, v0, v1, v2⟩ := XB.out _ hb
    by_cases hlt : k < ty.length
    · obtain ⟨b1, o1, rfl, x0, x1, x2⟩ := tys_at tA k hlt
      obtain ⟨b2, o2, rfl, y0, y1, y2⟩ := tys_at tA' k hlt
      clear tA tA' XB C12 hbw
      generalize ty[k].off = a0 at *
      generalize ty[k].dst = a1 at *
      generalize ty[k].ab = a2 at *
      generalize ty.length = n at *
      go_wp2_with fail
      go_quiet (fail)
      go_wp2
      go_roundw
      case rel => exact ⟨k + 1, hlt, rfl, bel_drewN hb _⟩
      case measure => simp [intOf]; omega
    · obtain rfl : k = ty.length := by omega
      clear tA tA' hbw
      go_wp2
      have HB0 := Lib.hid hb
      clear hb u0 u1 u2 v0 v1 v2
      generalize wr = W1 at *
      go_loopw [6] (fun i W => EHead tr.length W0 i W) (fun i _ => tr.length - (intOf i).toNat)
      case atStart => exact ⟨0, Nat.zero_le _, rfl, HB0.out⟩
      case round =>
        obtain ⟨k, hk, rfl, hb⟩ := hrel
        obtain ⟨hbw, -, -, tB, tB', tC, tC', u0, u1, u2, v0, v1, v2⟩ := XB.out _ hb
        by_cases hlt : k < tr.length
        · obtain ⟨b1, o1, rfl, x0, x1⟩ := prs_at tB k hlt
          obtain ⟨b2, o2, rfl, y0, y1⟩ := prs_at tB' k hlt
          clear tB tB' tC tC' XB C12 hbw
          generalize tr[k].1 = a0 at *
          generalize tr[k].2 = a1 at *
          generalize tr.length = n at *
          go_wp2_with fail
          go_quiet (fail)
          go_wp2
          go_roundw
          case rel => exact ⟨k + 1, hlt, rfl, bel_drewN hb _⟩
          case measure => simp [intOf]; omega
        · obtain rfl : k = tr.length := by omega
          have D := Lib.hid (C12.out _ tC tC')
          have HW := Lib.hid hbw
          clear tB tB' tC tC' hbw
          go_wp2_with (go_at_call 37; (with_reducible refine D.out.mono ?_); rintro e w1 ⟨rfl, hb1⟩)
          go_ret
          exact ⟨rfl, btr HW.out hb1⟩
/-- has it few parts, with short names? -/
def fewB (z : Zn) : Bool := (z.ty.take 100).all (fun t => decide (t.ab.size ≤ 100)) && decide (z.ty.length ≤ 100) && decide (z.tr.length ≤ 300) && decide (z.lp.length ≤ 300) && decide (z.ft.size ≤ 200)
theorem few_len {z : Zn} (h : fewB z = true) : z.ty.length ≤ 100 ∧ z.tr.length ≤ 300 ∧ z.lp.length ≤ 300 := by
  unfold fewB at h
  simp only [Bool.and_eq_true, decide_eq_true_eq] at h
  exact ⟨h.1.1.1.2, h.1.1.2, h.1.2⟩
theorem few_not {z : Zn} {k : Nat} (hk : k < z.ty.length) (h1 : k < 100) (h : ¬ z.ty[k].ab.size ≤ 100) : fewB z = false := by
  rw [Bool.eq_false_iff]
  intro e
  unfold fewB at e
  simp only [Bool.and_eq_true, List.all_eq_true, decide_eq_true_eq] at e
  exact h (e.1.1.1.1 _ (List.mem_take_iff_getElem.2 ⟨k, by omega, rfl⟩))
theorem few_is {z : Zn} (h : ∀ k (h : k < z.ty.length), k < 100 → z.ty[k].ab.size ≤ 100) : fewB z = (decide (z.ty.length ≤ 100) && decide (z.tr.length ≤ 300) && decide (z.lp.length ≤ 300) && decide (z.ft.size ≤ 200)) := by
  unfold fewB
  have : (z.ty.take 100).all (fun t => decide (t.ab.size ≤ 100)) = true := by
    rw [List.all_eq_true]
    intro t ht
    obtain ⟨k, hk, rfl⟩ := List.mem_take_iff_getElem.1 ht
    exact decide_eq_true (h k (by omega) (by omega))
  rw [this, Bool.true_and]
def FwHead (l : List Ty) (i : Value) : Prop := ∃ j : Nat, j ≤ l.length ∧ i = .int .i64 (j : Nat) ∧ ∀ k (h : k < l.length), k < j → l[k].ab.size ≤ 100
set_option maxHeartbeats 4000000 in
theorem few_at (A : Option Addr) (a : Nat) (B : Option Addr) (b : Nat) (C : Option Addr) (c : Nat) (z : Zn) (w : World) (h : Tys w A z.ty) : Calls Try.prog 5 #[(.agg #[.slice A z.ty.length a, .slice B z.tr.length b, .slice C z.lp.length c, .string z.ft, .int .i64 z.v])] w fun e w' => e = .returned (.bool (fewB z)) ∧ Below w.heap.size w w' := by
  have FI := Lib.hid (few_is (z := z))
  have FN := Lib.hid (fun k hk h1 h => few_not (z := z) (k := k) hk h1 h)
  have hb0 := Lib.hid (bal (Below.refl w.heap.size w) (.cells #[.slice A z.ty.length a, .slice B z.tr.length b, .slice C z.lp.length c, .string z.ft, .int .i64 z.v] 26))
  have h0 := h.below hb0.out
  generalize fewB z = FB at *
  obtain ⟨l, tr, lp, ft, v⟩ := z
  simp only at *
  clear h
  go_enter Try.func5, Try.ntmps5
  go_wp2
  go_loop [3] (fun i => FwHead l i) (fun i => l.length - (intOf i).toNat)
  case atStart => exact ⟨0, Nat.zero_le _, rfl, fun k h h' => by omega⟩
  case round =>
    obtain ⟨j, hj, rfl, hok⟩ := hrel
    by_cases hlt : j < l.length ∧ j < 100
    · obtain ⟨h1, h2⟩ := hlt
      obtain ⟨b1, o1, rfl, x0, x1, x2⟩ := tys_at h0 j h1
      by_cases hs : l[j].ab.size ≤ 100
      · have R : Hid (FwHead l (.int .i64 ((j : Int) + 1))) := Lib.hid ⟨j + 1, h1, rfl, fun k hk hk' => (Nat.lt_succ_iff_lt_or_eq.1 hk').elim (hok k hk) (fun e => by subst e; exact hs)⟩
        clear hok h0 FI FN
        generalize l[j].ab = s at *
        generalize l[j].off = s0 at *
        generalize l[j].dst = s1 at *
        go_wp2
        first
          | exact ⟨R.out, by simp [intOf]; omega⟩
          | (go_round; (case rel => exact R.out); (case measure => simp [intOf]; omega))
      · have E := Lib.hid (FN.out j h1 h2 hs)
        have hs' : 100 < l[j].ab.size := by omega
        clear hok h0 FI FN hs
        generalize l[j].ab = s at *
        generalize l[j].off = s0 at *
        generalize l[j].dst = s1 at *
        go_wp2
        go_ret
        exact ⟨(congrArg (fun b => Ending.returned (Value.bool b)) E.out).symm, hb0.out⟩
    · have E := Lib.hid (FI.out (fun k hk h1 => hok k hk (by omega)))
      clear hok h0 FI FN
      by_cases g : j < l.length
      · have g2 : ¬ j < 100 := fun h => hlt ⟨g, h⟩
        have g3 : decide (l.length ≤ 100) = false := decide_eq_false (by omega)
        rw [g3] at E
        have g4 : 100 < l.length := by omega
        clear hlt g3
        go_wp2
        go_ret
        exact ⟨(congrArg (fun b => Ending.returned (Value.bool b)) E.out).symm, hb0.out⟩
      · obtain rfl : j = l.length := by omega
        clear hlt g
        by_cases c1 : l.length ≤ 100 <;> by_cases c2 : tr.length ≤ 300 <;> by_cases c3 : lp.length ≤ 300 <;> by_cases c4 : ft.size ≤ 200
        all_goals simp only [c1, c2, c3, c4, decide_true, decide_false] at E
        all_goals first
          | (have c6 : decide ((ft.size : Int) ≤ 200) = true := decide_eq_true (by omega))
          | (have c6 : decide ((ft.size : Int) ≤ 200) = false := decide_eq_false (by omega))
        all_goals
          clear c4
          go_wp2
          go_ret
          exact ⟨(congrArg (fun b => Ending.returned (Value.bool b)) E.out).symm, hb0.out⟩
end Go.Proofs.Ytllficloadncfaa.blk

/-
  What the statements of layer 16 lean on: a zone that came in. Conditions: as said.
-/
namespace Go.Proofs.Ytllficloadncfaa.blk
open Go.ChangeShapes Go.WideShapes Go.ChangeAt Go.RowKit
open om mem oct bk
set_option linter.unusedVariables false
set_option maxRecDepth 100000

theorem cP : Try.prog.cellsOf 41 = 3 := by kernel_rfl
theorem cQ : Try.prog.cellsOf 43 = 2 := by kernel_rfl
theorem cR : Try.prog.cellsOf 45 = 2 := by kernel_rfl
theorem cZ : Try.prog.cellsOf 26 = 5 := by kernel_rfl
theorem cI : Try.prog.cellsOf 3 = 1 := by kernel_rfl
theorem cB : Try.prog.cellsOf 4 = 1 := by kernel_rfl
theorem cS : Try.prog.cellsOf 9 = 1 := by kernel_rfl
theorem cT1 : Try.prog.cellsOf 22 = 1 := by kernel_rfl
theorem cT2 : Try.prog.cellsOf 23 = 1 := by kernel_rfl
theorem cT3 : Try.prog.cellsOf 24 = 1 := by kernel_rfl
/-- what is so of each place makes a list. -/
theorem gather {α : Type} (P : Nat → α → Prop) : ∀ n, (∀ k, k < n → ∃ t, P k t) → ∃ l : List α, l.length = n ∧ ∀ k (h : k < l.length), P k l[k]
  | 0, _ => ⟨[], rfl, fun k h => by simp at h⟩
  | n + 1, h => by
    obtain ⟨l, hl, hp⟩ := gather P n (fun k hk => h k (by omega))
    obtain ⟨t, ht⟩ := h n (by omega)
    refine ⟨l ++ [t], by simp [hl], fun k hk => ?_⟩
    by_cases e : k < l.length
    · rw [List.getElem_append_left e]
      exact hp k e
    · have : k = l.length := by rw [List.length_append, List.length_singleton] at hk; omega
      subst this
      rw [List.getElem_append_right (by omega)]
      simp only [Nat.sub_self, List.getElem_cons_zero]
      rw [hl]
      exact ht
theorem open_tys {H : Type} {enc : TypeId × Value → H} {W : World} {held : Bool} {fuel : Nat} {v : Value} {x : DataW H × List MemPlace} (h : DataW.trod enc Try.prog W 0 (fun _ => true) held fuel 22 [v] = some x) :
    ∃ A c l, v = .slice A (List.length l) c ∧ Tys W A l ∧ TysBd l ∧ ∀ t ∈ l, t.ab.size ≤ 9223372036854775807 := by
  rcases Deep.open_slice Try.underlying22 h with ⟨h1, _⟩ | ⟨a, len, cap, m, n, D, Pl, h1, _, h3, h4, h5, _, h7⟩
  · obtain rfl := (List.cons.inj h1).1
    exact ⟨none, 0, [], rfl, (fun h => absurd rfl h), (fun t h => by cases h), (fun t h => by cases h)⟩
  · obtain rfl := (List.cons.inj h1).1
    unfold maxLen at h4
    simp only [if_true] at h5
    obtain ⟨l, hl, hp⟩ := gather (fun k (t : Ty) => (W.cell? (a.add (k * 3)) = some (.int .i64 t.off) ∧ W.cell? (a.add (k * 3 + 1)) = some (.bool t.dst) ∧ W.cell? (a.add (k * 3 + 2)) = some (.string t.ab)) ∧ bk.I64 t.off ∧ t.ab.size ≤ 9223372036854775807) len (fun k hk => by
      obtain ⟨cs', g1, g2⟩ := h7 k (by omega)
      rw [cP] at g1
      obtain ⟨_, hlen, hcell⟩ := World.cells?_some g1
      obtain ⟨xs, n', _, _, _, hxl, hf⟩ := DataW.trod_struct Try.underlying41 g2
      match cs', hlen, xs, hxl with
      | [u0, u1, u2], _, [y0, y1, y2], _ =>
        have f0 := hf 0 _ rfl
        have f1 := hf 1 _ rfl
        have f2 := hf 2 _ rfl
        change DataW.trod _ _ _ _ _ _ _ 3 (([u0, u1, u2].drop 0).take (Try.prog.cellsOf 3)) = some y0 at f0
        change DataW.trod _ _ _ _ _ _ _ 4 (([u0, u1, u2].drop 1).take (Try.prog.cellsOf 4)) = some y1 at f1
        change DataW.trod _ _ _ _ _ _ _ 9 (([u0, u1, u2].drop 2).take (Try.prog.cellsOf 9)) = some y2 at f2
        rw [cI] at f0
        rw [cB] at f1
        rw [cS] at f2
        have c0 := hcell 0 (by decide)
        have c1 := hcell 1 (by decide)
        have c2 := hcell 2 (by decide)
        rw [Deep.add_add] at c0 c1 c2
        obtain ⟨k0, e0, _, w0⟩ := DataW.trod_int Try.underlying3 f0
        obtain ⟨k1, e1, _⟩ := DataW.trod_bool Try.underlying4 f1
        obtain ⟨k2, e2, _, w2⟩ := DataW.trod_string Try.underlying9 f2
        obtain rfl : u0 = .int .i64 k0 := (List.cons.inj e0).1
        obtain rfl : u1 = .bool k1 := (List.cons.inj e1).1
        obtain rfl : u2 = .string k2 := (List.cons.inj e2).1
        refine ⟨⟨k0, k1, k2⟩, ⟨by simpa using c0, by simpa using c1, by simpa using c2⟩, bounds_i64 w0, ?_⟩
        unfold maxLen at w2
        show k2.size ≤ 9223372036854775807
        omega)
    refine ⟨some a, cap, l, by rw [hl], fun hne => ?_, fun t ht => ?_, fun t ht => ?_⟩
    · have hp0 : 0 < l.length := List.length_pos_iff.2 hne
      obtain ⟨b, off, spot⟩ := a
      have hspot : spot = none := by simpa [Addr.add] using World.cell?_spot (hp 0 hp0).1.1
      subst hspot
      have hz := (hp 0 hp0).1.1
      refine ⟨b, off, rfl, ?_, fun k hk => ?_⟩
      · have := World.block_lt_of_cell? W _ hz
        simpa [Addr.add] using this
      · obtain ⟨⟨e0, e1, e2⟩, _⟩ := hp k hk
        rw [Addr.add_mid] at e0 e1 e2
        exact ⟨e0, e1, e2⟩
    · obtain ⟨k, hk, rfl⟩ := List.getElem_of_mem ht
      exact (hp k hk).2.1
    · obtain ⟨k, hk, rfl⟩ := List.getElem_of_mem ht
      exact (hp k hk).2.2
theorem open_prs {H : Type} {enc : TypeId × Value → H} {W : World} {held : Bool} {fuel : Nat} {v : Value} {x : DataW H × List MemPlace} {st et : TypeId} {fs : Array Field} (hst : Try.prog.underlying st = some (.slice et)) (het : Try.prog.underlying et = some (.struct fs)) (hfs : fs.map (fun f => (f.type, f.offset)) = #[(3, 0), (3, 1)]) (hce : Try.prog.cellsOf et = 2) (h : DataW.trod enc Try.prog W 0 (fun _ => true) held fuel st [v] = some x) :
    ∃ A c l, v = .slice A (List.length l) c ∧ Prs W A l ∧ PrsBd l := by
  rcases Deep.open_slice hst h with ⟨h1, _⟩ | ⟨a, len, cap, m, n, D, Pl, h1, _, h3, h4, h5, _, h7⟩
  · obtain rfl := (List.cons.inj h1).1
    exact ⟨none, 0, [], rfl, (fun h => absurd rfl h), (fun t h => by cases h)⟩
  · obtain rfl := (List.cons.inj h1).1
    unfold maxLen at h4
    simp only [if_true] at h5
    obtain ⟨F0, F1, hF0, hF1, ht0, ht1, ho0, ho1⟩ : ∃ F0 F1 : Field, fs[0]? = some F0 ∧ fs[1]? = some F1 ∧ F0.type = 3 ∧ F1.type = 3 ∧ F0.offset = 0 ∧ F1.offset = 1 := by
      have g0 := congrArg (fun a => a[0]?) hfs
      have g1 := congrArg (fun a => a[1]?) hfs
      simp only [Array.getElem?_map] at g0 g1
      cases e0 : fs[0]? with
      | none => rw [e0] at g0; cases g0
      | some F0 =>
        cases e1 : fs[1]? with
        | none => rw [e1] at g1; cases g1
        | some F1 =>
          rw [e0] at g0
          rw [e1] at g1
          have g0 : some (F0.type, F0.offset) = some (3, 0) := g0
          have g1 : some (F1.type, F1.offset) = some (3, 1) := g1
          injection g0 with g0
          injection g1 with g1
          exact ⟨F0, F1, rfl, rfl, congrArg Prod.fst g0, congrArg Prod.fst g1, congrArg Prod.snd g0, congrArg Prod.snd g1⟩
    have hfn : fs.size = 2 := by have := congrArg Array.size hfs; simpa using this
    obtain ⟨l, hl, hp⟩ := gather (fun k (t : Pr) => (W.cell? (a.add (k * 2)) = some (.int .i64 t.1) ∧ W.cell? (a.add (k * 2 + 1)) = some (.int .i64 t.2)) ∧ bk.I64 t.1 ∧ bk.I64 t.2) len (fun k hk => by
      obtain ⟨cs', g1, g2⟩ := h7 k (by omega)
      rw [hce] at g1
      obtain ⟨_, hlen, hcell⟩ := World.cells?_some g1
      obtain ⟨xs, n', _, _, _, hxl, hf⟩ := DataW.trod_struct het g2
      rw [hfn] at hxl
      match cs', hlen, xs, hxl with
      | [u0, u1], _, [y0, y1], _ =>
        have f0 := hf 0 _ hF0
        have f1 := hf 1 _ hF1
        rw [ht0, ho0, cI] at f0
        rw [ht1, ho1, cI] at f1
        have c0 := hcell 0 (by decide)
        have c1 := hcell 1 (by decide)
        rw [Deep.add_add] at c0 c1
        obtain ⟨k0, e0, _, w0⟩ := DataW.trod_int Try.underlying3 f0
        obtain ⟨k1, e1, _, w1⟩ := DataW.trod_int Try.underlying3 f1
        obtain rfl : u0 = .int .i64 k0 := (List.cons.inj e0).1
        obtain rfl : u1 = .int .i64 k1 := (List.cons.inj e1).1
        exact ⟨(k0, k1), ⟨by simpa using c0, by simpa using c1⟩, bounds_i64 w0, bounds_i64 w1⟩)
    refine ⟨some a, cap, l, by rw [hl], fun hne => ?_, fun t ht => ?_⟩
    · have hp0 : 0 < l.length := List.length_pos_iff.2 hne
      obtain ⟨b, off, spot⟩ := a
      have hspot : spot = none := by simpa [Addr.add] using World.cell?_spot (hp 0 hp0).1.1
      subst hspot
      have hz := (hp 0 hp0).1.1
      refine ⟨b, off, rfl, ?_, fun k hk => ?_⟩
      · have := World.block_lt_of_cell? W _ hz
        simpa [Addr.add] using this
      · obtain ⟨⟨e0, e1⟩, _⟩ := hp k hk
        rw [Addr.add_mid] at e0 e1
        exact ⟨e0, e1⟩
    · obtain ⟨k, hk, rfl⟩ := List.getElem_of_mem ht
      exact (hp k hk).2
theorem field_one {H : Type} {enc : TypeId × Value → H} {W : World} {n : Nat} {l : List Value} {k : Nat} {c : Value} {xs : List (DataW H × List MemPlace)} {t : TypeId} (hc : Try.prog.cellsOf t = 1) (hl : l[k]? = some c) (hk : k < xs.length)
    (h : DataW.trod enc Try.prog W 0 (fun _ => true) true n t ((l.drop k).take (Try.prog.cellsOf t)) = xs[k]?) : ∃ y, DataW.trod enc Try.prog W 0 (fun _ => true) true n t [c] = some y := by
  rw [List.getElem?_eq_getElem hk, hc] at h
  have e : (l.drop k).take 1 = [c] := by
    obtain ⟨h1, h2⟩ := List.getElem?_eq_some_iff.1 hl
    rw [List.drop_eq_getElem_cons h1, h2]
    rfl
  rw [e] at h
  exact ⟨_, h⟩
theorem open_zone {H : Type} {enc : TypeId × Value → H} {W : World} {base : Nat} {v : Value} {d : DataW H} {p : List MemPlace} (hv : Value.okWide Try.prog W .any base 26 v) (h : DataW.Trod enc Try.prog W 0 (fun _ => true) true 26 v d p) :
    ∃ (A : Option Addr) (a : Nat) (B : Option Addr) (b : Nat) (C : Option Addr) (c : Nat) (z : Zn), v = (.agg #[.slice A z.ty.length a, .slice B z.tr.length b, .slice C z.lp.length c, .string z.ft, .int .i64 z.v]) ∧ Zr W A B C z ∧ Bd z := by
  obtain ⟨cs, rfl, hsz⟩ := okWide_struct Try.underlying26 hv
  rw [cZ] at hsz
  obtain ⟨l⟩ := cs
  obtain ⟨fuel, hf⟩ := h
  have hf' : DataW.trod enc Try.prog W 0 (fun _ => true) true fuel 26 l = some (d, p) := hf
  obtain ⟨xs, m, _, hx, hl, hn, hel⟩ := DataW.trod_struct Try.underlying26 hf'
  have hsz' : l.length = 5 := hsz
  have hn' : xs.length = 5 := hn
  match l, hsz' with
  | [c0, c1, c2, c3, c4], _ =>
    obtain ⟨y0, t0⟩ := field_one (k := 0) cT1 rfl (by omega) (hel 0 _ rfl)
    obtain ⟨y1, t1⟩ := field_one (k := 1) cT2 rfl (by omega) (hel 1 _ rfl)
    obtain ⟨y2, t2⟩ := field_one (k := 2) cT3 rfl (by omega) (hel 2 _ rfl)
    obtain ⟨y3, t3⟩ := field_one (k := 3) cS rfl (by omega) (hel 3 _ rfl)
    obtain ⟨y4, t4⟩ := field_one (k := 4) cI rfl (by omega) (hel 4 _ rfl)
    obtain ⟨A, a, lt, rfl, h1, h2, h3⟩ := open_tys t0
    obtain ⟨B, b, lr, rfl, h4, h5⟩ := open_prs Try.underlying23 Try.underlying43 (by simp) cQ t1
    obtain ⟨C, c, ll, rfl, h6, h7⟩ := open_prs Try.underlying24 Try.underlying45 (by simp) cR t2
    obtain ⟨ft, e3, _, w3⟩ := DataW.trod_string Try.underlying9 t3
    obtain ⟨vv, e4, _, w4⟩ := DataW.trod_int Try.underlying3 t4
    obtain rfl := (List.cons.inj e3).1
    obtain rfl := (List.cons.inj e4).1
    refine ⟨A, a, B, b, C, c, ⟨lt, lr, ll, ft, vv⟩, rfl, ⟨h1, h4, h6⟩, ⟨h2, h5, h7, bounds_i64 w4, fun x hx => ?_⟩⟩
    obtain ⟨t, ht, rfl⟩ := List.mem_map.1 hx
    exact h3 t ht
end Go.Proofs.Ytllficloadncfaa.blk

/-
  Encode and Decode as the statements of layer 16 use them. Conditions: the zone is read; the slice reads as bytes; MaxLen holds a number.
-/
namespace Go.Proofs.Ytllficloadncfaa.blk
open Go.ChangeShapes Go.WideShapes Go.ChangeAt Go.RowKit
open om mem oct bk
set_option linter.unusedVariables false
set_option maxRecDepth 100000

theorem enc_use (A : Option Addr) (a : Nat) (B : Option Addr) (b : Nat) (C : Option Addr) (c : Nat) (z : Zn) (s : Int) (w : World) (h : Zr w A B C z) (hn : z.ty.length ≤ 1000) (bd : Bd z) : Calls Try.prog 8 #[(.agg #[.slice A z.ty.length a, .slice B z.tr.length b, .slice C z.lp.length c, .string z.ft, .int .i64 z.v]), .int .i64 s] w fun e w' => ∃ A1 c1, e = .returned (.tuple #[.slice A1 (enc z s).length c1, .bool (ev z s)]) ∧ Own w.heap.size w' (.slice A1 (enc z s).length c1) (enc z s) ∧ Below w.heap.size w w' :=
  (encode_at A a B b C c z s w h hn bd).mono fun e w' ⟨v, h1, h2, h3⟩ => by
    obtain ⟨A1, c1, rfl⟩ := own_len h2
    exact ⟨A1, c1, h1, h2, h3⟩
/-- what is known of the rows of a zone that was read. -/
def Nw (M : Nat) (W : World) (A B C : Option Addr) (z : Zn) : Prop := Zr W A B C z ∧ (∀ g o, A = some ⟨g, o, none⟩ → M ≤ g) ∧ (∀ g o, B = some ⟨g, o, none⟩ → M ≤ g) ∧ (∀ g o, C = some ⟨g, o, none⟩ → M ≤ g)
theorem dec_use {X : hd.Hd} {l : List Nat} {s : Int} {z : Zn} {r : Bool} (hd' : dv X l s = r) (hz : dec X l s = z) (v : Value) (w : World) (h : RdW w v l) (hb : Bys l) (hn : l.length ≤ 9223372036854775807) (T : lines.ML w) : Calls Try.prog 10 #[(.agg #[.int .i64 X.v, .int .i64 X.ut, .int .i64 X.sd, .int .i64 X.lp, .int .i64 X.tm, .int .i64 X.ty, .int .i64 X.ch]), v, .int .i64 s] w fun e w' => ∃ A a B b C c, e = .returned (.tuple #[(.agg #[.slice A z.ty.length a, .slice B z.tr.length b, .slice C z.lp.length c, .string z.ft, .int .i64 z.v]), .bool r]) ∧ Nw w.heap.size w' A B C z ∧ Below w.heap.size w w' :=
  (decode_at X l v s w h hb hn T).mono fun e w' ⟨v', h1, h2, h3⟩ => by
    rw [hz] at h2
    rw [hd'] at h1
    obtain ⟨A, a, B, b, C, c, rfl, hq, g1, g2, g3⟩ := h2
    exact ⟨A, a, B, b, C, c, h1, ⟨hq, g1, g2, g3⟩, h3⟩
theorem count_use (A : Option Addr) (a : Nat) (B : Option Addr) (b : Nat) (C : Option Addr) (c : Nat) (z : Zn) (w : World) (h : Tys w A z.ty) (hn : z.ty.length ≤ 1000) (bd : Bd z) : Calls Try.prog 6 #[(.agg #[.slice A z.ty.length a, .slice B z.tr.length b, .slice C z.lp.length c, .string z.ft, .int .i64 z.v])] w fun e w' => e = .returned (.tuple #[(.agg #[.int .i64 (cv z).v, .int .i64 (cv z).ut, .int .i64 (cv z).sd, .int .i64 (cv z).lp, .int .i64 (cv z).tm, .int .i64 (cv z).ty, .int .i64 (cv z).ch]), .bool (okC z)]) ∧ Below w.heap.size w w' := count_at A a B b C c z w h hn bd
theorem enc_yes {z : Zn} {s : Int} (h : ev z s = true) : enc z s = dat z s.toNat := if_pos h
theorem enc_no {z : Zn} {s : Int} (h : ev z s = false) : enc z s = [] := if_neg (by rw [h]; decide)
theorem enc_len {z : Zn} {s : Int} (b : Bd z) (h : ev z s = true) : (enc z s).length < 100000 ∧ ((enc z s).length : Int) = hd.sz (cv z) s := by
  have h1 := ev_iff h
  have h2 := (back b h).2.2
  rw [← cv_yes h1.1] at h2
  rw [enc_yes h]
  obtain ⟨n, e, _, h3⟩ := sz_bd (X := cv z) (s := s) (by rw [cv_yes h1.1]; exact h1.1) h1.2.1
  omega
theorem enc_bys {z : Zn} {s : Int} (h : ev z s = true) : Bys (enc z s) := by rw [enc_yes h]; exact dat_bys _ _
theorem enc_dv {z : Zn} {s : Int} (b : Bd z) (h : ev z s = true) : dv (cv z) (enc z s) s = true ∧ dec (cv z) (enc z s) s = noFt z := by
  rw [enc_yes h, cv_yes (ev_iff h).1]
  exact ⟨(back b h).1, dec_back b h⟩
/-- what may be laid by four may be by eight. -/
theorem ev_48 {z : Zn} (h : ev z 4 = true) : ev z 8 = true := by
  obtain ⟨h1, _, h3⟩ := ev_iff h
  obtain ⟨g1, g2, g3, g4⟩ := fitsP h3
  unfold ev sz48 fits
  rw [h1]
  simp only [Bool.true_and, Bool.and_eq_true, List.all_eq_true, Bool.or_eq_true, beq_iff_eq]
  rw [show (4 : Int).toNat = 4 from rfl] at g1 g4
  rw [show (8 : Int).toNat = 8 from rfl]
  refine ⟨by simp, ⟨⟨?_, g2⟩, g3⟩, ?_⟩
  · intro x _
    exact fit_iff.2 (Or.inl rfl)
  · intro x hx
    have := fL_iff (g4 x hx)
    unfold fL
    rw [Bool.and_eq_true]
    exact ⟨fit_iff.2 (Or.inl rfl), this.2⟩
/-- a head's box, whatever memory came behind. -/
theorem hbox (X : hd.Hd) (w W : World) (hb : Below (w.alloc (.cells #[.int .i64 X.v, .int .i64 X.ut, .int .i64 X.sd, .int .i64 X.lp, .int .i64 X.tm, .int .i64 X.ty, .int .i64 X.ch] 28)).heap.size (w.alloc (.cells #[.int .i64 X.v, .int .i64 X.ut, .int .i64 X.sd, .int .i64 X.lp, .int .i64 X.tm, .int .i64 X.ty, .int .i64 X.ch] 28)) W) : W.cell? ⟨w.heap.size, 0, none⟩ = some (.int .i64 X.v) ∧ W.cell? ⟨w.heap.size, 1, none⟩ = some (.int .i64 X.ut) ∧ W.cell? ⟨w.heap.size, 2, none⟩ = some (.int .i64 X.sd) ∧ W.cell? ⟨w.heap.size, 3, none⟩ = some (.int .i64 X.lp) ∧ W.cell? ⟨w.heap.size, 4, none⟩ = some (.int .i64 X.tm) ∧ W.cell? ⟨w.heap.size, 5, none⟩ = some (.int .i64 X.ty) ∧ W.cell? ⟨w.heap.size, 6, none⟩ = some (.int .i64 X.ch) ∧ w.heap.size < W.heap.size := by
  obtain ⟨x0, x1, x2, x3, x4, x5, x6, _, h⟩ := (head.box_tells X w).out W hb
  exact ⟨x0, x1, x2, x3, x4, x5, x6, h⟩
/-- a zone's box, likewise. -/
theorem zbx (A : Option Addr) (a : Nat) (B : Option Addr) (b : Nat) (C : Option Addr) (c : Nat) (z : Zn) (w W : World) (hb : Below (w.alloc (.cells #[.slice A z.ty.length a, .slice B z.tr.length b, .slice C z.lp.length c, .string z.ft, .int .i64 z.v] 26)).heap.size (w.alloc (.cells #[.slice A z.ty.length a, .slice B z.tr.length b, .slice C z.lp.length c, .string z.ft, .int .i64 z.v] 26)) W) : W.cell? ⟨w.heap.size, 0, none⟩ = some (.slice A z.ty.length a) ∧ W.cell? ⟨w.heap.size, 1, none⟩ = some (.slice B z.tr.length b) ∧ W.cell? ⟨w.heap.size, 2, none⟩ = some (.slice C z.lp.length c) ∧ W.cell? ⟨w.heap.size, 3, none⟩ = some (.string z.ft) ∧ W.cell? ⟨w.heap.size, 4, none⟩ = some (.int .i64 z.v) ∧ w.heap.size < W.heap.size := by
  obtain ⟨x0, x1, x2, x3, x4, _, h⟩ := (zbox A a B b C c z w).out W hb
  exact ⟨x0, x1, x2, x3, x4, h⟩
end Go.Proofs.Ytllficloadncfaa.blk
