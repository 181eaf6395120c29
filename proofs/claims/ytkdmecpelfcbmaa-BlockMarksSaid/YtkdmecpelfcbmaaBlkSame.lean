/-
  Zones compared, and Few. Conditions: the zones are read.
-/
import Derived.Test.YtkdmecpelfcbmaaBlkMem
namespace Go.Proofs.Ytkdmecpelfcbmaa.blk
open Go.ChangeShapes Go.WideShapes Go.ChangeAt Go.RowKit
open om mem oct bk
set_option linter.unusedVariables false
set_option maxRecDepth 100000

theorem eqT (a : Int) (b : Bool) (c : ByteArray) (W : World) : (Op.equalIn 10000 46 (.agg #[.int .i64 a, .bool b, .string c]) (.agg #[.int .i64 a, .bool b, .string c])).run Try.prog W = .ok true W := by
  rw [run_equalIn_struct W 9999 46 _ _ (by kernel_rfl) (by kernel_rfl)]
  have hf : Try.prog.fieldsOf 46 = (match Try.prog.underlying 46 with | some (.struct fs) => fs | _ => #[]) := by kernel_rfl
  rw [Try.underlying46] at hf
  simp only at hf
  rw [hf]
  have p0 : ∀ (x : Int) (y : Bool) (z : ByteArray), (part 3 #[.int .i64 x, .bool y, .string z] 0).run Try.prog W = .ok (.int .i64 x) W := fun x y z => by simp [part, isAgg, run_underlying Try.underlying3]
  have p1 : ∀ (x : Int) (y : Bool) (z : ByteArray), (part 4 #[.int .i64 x, .bool y, .string z] 1).run Try.prog W = .ok (.bool y) W := fun x y z => by simp [part, isAgg, run_underlying Try.underlying4]
  have p2 : ∀ (x : Int) (y : Bool) (z : ByteArray), (part 9 #[.int .i64 x, .bool y, .string z] 2).run Try.prog W = .ok (.string z) W := fun x y z => by simp [part, isAgg, run_underlying Try.underlying9]
  have e0 : ∀ x y : Int, (Op.equalIn 9999 3 (.int .i64 x) (.int .i64 y)).run Try.prog W = .ok (x == y) W := fun x y => run_equalIn_int W 9998 3 .i64 .i64 x y Try.underlying3
  have e1 : ∀ x y : Bool, (Op.equalIn 9999 4 (.bool x) (.bool y)).run Try.prog W = .ok (x == y) W := fun x y => run_equalIn_bool' W 9998 4 x y Try.underlying4
  have e2 : ∀ x y : ByteArray, (Op.equalIn 9999 9 (.string x) (.string y)).run Try.prog W = .ok (x.toList == y.toList) W := fun x y => run_equalIn_string W 9998 9 x y Try.underlying9
  simp [Op.eqFields, Sem.run_bind, p0, p1, p2, e0, e1, e2]
theorem eqP (T : TypeId) (hT : T = 48 ∨ T = 50) (a b : Int) (W : World) : (Op.equalIn 10000 T (.agg #[.int .i64 a, .int .i64 b]) (.agg #[.int .i64 a, .int .i64 b])).run Try.prog W = .ok true W := by
  have p0 : ∀ x y : Int, (part 3 #[.int .i64 x, .int .i64 y] 0).run Try.prog W = .ok (.int .i64 x) W := fun x y => by simp [part, isAgg, run_underlying Try.underlying3]
  have p1 : ∀ x y : Int, (part 3 #[.int .i64 x, .int .i64 y] 1).run Try.prog W = .ok (.int .i64 y) W := fun x y => by simp [part, isAgg, run_underlying Try.underlying3]
  have e3 : ∀ x y : Int, (Op.equalIn 9999 3 (.int .i64 x) (.int .i64 y)).run Try.prog W = .ok (x == y) W := fun x y => run_equalIn_int W 9998 3 .i64 .i64 x y Try.underlying3
  rcases hT with rfl | rfl
  · rw [run_equalIn_struct W 9999 48 _ _ (by kernel_rfl) (by kernel_rfl)]
    have hf : Try.prog.fieldsOf 48 = (match Try.prog.underlying 48 with | some (.struct fs) => fs | _ => #[]) := by kernel_rfl
    rw [Try.underlying48] at hf
    simp only at hf
    rw [hf]
    simp [Op.eqFields, Sem.run_bind, p0, p1, e3]
  · rw [run_equalIn_struct W 9999 50 _ _ (by kernel_rfl) (by kernel_rfl)]
    have hf : Try.prog.fieldsOf 50 = (match Try.prog.underlying 50 with | some (.struct fs) => fs | _ => #[]) := by kernel_rfl
    rw [Try.underlying50] at hf
    simp only at hf
    rw [hf]
    simp [Op.eqFields, Sem.run_bind, p0, p1, e3]
def EHead (n : Nat) (w : World) (i : Value) (W : World) : Prop := ∃ k : Nat, k ≤ n ∧ i = .int .i64 (k : Nat) ∧ Below w.heap.size w W
theorem prs_at {W : World} {A : Option Addr} {l : List Pr} (h : Prs W A l) (k : Nat) (hk : k < l.length) : ∃ b o, A = some ⟨b, o, none⟩ ∧ W.cell? ⟨b, o + k * 2, none⟩ = some (.int .i64 l[k].1) ∧ W.cell? ⟨b, o + k * 2 + 1, none⟩ = some (.int .i64 l[k].2) := by
  obtain ⟨b, o, e, _, hc⟩ := h (fun e => by rw [e] at hk; simp at hk)
  exact ⟨b, o, e, hc k hk⟩
theorem tys_at {W : World} {A : Option Addr} {l : List Ty} (h : Tys W A l) (k : Nat) (hk : k < l.length) : ∃ b o, A = some ⟨b, o, none⟩ ∧ W.cell? ⟨b, o + k * 3, none⟩ = some (.int .i64 l[k].off) ∧ W.cell? ⟨b, o + k * 3 + 1, none⟩ = some (.bool l[k].dst) ∧ W.cell? ⟨b, o + k * 3 + 2, none⟩ = some (.string l[k].ab) := by
  obtain ⟨b, o, e, _, hc⟩ := h (fun e => by rw [e] at hk; simp at hk)
  exact ⟨b, o, e, hc k hk⟩
set_option maxHeartbeats 2000000 in
theorem same12_at (l : List Pr) (A B : Option Addr) (c d : Nat) (w : World) (h : Prs w A l) (g : Prs w B l) (hn : l.length ≤ 1000000) : Calls Try.prog 41 #[.slice A l.length c, .slice B l.length d] w fun e w' => e = .returned (.bool true) ∧ Below w.heap.size w w' := by
  have ne : ((l.length : Int) != (l.length : Int)) = false := by simp
  have q := fun a b W => eqP 50 (Or.inr rfl) a b W
  go_enter Try.func41, Try.ntmps41
  go_wp2
  go_loopw [5] (fun i W => EHead l.length w i W) (fun i _ => l.length - (intOf i).toNat)
  case atStart => exact ⟨0, Nat.zero_le _, rfl, Below.refl _ _⟩
  case round =>
    obtain ⟨k, hk, rfl, hb⟩ := hrel
    by_cases hlt : k < l.length
    · obtain ⟨b, o, rfl, x0, x1⟩ := prs_at (h.below hb) k hlt
      obtain ⟨b', o', rfl, y0, y1⟩ := prs_at (g.below hb) k hlt
      clear h g
      generalize l[k].1 = a0 at *
      generalize l[k].2 = a1 at *
      generalize l.length = n at *
      go_wp2_with fail
      go_quiet (fail)
      go_wp2
      go_roundw
      case rel => exact ⟨k + 1, hlt, rfl, bel_drewN hb _⟩
      case measure => simp [intOf]; omega
    · obtain rfl : k = l.length := by omega
      clear h g
      go_wp2
      go_ret
      exact ⟨rfl, hb⟩
set_option maxHeartbeats 4000000 in
theorem same_at (A : Option Addr) (a : Nat) (B : Option Addr) (b : Nat) (C : Option Addr) (c : Nat) (A' : Option Addr) (a' : Nat) (B' : Option Addr) (b' : Nat) (C' : Option Addr) (c' : Nat) (z : Zn) (w : World) (h : Zr w A B C z) (g : Zr w A' B' C' z) (hn : z.ty.length ≤ 1000000 ∧ z.tr.length ≤ 1000000 ∧ z.lp.length ≤ 1000000) : Calls Try.prog 16 #[(.agg #[.slice A z.ty.length a, .slice B z.tr.length b, .slice C z.lp.length c, .string z.ft, .int .i64 z.v]), (.agg #[.slice A' z.ty.length a', .slice B' z.tr.length b', .slice C' z.lp.length c', .string z.ft, .int .i64 z.v])] w fun e w' => e = .returned (.bool true) ∧ Below w.heap.size w w' := by
  obtain ⟨hn1, hn2, hn3⟩ := id hn
  have T1 := zbox A a B b C c z w
  have T2 := zbox A' a' B' b' C' c' z (w.alloc (.cells #[.slice A z.ty.length a, .slice B z.tr.length b, .slice C z.lp.length c, .string z.ft, .int .i64 z.v] 26))
  have n1 : ((z.ty.length : Int) != (z.ty.length : Int)) = false := by simp
  have n2 : ((z.tr.length : Int) != (z.tr.length : Int)) = false := by simp
  have n3 : (z.ft.toList != z.ft.toList) = false := by simp
  have n4 : (z.v != z.v) = false := by simp
  have q1 := eqT
  have q2 := fun a b W => eqP 48 (Or.inl rfl) a b W
  have hb0 : Below w.heap.size w ((w.alloc (.cells #[.slice A z.ty.length a, .slice B z.tr.length b, .slice C z.lp.length c, .string z.ft, .int .i64 z.v] 26)).alloc (.cells #[.slice A' z.ty.length a', .slice B' z.tr.length b', .slice C' z.lp.length c', .string z.ft, .int .i64 z.v] 26)) := bal (bal (Below.refl _ _) _) _
  have XB : Hid (∀ W, Below ((w.alloc (.cells #[.slice A z.ty.length a, .slice B z.tr.length b, .slice C z.lp.length c, .string z.ft, .int .i64 z.v] 26)).alloc (.cells #[.slice A' z.ty.length a', .slice B' z.tr.length b', .slice C' z.lp.length c', .string z.ft, .int .i64 z.v] 26)).heap.size ((w.alloc (.cells #[.slice A z.ty.length a, .slice B z.tr.length b, .slice C z.lp.length c, .string z.ft, .int .i64 z.v] 26)).alloc (.cells #[.slice A' z.ty.length a', .slice B' z.tr.length b', .slice C' z.lp.length c', .string z.ft, .int .i64 z.v] 26)) W → Below w.heap.size w W ∧ Tys W A z.ty ∧ Tys W A' z.ty ∧ Prs W B z.tr ∧ Prs W B' z.tr ∧ Prs W C z.lp ∧ Prs W C' z.lp ∧ W.cell? ⟨w.heap.size, 0, none⟩ = some (.slice A z.ty.length a) ∧ W.cell? ⟨w.heap.size, 1, none⟩ = some (.slice B z.tr.length b) ∧ W.cell? ⟨w.heap.size, 2, none⟩ = some (.slice C z.lp.length c) ∧ W.cell? ⟨w.heap.size + 1, 0, none⟩ = some (.slice A' z.ty.length a') ∧ W.cell? ⟨w.heap.size + 1, 1, none⟩ = some (.slice B' z.tr.length b') ∧ W.cell? ⟨w.heap.size + 1, 2, none⟩ = some (.slice C' z.lp.length c')) := Lib.hid fun W hb => by
    have hbw := btr hb0 hb
    obtain ⟨x0, x1, x2, _⟩ := T1.out _ (btr (bal (Below.refl _ _) _) hb)
    obtain ⟨y0, y1, y2, _⟩ := T2.out _ hb
    rw [World.size_alloc] at y0 y1 y2
    exact ⟨hbw, h.ty.below hbw, g.ty.below hbw, h.tr.below hbw, g.tr.below hbw, h.lp.below hbw, g.lp.below hbw, x0, x1, x2, y0, y1, y2⟩
  have C12 := Lib.hid (fun W h g => same12_at z.lp C C' c c' W h g hn.2.2)
  clear T1 T2 hb0 h g hn
  obtain ⟨ty, tr, lp, ft, v⟩ := z
  simp only at *
  go_enter Try.func16, Try.ntmps16
  go_wp2
  generalize hW0 : ((w.alloc (.cells #[.slice A ty.length a, .slice B tr.length b, .slice C lp.length c, .string ft, .int .i64 v] 26)).alloc (.cells #[.slice A' ty.length a', .slice B' tr.length b', .slice C' lp.length c', .string ft, .int .i64 v] 26)) = W0 at *
  clear hW0
  go_loopw [5] (fun i W => EHead ty.length W0 i W) (fun i _ => ty.length - (intOf i).toNat)
  case atStart => exact ⟨0, Nat.zero_le _, rfl, Below.refl _ _⟩
  case round =>
    obtain ⟨k, hk, rfl, hb⟩ := hrel
    obtain ⟨hbw, tA, tA', -, -, -, -, u0, u1, u2, v0, v1, v2⟩ := XB.out _ hb
    by_cases hlt : k < ty.length
    · obtain ⟨b1, o1, rfl, x0, x1, x2⟩ := tys_at tA k hlt
      obtain ⟨b2, o2, rfl, y0, y1, y2⟩ := tys_at tA' k hlt
      clear tA tA' XB C12 hbw
      generalize ty[k].off = a0 at *
      generalize ty[k].dst = a1 at *
      generalize ty[k].ab = a2 at *
      generalize ty.length = n at *
      go_wp2_with fail
      go_quiet (fail)
      go_wp2
      go_roundw
      case rel => exact ⟨k + 1, hlt, rfl, bel_drewN hb _⟩
      case measure => simp [intOf]; omega
    · obtain rfl : k = ty.length := by omega
      clear tA tA' hbw
      go_wp2
      have HB0 := Lib.hid hb
      clear hb u0 u1 u2 v0 v1 v2
      generalize wr = W1 at *
      go_loopw [6] (fun i W => EHead tr.length W0 i W) (fun i _ => tr.length - (intOf i).toNat)
      case atStart => exact ⟨0, Nat.zero_le _, rfl, HB0.out⟩
      case round =>
        obtain ⟨k, hk, rfl, hb⟩ := hrel
        obtain ⟨hbw, -, -, tB, tB', tC, tC', u0, u1, u2, v0, v1, v2⟩ := XB.out _ hb
        by_cases hlt : k < tr.length
        · obtain ⟨b1, o1, rfl, x0, x1⟩ := prs_at tB k hlt
          obtain ⟨b2, o2, rfl, y0, y1⟩ := prs_at tB' k hlt
          clear tB tB' tC tC' XB C12 hbw
          generalize tr[k].1 = a0 at *
          generalize tr[k].2 = a1 at *
          generalize tr.length = n at *
          go_wp2_with fail
          go_quiet (fail)
          go_wp2
          go_roundw
          case rel => exact ⟨k + 1, hlt, rfl, bel_drewN hb _⟩
          case measure => simp [intOf]; omega
        · obtain rfl : k = tr.length := by omega
          have D := Lib.hid (C12.out _ tC tC')
          have HW := Lib.hid hbw
          clear tB tB' tC tC' hbw
          go_wp2_with (go_at_call 41; (with_reducible refine D.out.mono ?_); rintro e w1 ⟨rfl, hb1⟩)
          go_ret
          exact ⟨rfl, btr HW.out hb1⟩
/-- has it few parts, with short names? -/
def fewB (z : Zn) : Bool := (z.ty.take 100).all (fun t => decide (t.ab.size ≤ 100)) && decide (z.ty.length ≤ 100) && decide (z.tr.length ≤ 300) && decide (z.lp.length ≤ 300) && decide (z.ft.size ≤ 200)
theorem few_len {z : Zn} (h : fewB z = true) : z.ty.length ≤ 100 ∧ z.tr.length ≤ 300 ∧ z.lp.length ≤ 300 := by
  unfold fewB at h
  simp only [Bool.and_eq_true, decide_eq_true_eq] at h
  exact ⟨h.1.1.1.2, h.1.1.2, h.1.2⟩
theorem few_not {z : Zn} {k : Nat} (hk : k < z.ty.length) (h1 : k < 100) (h : ¬ z.ty[k].ab.size ≤ 100) : fewB z = false := by
  rw [Bool.eq_false_iff]
  intro e
  unfold fewB at e
  simp only [Bool.and_eq_true, List.all_eq_true, decide_eq_true_eq] at e
  exact h (e.1.1.1.1 _ (List.mem_take_iff_getElem.2 ⟨k, by omega, rfl⟩))
theorem few_is {z : Zn} (h : ∀ k (h : k < z.ty.length), k < 100 → z.ty[k].ab.size ≤ 100) : fewB z = (decide (z.ty.length ≤ 100) && decide (z.tr.length ≤ 300) && decide (z.lp.length ≤ 300) && decide (z.ft.size ≤ 200)) := by
  unfold fewB
  have : (z.ty.take 100).all (fun t => decide (t.ab.size ≤ 100)) = true := by
    rw [List.all_eq_true]
    intro t ht
    obtain ⟨k, hk, rfl⟩ := List.mem_take_iff_getElem.1 ht
    exact decide_eq_true (h k (by omega) (by omega))
  rw [this, Bool.true_and]
def FwHead (l : List Ty) (i : Value) : Prop := ∃ j : Nat, j ≤ l.length ∧ i = .int .i64 (j : Nat) ∧ ∀ k (h : k < l.length), k < j → l[k].ab.size ≤ 100
set_option maxHeartbeats 4000000 in
theorem few_at (A : Option Addr) (a : Nat) (B : Option Addr) (b : Nat) (C : Option Addr) (c : Nat) (z : Zn) (w : World) (h : Tys w A z.ty) : Calls Try.prog 9 #[(.agg #[.slice A z.ty.length a, .slice B z.tr.length b, .slice C z.lp.length c, .string z.ft, .int .i64 z.v])] w fun e w' => e = .returned (.bool (fewB z)) ∧ Below w.heap.size w w' := by
  have FI := Lib.hid (few_is (z := z))
  have FN := Lib.hid (fun k hk h1 h => few_not (z := z) (k := k) hk h1 h)
  have hb0 := Lib.hid (bal (Below.refl w.heap.size w) (.cells #[.slice A z.ty.length a, .slice B z.tr.length b, .slice C z.lp.length c, .string z.ft, .int .i64 z.v] 26))
  have h0 := h.below hb0.out
  generalize fewB z = FB at *
  obtain ⟨l, tr, lp, ft, v⟩ := z
  simp only at *
  clear h
  go_enter Try.func9, Try.ntmps9
  go_wp2
  go_loop [3] (fun i => FwHead l i) (fun i => l.length - (intOf i).toNat)
  case atStart => exact ⟨0, Nat.zero_le _, rfl, fun k h h' => by omega⟩
  case round =>
    obtain ⟨j, hj, rfl, hok⟩ := hrel
    by_cases hlt : j < l.length ∧ j < 100
    · obtain ⟨h1, h2⟩ := hlt
      obtain ⟨b1, o1, rfl, x0, x1, x2⟩ := tys_at h0 j h1
      by_cases hs : l[j].ab.size ≤ 100
      · have R : Hid (FwHead l (.int .i64 ((j : Int) + 1))) := Lib.hid ⟨j + 1, h1, rfl, fun k hk hk' => (Nat.lt_succ_iff_lt_or_eq.1 hk').elim (hok k hk) (fun e => by subst e; exact hs)⟩
        clear hok h0 FI FN
        generalize l[j].ab = s at *
        generalize l[j].off = s0 at *
        generalize l[j].dst = s1 at *
        go_wp2
        first
          | exact ⟨R.out, by simp [intOf]; omega⟩
          | (go_round; (case rel => exact R.out); (case measure => simp [intOf]; omega))
      · have E := Lib.hid (FN.out j h1 h2 hs)
        have hs' : 100 < l[j].ab.size := by omega
        clear hok h0 FI FN hs
        generalize l[j].ab = s at *
        generalize l[j].off = s0 at *
        generalize l[j].dst = s1 at *
        go_wp2
        go_ret
        exact ⟨(congrArg (fun b => Ending.returned (Value.bool b)) E.out).symm, hb0.out⟩
    · have E := Lib.hid (FI.out (fun k hk h1 => hok k hk (by omega)))
      clear hok h0 FI FN
      by_cases g : j < l.length
      · have g2 : ¬ j < 100 := fun h => hlt ⟨g, h⟩
        have g3 : decide (l.length ≤ 100) = false := decide_eq_false (by omega)
        rw [g3] at E
        have g4 : 100 < l.length := by omega
        clear hlt g3
        go_wp2
        go_ret
        exact ⟨(congrArg (fun b => Ending.returned (Value.bool b)) E.out).symm, hb0.out⟩
      · obtain rfl : j = l.length := by omega
        clear hlt g
        by_cases c1 : l.length ≤ 100 <;> by_cases c2 : tr.length ≤ 300 <;> by_cases c3 : lp.length ≤ 300 <;> by_cases c4 : ft.size ≤ 200
        all_goals simp only [c1, c2, c3, c4, decide_true, decide_false] at E
        all_goals first
          | (have c6 : decide ((ft.size : Int) ≤ 200) = true := decide_eq_true (by omega))
          | (have c6 : decide ((ft.size : Int) ≤ 200) = false := decide_eq_false (by omega))
        all_goals
          clear c4
          go_wp2
          go_ret
          exact ⟨(congrArg (fun b => Ending.returned (Value.bool b)) E.out).symm, hb0.out⟩
end Go.Proofs.Ytkdmecpelfcbmaa.blk
