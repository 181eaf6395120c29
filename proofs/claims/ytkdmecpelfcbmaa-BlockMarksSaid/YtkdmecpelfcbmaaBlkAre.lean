/-
  What isMark and areMarks answer. Conditions: the slices read as bytes.
-/
import Derived.Test.YtkdmecpelfcbmaaBlkMem
namespace Go.Proofs.Ytkdmecpelfcbmaa.blk
open Go.ChangeShapes Go.WideShapes Go.ChangeAt Go.RowKit
open om mem oct bk
set_option linter.unusedVariables false
set_option maxRecDepth 100000

theorem ismark_at (n : Int) (W : World) : Calls Try.prog 54 #[.int .i64 n] W fun e w' => e = .returned (.bool (mkB n)) ∧ W = w' := by
  by_cases h0 : n = 0
  · subst h0
    go_enter Try.func54, Try.ntmps54
    go_wp2
    go_ret
    exact ⟨rfl, rfl⟩
  · have t0 : (n == 0) = false := by simpa using h0
    have e : mkB n = (n == 1) := by unfold mkB; rw [t0]; rfl
    rw [e]
    generalize hq : (n == 1) = q at *
    clear h0 e
    go_enter Try.func54, Try.ntmps54
    go_wp2
    go_ret
    first | exact ⟨rfl, rfl⟩ | exact ⟨by rw [hq], rfl⟩
/-- a byte of a slice. -/
theorem rdw_at {W : World} {A : Option Addr} {c : Nat} {l : List Nat} (h : RdW W (.slice A l.length c) l) (k : Nat) (hk : k < l.length) : ∃ b o, A = some ⟨b, o, none⟩ ∧ W.cell? ⟨b, o + k, none⟩ = some (.int .u8 (l[k] : Nat)) := by
  obtain ⟨A', c', e, _, _, hr⟩ := h
  cases e
  obtain ⟨b, o, e, hc⟩ := hr (fun e => by rw [e] at hk; simp at hk)
  exact ⟨b, o, e, hc k hk⟩
theorem rdw_form {W : World} {v : Value} {l : List Nat} (h : RdW W v l) : ∃ A c, v = .slice A l.length c := by
  obtain ⟨A, c, e, _⟩ := h
  exact ⟨A, c, e⟩
def AHead (f : Nat → Bool) (n : Nat) (i : Value) : Prop := ∃ j : Nat, j ≤ n ∧ i = .int .i64 (j : Nat) ∧ ∀ k, k < j → f k = true
theorem ahead_step {f : Nat → Bool} {n j : Nat} (h : j < n) (ha : ∀ k, k < j → f k = true) (hj : f j = true) : AHead f n (.int .i64 ((j : Int) + 1)) :=
  ⟨j + 1, h, rfl, fun k hk => (Nat.lt_succ_iff_lt_or_eq.1 hk).elim (ha k) (fun e => e ▸ hj)⟩
theorem mks_range (l : List Nat) : mksB l = (List.range l.length).all (fun k => mkB (l.getD k 0 : Nat)) := by
  rw [Bool.eq_iff_iff]
  unfold mksB
  simp only [List.all_eq_true, List.mem_range]
  constructor
  · intro h k hk
    rw [List.getD_eq_getElem?_getD, List.getElem?_eq_getElem hk]
    exact h _ (List.getElem_mem hk)
  · intro h x hx
    obtain ⟨k, hk, rfl⟩ := List.getElem_of_mem hx
    have := h k hk
    rw [List.getD_eq_getElem?_getD, List.getElem?_eq_getElem hk] at this
    exact this
theorem am_no1 {a u : List Nat} {k : Nat} (hk : k < a.length) (h : mkB (a[k] : Nat) = false) : amB a u = false := by
  rw [Bool.eq_false_iff]
  intro e
  unfold amB at e
  rw [Bool.and_eq_true, mks_range, List.all_eq_true] at e
  have := e.1 k (List.mem_range.2 hk)
  rw [List.getD_eq_getElem?_getD, List.getElem?_eq_getElem hk] at this
  simp only [Option.getD_some] at this
  rw [h] at this
  cases this
theorem am_no2 {a u : List Nat} {k : Nat} (hk : k < u.length) (h : utB a u k = false) : amB a u = false := by
  rw [Bool.eq_false_iff]
  intro e
  unfold amB at e
  rw [Bool.and_eq_true, List.all_eq_true] at e
  have := e.2 k (List.mem_range.2 hk)
  rw [h] at this
  cases this
theorem am_yes {a u : List Nat} (h1 : ∀ k, k < a.length → mkB (a.getD k 0 : Nat) = true) (h2 : ∀ k, k < u.length → utB a u k = true) : amB a u = true := by
  unfold amB
  rw [mks_range, Bool.and_eq_true, List.all_eq_true, List.all_eq_true]
  exact ⟨fun k hk => h1 k (List.mem_range.1 hk), fun k hk => h2 k (List.mem_range.1 hk)⟩
set_option maxHeartbeats 2000000 in
theorem are_at (a u : List Nat) (v1 v2 : Value) (W : World) (h1 : RdW W v1 a) (h2 : RdW W v2 u) (ha : Bys a) (hu : Bys u) (na : a.length < 1000000) (nu : u.length < 1000000) : Calls Try.prog 34 #[v1, v2] W fun e w' => e = .returned (.bool (amB a u)) ∧ W = w' := by
  obtain ⟨A, c, rfl⟩ := rdw_form h1
  obtain ⟨U, d, rfl⟩ := rdw_form h2
  have IM := Lib.hid (fun n => ismark_at n W)
  go_enter Try.func34, Try.ntmps34
  go_wp2
  go_loop [10] (fun i => AHead (fun k => mkB (a.getD k 0 : Nat)) a.length i) (fun i => a.length - (intOf i).toNat)
  case atStart => exact ⟨0, Nat.zero_le _, rfl, fun k h => by omega⟩
  case round =>
    obtain ⟨j, hj, rfl, hok⟩ := hrel
    by_cases hlt : j < a.length
    · obtain ⟨b, o, rfl, x0⟩ := rdw_at h1 j hlt
      have e0 : a.getD j 0 = a[j] := by rw [List.getD_eq_getElem?_getD, List.getElem?_eq_getElem hlt]; rfl
      have hx := ha _ (List.getElem_mem hlt)
      have IM1 := Lib.hid (IM.out (a[j] : Nat))
      cases hm : mkB (a[j] : Nat) with
      | true =>
        have R := Lib.hid (ahead_step hlt hok (by rw [e0]; exact hm))
        rw [hm] at IM1
        clear hok hm e0 h1 h2 ha hu
        generalize a[j] = x at *
        go_wp2_with (go_at_call 54; (with_reducible refine IM1.out.mono ?_); rintro e w' ⟨rfl, rfl⟩)
        go_round
        case rel => exact R.out
        case measure => simp [intOf]; omega
      | false =>
        have E := Lib.hid (am_no1 (u := u) hlt hm)
        rw [hm] at IM1
        clear hok hm e0 h1 h2 ha hu
        generalize a[j] = x at *
        go_wp2_with (go_at_call 54; (with_reducible refine IM1.out.mono ?_); rintro e w' ⟨rfl, rfl⟩)
        go_ret
        exact ⟨(congrArg (fun b => Ending.returned (Value.bool b)) E.out).symm, rfl⟩
    · obtain rfl : j = a.length := by omega
      have HA := Lib.hid hok
      clear hok
      go_wp2
      go_loop [23] (fun i => AHead (utB a u) u.length i) (fun i => u.length - (intOf i).toNat)
      case atStart => exact ⟨0, Nat.zero_le _, rfl, fun k h => by omega⟩
      case round =>
        obtain ⟨k, hk, rfl, hok⟩ := hrel
        by_cases hlt : k < u.length
        · obtain ⟨b, o, rfl, x0⟩ := rdw_at h2 k hlt
          have e0 : u.getD k 0 = u[k] := by rw [List.getD_eq_getElem?_getD, List.getElem?_eq_getElem hlt]; rfl
          have hx := hu _ (List.getElem_mem hlt)
          have IM1 := Lib.hid (IM.out (u[k] : Nat))
          have q1 : ((u[k] : Int) == 1) = (u[k] == 1) := by rw [Bool.eq_iff_iff]; simp only [beq_iff_eq]; omega
          by_cases hka : k < a.length
          · obtain ⟨b', o', rfl, y0⟩ := rdw_at h1 k hka
            have hy := ha _ (List.getElem_mem hka)
            have q2 : ((a[k] : Int) == 1) = (a[k] == 1) := by rw [Bool.eq_iff_iff]; simp only [beq_iff_eq]; omega
            have ea : a.getD k 0 = a[k] := by rw [List.getD_eq_getElem?_getD, List.getElem?_eq_getElem hka]; rfl
            have eu : utB a u k = (mkB (u[k] : Nat) && !(u[k] == 1 && !(a[k] == 1))) := by
              unfold utB
              rw [e0, ea, decide_eq_true hka, Bool.true_and]
            have R := Lib.hid (fun h => ahead_step (f := utB a u) hlt hok h)
            have E := Lib.hid (fun h => am_no2 (a := a) (u := u) (k := k) hlt h)
            rw [eu] at R E
            clear hok e0 eu ea h1 h2 ha hu HA
            generalize mkB (u[k] : Nat) = m at *
            generalize (u[k] == 1) = p at *
            generalize (a[k] == 1) = r at *
            generalize u[k] = x at *
            generalize a[k] = y at *
            cases m <;> cases p <;> cases r
            all_goals (go_wp2_with (go_at_call 54; (with_reducible refine IM1.out.mono ?_); rintro e w' ⟨rfl, rfl⟩))
            all_goals first
              | (go_ret; exact ⟨(congrArg (fun b => Ending.returned (Value.bool b)) (E.out rfl)).symm, rfl⟩)
              | (go_round; (case rel => exact R.out rfl); (case measure => simp [intOf]; omega))
          · have ea : decide (k < a.length) = false := decide_eq_false hka
            have eu : utB a u k = (mkB (u[k] : Nat) && !(u[k] == 1)) := by
              unfold utB
              rw [e0, ea, Bool.false_and, Bool.not_false, Bool.and_true]
            have R := Lib.hid (fun h => ahead_step (f := utB a u) hlt hok h)
            have E := Lib.hid (fun h => am_no2 (a := a) (u := u) (k := k) hlt h)
            rw [eu] at R E
            clear hok e0 eu ea h1 h2 ha hu HA
            generalize mkB (u[k] : Nat) = m at *
            generalize (u[k] == 1) = p at *
            generalize u[k] = x at *
            cases m <;> cases p
            all_goals (go_wp2_with (go_at_call 54; (with_reducible refine IM1.out.mono ?_); rintro e w' ⟨rfl, rfl⟩))
            all_goals first
              | (go_ret; exact ⟨(congrArg (fun b => Ending.returned (Value.bool b)) (E.out rfl)).symm, rfl⟩)
              | (go_round; (case rel => exact R.out rfl); (case measure => simp [intOf]; omega))
        · obtain rfl : k = u.length := by omega
          have E := Lib.hid (am_yes HA.out hok)
          clear hok HA h1 h2
          go_wp2
          go_ret
          exact ⟨(congrArg (fun b => Ending.returned (Value.bool b)) E.out).symm, rfl⟩
end Go.Proofs.Ytkdmecpelfcbmaa.blk
