/-
  What isMark and areMarks answer. Conditions: the slices read as bytes.
-/
import Derived.Test.YtllficloadncfaaG09
import Derived.Test.YtllficloadncfaaG10
import Derived.Test.YtllficloadncfaaG13
import Derived.BigRegion
namespace Go.Proofs.Ytllficloadncfaa.blk
open Go.ChangeShapes Go.WideShapes Go.ChangeAt Go.RowKit
open om mem oct bk
set_option linter.unusedVariables false
set_option maxRecDepth 100000

theorem ismark_at (n : Int) (W : World) : Calls Try.prog 50 #[.int .i64 n] W fun e w' => e = .returned (.bool (mkB n)) ∧ W = w' := by
  by_cases h0 : n = 0
  · subst h0
    go_enter Try.func50, Try.ntmps50
    go_wp2
    go_ret
    exact ⟨rfl, rfl⟩
  · have t0 : (n == 0) = false := by simpa using h0
    have e : mkB n = (n == 1) := by unfold mkB; rw [t0]; rfl
    rw [e]
    generalize hq : (n == 1) = q at *
    clear h0 e
    go_enter Try.func50, Try.ntmps50
    go_wp2
    go_ret
    first | exact ⟨rfl, rfl⟩ | exact ⟨by rw [hq], rfl⟩
/-- a byte of a slice. -/
theorem rdw_at {W : World} {A : Option Addr} {c : Nat} {l : List Nat} (h : RdW W (.slice A l.length c) l) (k : Nat) (hk : k < l.length) : ∃ b o, A = some ⟨b, o, none⟩ ∧ W.cell? ⟨b, o + k, none⟩ = some (.int .u8 (l[k] : Nat)) := by
  obtain ⟨A', c', e, _, _, hr⟩ := h
  cases e
  obtain ⟨b, o, e, hc⟩ := hr (fun e => by rw [e] at hk; simp at hk)
  exact ⟨b, o, e, hc k hk⟩
theorem rdw_form {W : World} {v : Value} {l : List Nat} (h : RdW W v l) : ∃ A c, v = .slice A l.length c := by
  obtain ⟨A, c, e, _⟩ := h
  exact ⟨A, c, e⟩
def AHead (f : Nat → Bool) (n : Nat) (i : Value) : Prop := ∃ j : Nat, j ≤ n ∧ i = .int .i64 (j : Nat) ∧ ∀ k, k < j → f k = true
theorem ahead_step {f : Nat → Bool} {n j : Nat} (h : j < n) (ha : ∀ k, k < j → f k = true) (hj : f j = true) : AHead f n (.int .i64 ((j : Int) + 1)) :=
  ⟨j + 1, h, rfl, fun k hk => (Nat.lt_succ_iff_lt_or_eq.1 hk).elim (ha k) (fun e => e ▸ hj)⟩
theorem mks_range (l : List Nat) : mksB l = (List.range l.length).all (fun k => mkB (l.getD k 0 : Nat)) := by
  rw [Bool.eq_iff_iff]
  unfold mksB
  simp only [List.all_eq_true, List.mem_range]
  constructor
  · intro h k hk
    rw [List.getD_eq_getElem?_getD, List.getElem?_eq_getElem hk]
    exact h _ (List.getElem_mem hk)
  · intro h x hx
    obtain ⟨k, hk, rfl⟩ := List.getElem_of_mem hx
    have := h k hk
    rw [List.getD_eq_getElem?_getD, List.getElem?_eq_getElem hk] at this
    exact this
theorem am_no1 {a u : List Nat} {k : Nat} (hk : k < a.length) (h : mkB (a[k] : Nat) = false) : amB a u = false := by
  rw [Bool.eq_false_iff]
  intro e
  unfold amB at e
  rw [Bool.and_eq_true, mks_range, List.all_eq_true] at e
  have := e.1 k (List.mem_range.2 hk)
  rw [List.getD_eq_getElem?_getD, List.getElem?_eq_getElem hk] at this
  simp only [Option.getD_some] at this
  rw [h] at this
  cases this
theorem am_no2 {a u : List Nat} {k : Nat} (hk : k < u.length) (h : utB a u k = false) : amB a u = false := by
  rw [Bool.eq_false_iff]
  intro e
  unfold amB at e
  rw [Bool.and_eq_true, List.all_eq_true] at e
  have := e.2 k (List.mem_range.2 hk)
  rw [h] at this
  cases this
theorem am_yes {a u : List Nat} (h1 : ∀ k, k < a.length → mkB (a.getD k 0 : Nat) = true) (h2 : ∀ k, k < u.length → utB a u k = true) : amB a u = true := by
  unfold amB
  rw [mks_range, Bool.and_eq_true, List.all_eq_true, List.all_eq_true]
  exact ⟨fun k hk => h1 k (List.mem_range.1 hk), fun k hk => h2 k (List.mem_range.1 hk)⟩
set_option maxHeartbeats 2000000 in
theorem are_at (a u : List Nat) (v1 v2 : Value) (W : World) (h1 : RdW W v1 a) (h2 : RdW W v2 u) (ha : Bys a) (hu : Bys u) (na : a.length < 1000000) (nu : u.length < 1000000) : Calls Try.prog 30 #[v1, v2] W fun e w' => e = .returned (.bool (amB a u)) ∧ W = w' := by
  obtain ⟨A, c, rfl⟩ := rdw_form h1
  obtain ⟨U, d, rfl⟩ := rdw_form h2
  have IM := Lib.hid (fun n => ismark_at n W)
  go_enter Try.func30, Try.ntmps30
  go_wp2
  go_loop [10] (fun i => AHead (fun k => mkB (a.getD k 0 : Nat)) a.length i) (fun i => a.length - (intOf i).toNat)
  case atStart => exact ⟨0, Nat.zero_le _, rfl, fun k h => by omega⟩
  case round =>
    obtain ⟨j, hj, rfl, hok⟩ := hrel
    by_cases hlt : j < a.length
    · obtain ⟨b, o, rfl, x0⟩ := rdw_at h1 j hlt
      have e0 : a.getD j 0 = a[j] := by rw [List.getD_eq_getElem?_getD, List.getElem?_eq_getElem hlt]; rfl
      have hx := ha _ (List.getElem_mem hlt)
      have IM1 := Lib.hid (IM.out (a[j] : Nat))
      cases hm : mkB (a[j] : Nat) with
      | true =>
        have R := Lib.hid (ahead_step hlt hok (by rw [e0]; exact hm))
        rw [hm] at IM1
        clear hok hm e0 h1 h2 ha hu
        generalize a[j] = x at *
        go_wp2_with (go_at_call 50; (with_reducible refine IM1.out.mono ?_); rintro e w' ⟨rfl, rfl⟩)
        go_round
        case rel => exact R.out
        case measure => simp [intOf]; omega
      | false =>
        have E := Lib.hid (am_no1 (u := u) hlt hm)
        rw [hm] at IM1
        clear hok hm e0 h1 h2 ha hu
        generalize a[j] = x at *
        go_wp2_with (go_at_call 50; (with_reducible refine IM1.out.mono ?_); rintro e w' ⟨rfl, rfl⟩)
        go_ret
        exact ⟨(congrArg (fun b => Ending.returned (Value.bool b)) E.out).symm, rfl⟩
    · obtain rfl : j = a.length := by omega
      have HA := Lib.hid hok
      clear hok
      go_wp2
      go_loop [23] (fun i => AHead (utB a u) u.length i) (fun i => u.length - (intOf i).toNat)
      case atStart => exact ⟨0, Nat.zero_le _, rfl, fun k h => by omega⟩
      case round =>
        obtain ⟨k, hk, rfl, hok⟩ := hrel
        by_cases hlt : k < u.length
        · obtain ⟨b, o, rfl, x0⟩ := rdw_at h2 k hlt
          have e0 : u.getD k 0 = u[k] := by rw [List.getD_eq_getElem?_getD, List.getElem?_eq_getElem hlt]; rfl
          have hx := hu _ (List.getElem_mem hlt)
          have IM1 := Lib.hid (IM.out (u[k] : Nat))
          have q1 : ((u[k] : Int) == 1) = (u[k] == 1) := by rw [Bool.eq_iff_iff]; simp only [beq_iff_eq]; omega
          by_cases hka : k < a.length
          · obtain ⟨b', o', rfl, y0⟩ := rdw_at h1 k hka
            have hy := ha _ (List.getElem_mem hka)
            have q2 : ((a[k] : Int) == 1) = (a[k] == 1) := by rw [Bool.eq_iff_iff]; simp only [beq_iff_eq]; omega
            have ea : a.getD k 0 = a[k] := by rw [List.getD_eq_getElem?_getD, List.getElem?_eq_getElem hka]; rfl
            have eu : utB a u k = (mkB (u[k] : Nat) && !(u[k] == 1 && !(a[k] == 1))) := by
              unfold utB
              rw [e0, ea, decide_eq_true hka, Bool.true_and]
            have R := Lib.hid (fun h => ahead_step (f := utB a u) hlt hok h)
            have E := Lib.hid (fun h => am_no2 (a := a) (u := u) (k := k) hlt h)
            rw [eu] at R E
            clear hok e0 eu ea h1 h2 ha hu HA
            generalize mkB (u[k] : Nat) = m at *
            generalize (u[k] == 1) = p at *
            generalize (a[k] == 1) = r at *
            generalize u[k] = x at *
            generalize a[k] = y at *
            cases m <;> cases p <;> cases r
            all_goals (go_wp2_with (go_at_call 50; (with_reducible refine IM1.out.mono ?_); rintro e w' ⟨rfl, rfl⟩))
            all_goals first
              | (go_ret; exact ⟨(congrArg (fun b => Ending.returned (Value.bool b)) (E.out rfl)).symm, rfl⟩)
              | (go_round; (case rel => exact R.out rfl); (case measure => simp [intOf]; omega))
          · have ea : decide (k < a.length) = false := decide_eq_false hka
            have eu : utB a u k = (mkB (u[k] : Nat) && !(u[k] == 1)) := by
              unfold utB
              rw [e0, ea, Bool.false_and, Bool.not_false, Bool.and_true]
            have R := Lib.hid (fun h => ahead_step (f := utB a u) hlt hok h)
            have E := Lib.hid (fun h => am_no2 (a := a) (u := u) (k := k) hlt h)
            rw [eu] at R E
            clear hok e0 eu ea h1 h2 ha hu HA
            generalize mkB (u[k] : Nat) = m at *
            generalize (u[k] == 1) = p at *
            generalize u[k] = x at *
            cases m <;> cases p
            all_goals (go_wp2_with (go_at_call 50; (with_reducible refine IM1.out.mono ?_); rintro e w' ⟨rfl, rfl⟩))
            all_goals first
              | (go_ret; exact ⟨(congrArg (fun b => Ending.returned (Value.bool b)) (E.out rfl)).symm, rfl⟩)
              | (go_round; (case rel => exact R.out rfl); (case measure => simp [intOf]; omega))
        · obtain rfl : k = u.length := by omega
          have E := Lib.hid (am_yes HA.out hok)
          clear hok HA h1 h2
          go_wp2
          go_ret
          exact ⟨(congrArg (fun b => Ending.returned (Value.bool b)) E.out).symm, rfl⟩
end Go.Proofs.Ytllficloadncfaa.blk

/-
  What package abbr's At answers: the name that begins at a place of a pool. Conditions: the library's variable MaxLen holds some number; the pool is shorter than what the library's Cut is known for.
-/
namespace Go.Proofs.Ytllficloadncfaa.abr
open Go.ChangeShapes Go.WideShapes Go.ChangeAt Go.RowKit
open lx ab mem
set_option linter.unusedVariables false
set_option maxRecDepth 100000

def nul : ByteArray := ⟨#[0]⟩
theorem L_nul : L nul = [0] := rfl
theorem occ_nul (l : List UInt8) (j : Nat) : Lib.occAt l [0] j = decide (l[j]? = some 0) := by
  unfold Lib.occAt
  by_cases h : j < l.length
  · rw [List.drop_eq_getElem_cons h, List.getElem?_eq_getElem h]
    generalize l[j] = c
    by_cases e : c = 0
    · subst e; simp
    · rw [List.isPrefixOf_cons_cons, beq_eq_false_iff_ne.2 (fun k => e k.symm), Bool.false_and, decide_eq_false (fun k => e (Option.some.inj k))]
  · rw [List.drop_of_length_le (by omega), List.getElem?_eq_none (by omega)]
    simp
theorem cut_hit {s : ByteArray} {i : Nat} (h : Hit s nul i) : cutZ (L s) = some (L (s.extract 0 i)) := by
  have e := congrArg L (hit_parts h)
  rw [L_app, L_app, L_nul] at e
  have no : ∀ c ∈ L (s.extract 0 i), c ≠ 0 := by
    intro c hc k
    subst k
    obtain ⟨j, hj, he⟩ := List.getElem_of_mem hc
    have h1 : j < i := by rw [L_ext] at hj; simp at hj; omega
    have := h.2.2.2 j h1
    rw [L_nul, occ_nul] at this
    have k := of_decide_eq_false this
    apply k
    rw [← e, List.append_assoc, List.getElem?_append_left hj, List.getElem?_eq_getElem hj, he]
  rw [← e, List.append_assoc, List.singleton_append, cut_name no]
theorem cut_miss {s : ByteArray} (h : Miss s nul) : cutZ (L s) = none := by
  unfold cutZ
  refine if_neg fun hc => ?_
  obtain ⟨j, hj, he⟩ := List.getElem_of_mem hc
  rcases h with h | h
  · cases h
  · have := h j (by have : (L s).length = s.size := rfl; omega)
    rw [L_nul, occ_nul] at this
    apply of_decide_eq_false this
    rw [List.getElem?_eq_getElem hj, he]
theorem clone_at (s : ByteArray) (W : World) (hs : s.size ≤ 1000) : Calls Try.prog 60 #[.string s] W fun e w' => e = .returned (.string s) ∧ Below W.heap.size W w' := by
  have C := Lib.hid (Try.stringslite_Clone s W (by omega))
  go_enter Try.func60, Try.ntmps60
  go_wp2_with (go_at_call 65; (with_reducible refine C.out.mono ?_); rintro e w1 ⟨rfl, hb1⟩)
  go_ret
  exact ⟨rfl, hb1⟩
theorem nul_hit {W : World} (T : lines.ML W) (s : ByteArray) (i : Nat) (hs : s.size < 4294967281) (h : Hit s nul i) :
    Calls Try.prog 59 #[.string s, .string ⟨#[0]⟩] W fun e w' => e = .returned (.tuple #[.string (s.extract 0 i), .string (s.extract (i + 1) s.size), .bool true]) ∧ ∃ n, w' = W.drewN n := lines.sc_hit T s nul i hs h
theorem nul_miss {W : World} (T : lines.ML W) (s : ByteArray) (hs : s.size < 4294967281) (h : Miss s nul) :
    Calls Try.prog 59 #[.string s, .string ⟨#[0]⟩] W fun e w' => e = .returned (.tuple #[.string s, .string ⟨#[]⟩, .bool false]) ∧ ∃ n, w' = W.drewN n := lines.sc_miss T s nul hs h (by decide)
/-- what At answers. -/
def ATold (s : ByteArray) (a : Int) (W : World) (e : Ending) (w' : World) : Prop := e = .returned (.tuple #[.string (B (aS (L s) a)), .bool (aB (L s) a)]) ∧ Below W.heap.size W w'
theorem atold_no {s : ByteArray} {a : Int} {W W' : World} (h : aT (L s) a = none) (hb : Below W.heap.size W W') : ATold s a W (.returned (.tuple #[.string ⟨#[]⟩, .bool false])) W' := by
  unfold ATold aS aB
  rw [h]
  exact ⟨rfl, hb⟩
theorem atold_yes {s : ByteArray} {a : Int} {x : ByteArray} {W W' : World} (h : aT (L s) a = some (L x)) (hb : Below W.heap.size W W') : ATold s a W (.returned (.tuple #[.string x, .bool true])) W' := by
  unfold ATold aS aB
  rw [h]
  refine ⟨?_, hb⟩
  show _ = Ending.returned (.tuple #[.string (B (L x)), .bool true])
  rw [B_L]
theorem aT_cut {s : ByteArray} {n : Nat} (h : n < s.size) : aT (L s) n = (match cutZ (L (s.extract n s.size)) with | some x => if rt x = true then some x else none | none => none) := by
  have e : (L s).length = s.size := rfl
  rw [aT_in (by omega), L_ext, List.take_of_length_le (by rw [List.length_drop]; omega)]
  rfl
set_option maxHeartbeats 2000000 in
theorem at_at (s : ByteArray) (a : Int) (ha : -9223372036854775808 ≤ a ∧ a ≤ 9223372036854775807) (W : World) (T : lines.ML W) (hs : s.size < 4294967281) : Calls Try.prog 51 #[.string s, .int .i64 a] W (ATold s a W) := by
  have e : (L s).length = s.size := rfl
  by_cases h1 : a < 0
  · have R := Lib.hid (atold_no (s := s) (a := a) (W := W) (W' := W) (aT_out (by omega)) (Below.refl _ _))
    clear T e
    go_enter Try.func51, Try.ntmps51
    go_wp2
    go_ret2
    exact R.out
  · by_cases h2 : (s.size : Int) ≤ a
    · have R := Lib.hid (atold_no (s := s) (a := a) (W := W) (W' := W) (aT_out (by omega)) (Below.refl _ _))
      clear T e
      go_enter Try.func51, Try.ntmps51
      go_wp2
      go_ret2
      exact R.out
    · obtain ⟨n, rfl⟩ : ∃ n : Nat, a = n := ⟨a.toNat, by omega⟩
      have hn : n < s.size := by omega
      have hsl := fun W => lines.sl_from W s n (n : Int) rfl (by omega)
      have hE := aT_cut hn
      clear e
      have hY : (s.extract n s.size).size < 4294967281 := by rw [← L_len, L_ext]; simp; omega
      generalize hX : s.extract n s.size = Y at *
      rcases hit_or Y nul with hm | ⟨i, hi⟩
      · have C := Lib.hid (nul_miss T Y hY hm)
        rw [cut_miss hm] at hE
        have R := Lib.hid (fun k => atold_no (s := s) (a := n) (W := W) (W' := W.drewN k) hE (bel_drewN (Below.refl _ _) k))
        clear T hE hm hX
        go_enter Try.func51, Try.ntmps51
        go_wp2_with (go_at_call 59; (with_reducible refine C.out.mono ?_); rintro e w' ⟨rfl, k, rfl⟩)
        go_ret2
        exact R.out _
      · have C := Lib.hid (nul_hit T Y i hY hi)
        rw [cut_hit hi] at hE
        simp only at hE
        have hZ : (Y.extract 0 i).size ≤ 9223372036854775807 := by
          have e2 : (L Y).length = Y.size := rfl
          rw [← L_len, L_ext]; simp; omega
        have RI := Lib.hid (fun W => right_at (Y.extract 0 i) W hZ)
        cases hq : rt (L (Y.extract 0 i)) with
        | false =>
          rw [if_neg (by rw [hq]; decide)] at hE
          rw [hq] at RI
          have R := Lib.hid (fun k => atold_no (s := s) (a := n) (W := W) (W' := W.drewN k) hE (bel_drewN (Below.refl _ _) k))
          clear T hE hi hX hq hY
          generalize Y.extract 0 i = x at *
          generalize Y.extract (i + 1) Y.size = y at *
          go_enter Try.func51, Try.ntmps51
          go_wp2_with (first
            | (go_at_call 59; (with_reducible refine C.out.mono ?_); rintro e w' ⟨rfl, k, rfl⟩)
            | (go_at_call 38; (with_reducible refine (RI.out _).mono ?_); rintro e w' ⟨rfl, rfl⟩))
          go_ret2
          exact R.out _
        | true =>
          rw [if_pos hq] at hE
          rw [hq] at RI
          have hz := ((rt_iff _).1 hq).2.1
          rw [L_len] at hz
          have CL := Lib.hid (fun W => clone_at (Y.extract 0 i) W (by omega))
          have R := Lib.hid (fun W' (hb : Below W.heap.size W W') => atold_yes (s := s) (a := n) hE hb)
          clear T hE hi hX hq hY hz
          generalize Y.extract 0 i = x at *
          generalize Y.extract (i + 1) Y.size = y at *
          go_enter Try.func51, Try.ntmps51
          go_wp2_with (first
            | (go_at_call 59; (with_reducible refine C.out.mono ?_); rintro e w' ⟨rfl, k, rfl⟩)
            | (go_at_call 38; (with_reducible refine (RI.out _).mono ?_); rintro e w' ⟨rfl, rfl⟩)
            | (go_at_call 60; (with_reducible refine (CL.out _).mono ?_); rintro e w2 ⟨rfl, hb2⟩))
          go_ret2
          exact R.out _ ((bel_drewN (Below.refl _ _) _).trans (hb2.mono (Nat.le_refl _)))
end Go.Proofs.Ytllficloadncfaa.abr

/-
  What readKinds and giveNames answer. Conditions: the bytes that are asked for are there.
-/
namespace Go.Proofs.Ytllficloadncfaa.blk
open Go.ChangeShapes Go.WideShapes Go.ChangeAt Go.RowKit
open om mem oct bk
set_option linter.unusedVariables false
set_option maxRecDepth 100000

def ug {α : Type} (z : α) (a : Nat → α) (k : Nat) : Nat → α := fun j => if j < k then a j else z
theorem ug_at {α : Type} (z : α) (a : Nat → α) (k : Nat) : ug z a (k + 1) k = a k := if_pos (by omega)
theorem ug_ne {α : Type} (z : α) (a : Nat → α) {k j : Nat} (h : j ≠ k) : ug z a (k + 1) j = ug z a k j := by
  unfold ug
  by_cases e : j < k
  · rw [if_pos e, if_pos (by omega)]
  · rw [if_neg e, if_neg (by omega)]
theorem ug_all {α : Type} (z : α) (a : Nat → α) {n j : Nat} (h : j < n) : ug z a n j = a j := if_pos h
def tyF (o : Nat → Int) (d : Nat → Bool) (a : Nat → ByteArray) : Nat → Value := fun i => if i % 3 = 0 then .int .i64 (o (i / 3)) else if i % 3 = 1 then .bool (d (i / 3)) else .string (a (i / 3))
theorem tyF0 (o : Nat → Int) (d : Nat → Bool) (a : Nat → ByteArray) (k : Nat) : tyF o d a (k * 3) = .int .i64 (o k) := by
  unfold tyF
  rw [if_pos (by omega), show k * 3 / 3 = k by omega]
theorem tyF1 (o : Nat → Int) (d : Nat → Bool) (a : Nat → ByteArray) (k : Nat) : tyF o d a (k * 3 + 1) = .bool (d k) := by
  unfold tyF
  rw [if_neg (by omega), if_pos (by omega), show (k * 3 + 1) / 3 = k by omega]
theorem tyF2 (o : Nat → Int) (d : Nat → Bool) (a : Nat → ByteArray) (k : Nat) : tyF o d a (k * 3 + 2) = .string (a k) := by
  unfold tyF
  rw [if_neg (by omega), if_neg (by omega), show (k * 3 + 2) / 3 = k by omega]
theorem tset0 (o : Nat → Int) (d : Nat → Bool) (a : Nat → ByteArray) (k i : Nat) : (if i = k * 3 then Value.int .i64 (o k) else tyF (ug 0 o k) d a i) = tyF (ug 0 o (k + 1)) d a i := by
  by_cases e : i = k * 3
  · rw [if_pos e, e, tyF0, ug_at]
  · rw [if_neg e]
    unfold tyF
    by_cases h : i % 3 = 0
    · rw [if_pos h, if_pos h, ug_ne _ _ (by omega)]
    · rw [if_neg h, if_neg h]
theorem tset1 (o : Nat → Int) (d : Nat → Bool) (a : Nat → ByteArray) (k i : Nat) : (if i = k * 3 + 1 then Value.bool (d k) else tyF o (ug false d k) a i) = tyF o (ug false d (k + 1)) a i := by
  by_cases e : i = k * 3 + 1
  · rw [if_pos e, e, tyF1, ug_at]
  · rw [if_neg e]
    unfold tyF
    by_cases h : i % 3 = 0
    · rw [if_pos h, if_pos h]
    · rw [if_neg h, if_neg h]
      by_cases h1 : i % 3 = 1
      · rw [if_pos h1, if_pos h1, ug_ne _ _ (by omega)]
      · rw [if_neg h1, if_neg h1]
theorem tset2 (o : Nat → Int) (d : Nat → Bool) (a : Nat → ByteArray) (k i : Nat) : (if i = k * 3 + 2 then Value.string (a k) else tyF o d (ug ⟨#[]⟩ a k) i) = tyF o d (ug ⟨#[]⟩ a (k + 1)) i := by
  by_cases e : i = k * 3 + 2
  · rw [if_pos e, e, tyF2, ug_at]
  · rw [if_neg e]
    unfold tyF
    by_cases h : i % 3 = 0
    · rw [if_pos h, if_pos h]
    · rw [if_neg h, if_neg h]
      by_cases h1 : i % 3 = 1
      · rw [if_pos h1, if_pos h1]
      · rw [if_neg h1, if_neg h1, ug_ne _ _ (by omega)]
theorem pset (a : Nat → Int) (k i : Nat) : (if i = k then Value.int .i64 (a k) else .int .i64 (ug 0 a k i)) = .int .i64 (ug 0 a (k + 1) i) := by
  by_cases e : i = k
  · rw [if_pos e, e, ug_at]
  · rw [if_neg e, ug_ne _ _ e]
theorem tys_row {W : World} {m : Nat} {t : TypeId} {n : Nat} {o : Nat → Int} {d : Nat → Bool} {a : Nat → ByteArray} (h : Row W m t (n * 3) (tyF o d a)) : Tys W (some ⟨m, 0, none⟩) ((List.range n).map fun k => ⟨o k, d k, a k⟩) := by
  intro _
  refine ⟨m, 0, rfl, h.lt, fun k hk => ?_⟩
  have hk' : k < n := by simpa using hk
  rw [Nat.zero_add, h.cell (by omega), h.cell (by omega), h.cell (by omega), tyF0, tyF1, tyF2, List.getElem_map, List.getElem_range]
  exact ⟨rfl, rfl, rfl⟩
theorem infoK : (Try.prog.info? 41).map (fun i => (i.zero, i.size, i.bytes)) = some (some (.agg #[.int .i64 0, .bool false, .string ⟨#[]⟩]), 3, 32) := by kernel_rfl
theorem infoI : (Try.prog.info? 3).map (fun i => (i.zero, i.size, i.bytes)) = some (some (.int .i64 0), 1, 8) := by kernel_rfl
theorem makeK (W : World) (n : Nat) (hn : n < 100000000) : (Instr.makeSlice 22 (.int .i64 (n : Nat)) (.int .i64 (n : Nat))).run Try.prog W = .ok (.slice (some ⟨W.heap.size, 0, none⟩) n n) (W.alloc (.cells (madeCells #[.int .i64 0, .bool false, .string ⟨#[]⟩] (n * 3)) 41)) := by
  obtain ⟨i0, hi, hz0, hz1, hz2⟩ := info_parts infoK
  have := run_make (P := Try.prog) W 22 41 i0 _ Try.underlying22 hi hz0 .i64 .i64 (n : Int) (n : Int) (by omega) (by omega) (by rw [hz2]; omega) (by omega)
  rw [hz1] at this
  exact this
theorem makeI (W : World) (n : Nat) (hn : n < 100000000) : (Instr.makeSlice 46 (.int .i64 (n : Nat)) (.int .i64 (n : Nat))).run Try.prog W = .ok (.slice (some ⟨W.heap.size, 0, none⟩) n n) (W.alloc (.cells (madeCells #[.int .i64 0] n) 3)) := by
  obtain ⟨i0, hi, hz0, hz1, hz2⟩ := info_parts infoI
  have := run_make (P := Try.prog) W 46 3 i0 _ Try.underlying46 hi hz0 .i64 .i64 (n : Int) (n : Int) (by omega) (by omega) (by rw [hz2]; omega) (by omega)
  rw [hz1, Nat.mul_one] at this
  exact this
theorem madeK (W : World) (n : Nat) (t : TypeId) (o : Nat → Int) (d : Nat → Bool) : Row (W.alloc (.cells (madeCells #[.int .i64 0, .bool false, .string ⟨#[]⟩] (n * 3)) t)) W.heap.size t (n * 3) (tyF (ug 0 o 0) (ug false d 0) (fun _ => ⟨#[]⟩)) := by
  refine ⟨_, hp_new _ _, size_madeCells _ _, fun i hi => ?_⟩
  have : i % 3 = 0 ∨ i % 3 = 1 ∨ i % 3 = 2 := by omega
  unfold tyF ug
  rcases this with h | h | h <;> simp [madeCells, hi, h]
theorem madeI (W : World) (n : Nat) (t : TypeId) (a : Nat → Int) : Row (W.alloc (.cells (madeCells #[.int .i64 0] n) t)) W.heap.size t n (fun i => .int .i64 (ug 0 a 0 i)) := by
  refine (World.rowIs_made W _ n t).congr fun i _ => ?_
  unfold ug
  simp
def dOf (l : List Nat) (p k : Nat) : Bool := decide (gMk l p k = 1)
/-- how far kinds are read. -/
structure KS (p lo hi g : Nat) (l : List Nat) (n mk mp : Nat) (W0 : World) (ja jb jc pos : Nat) (W : World) : Prop where
  at' : At lo hi W g l pos
  rk : Row W mk 41 (n * 3) (tyF (ug 0 (gOf l p) ja) (ug false (dOf l p) jb) (fun _ => ⟨#[]⟩))
  rp : Row W mp 3 n (fun i => .int .i64 (ug 0 (gPl l p) jc i))
  keep : Keep g W0 W
structure KC (hi g mk mp : Nat) (W0 : World) : Prop where
  hhi : hi ≤ W0.heap.size
  hg : g < W0.heap.size
  k : W0.heap.size ≤ mk
  p : W0.heap.size ≤ mp
  ne : mk ≠ mp
theorem KS.num {p lo hi g : Nat} {l : List Nat} {n mk mp : Nat} {W0 : World} {ja jb jc pos pos' : Nat} {W w1 : World} (h : KS p lo hi g l n mk mp W0 ja jb jc pos W) (c : KC hi g mk mp W0) (h1 : At lo hi w1 g l pos') (h2 : Keep g W w1) : KS p lo hi g l n mk mp W0 ja jb jc pos' w1 :=
  ⟨h1, row_keep h.rk h2 (by have := c.k; have := c.hg; omega), row_keep h.rp h2 (by have := c.p; have := c.hg; omega), h.keep.trans h2⟩
theorem KS.set0 {p lo hi g : Nat} {l : List Nat} {n mk mp : Nat} {W0 : World} {ja jb jc pos : Nat} {W : World} (h : KS p lo hi g l n mk mp W0 ja jb jc pos W) (c : KC hi g mk mp W0) : KS p lo hi g l n mk mp W0 (ja + 1) jb jc pos (W.setCell ⟨mk, ja * 3, none⟩ (.int .i64 (gOf l p ja))) :=
  ⟨at_new h.at' (Nat.le_trans c.hhi c.k) _ _, (h.rk.set _ _).congr (fun i _ => tset0 _ _ _ _ i), h.rp.setOther (fun e => c.ne e.symm) _, keep_new h.keep c.k _ _⟩
theorem KS.set1 {p lo hi g : Nat} {l : List Nat} {n mk mp : Nat} {W0 : World} {ja jb jc pos : Nat} {W : World} (h : KS p lo hi g l n mk mp W0 ja jb jc pos W) (c : KC hi g mk mp W0) : KS p lo hi g l n mk mp W0 ja (jb + 1) jc pos (W.setCell ⟨mk, jb * 3 + 1, none⟩ (.bool (dOf l p jb))) :=
  ⟨at_new h.at' (Nat.le_trans c.hhi c.k) _ _, (h.rk.set _ _).congr (fun i _ => tset1 _ _ _ _ i), h.rp.setOther (fun e => c.ne e.symm) _, keep_new h.keep c.k _ _⟩
theorem KS.setP {p lo hi g : Nat} {l : List Nat} {n mk mp : Nat} {W0 : World} {ja jb jc pos : Nat} {W : World} (h : KS p lo hi g l n mk mp W0 ja jb jc pos W) (c : KC hi g mk mp W0) : KS p lo hi g l n mk mp W0 ja jb (jc + 1) pos (W.setCell ⟨mp, jc, none⟩ (.int .i64 (gPl l p jc))) :=
  ⟨at_new h.at' (Nat.le_trans c.hhi c.p) _ _, h.rk.setOther c.ne _, (h.rp.set _ _).congr (fun i _ => pset _ _ i), keep_new h.keep c.p _ _⟩
def mkAll (l : List Nat) (p j : Nat) : Bool := (List.range j).all fun k => mkB (gMk l p k)
theorem mkAll_succ (l : List Nat) (p j : Nat) : mkAll l p (j + 1) = (mkAll l p j && mkB (gMk l p j)) := by
  unfold mkAll; rw [List.range_succ, List.all_append]; simp
def KHead (p lo hi g : Nat) (l : List Nat) (n mk mp : Nat) (W0 : World) (v i : Value) (W : World) : Prop :=
  ∃ (j : Nat) (b : Bool), j ≤ n ∧ v = .bool b ∧ i = .int .i64 (j : Nat) ∧ b = mkAll l p j ∧ KS p lo hi g l n mk mp W0 j j j (p + 6 * j) W
def KTold (p lo hi g : Nat) (l : List Nat) (n : Nat) (W0 : World) (e : Ending) (w' : World) : Prop :=
  ∃ mk mp, e = .returned (.tuple #[.slice (some ⟨mk, 0, none⟩) n n, .slice (some ⟨mp, 0, none⟩) n n, .bool (mkAll l p n)]) ∧ KC hi g mk mp W0 ∧ Row w' mk 41 (n * 3) (tyF (gOf l p) (dOf l p) (fun _ => ⟨#[]⟩)) ∧ Row w' mp 3 n (fun i => .int .i64 (gPl l p i)) ∧ At lo hi w' g l (p + 6 * n) ∧ Keep g W0 w'
set_option maxHeartbeats 4000000 in
theorem rkinds_at (p lo hi : Nat) (W0 : World) (g : Nat) (l : List Nat) (n : Nat) (hb : Bys l) (hl : l.length < 100000000) (h : At lo hi W0 g l p) (hhi : hi ≤ W0.heap.size) (hg : g < W0.heap.size) (hp : p + 6 * n ≤ l.length) :
    Calls Try.prog 26 #[.pointer (some ⟨g, 0, none⟩), .int .i64 (n : Nat)] W0 (KTold p lo hi g l n W0) := by
  have hn : n < 100000000 := by omega
  have hmk := fun W => makeK W n hn
  have hmi := fun W => makeI W n hn
  have S1 : Hid (KS p lo hi g l n W0.heap.size (W0.heap.size + 1) W0 0 0 0 (p + 6 * 0) ((W0.alloc (.cells (madeCells #[.int .i64 0, .bool false, .string ⟨#[]⟩] (n * 3)) 41)).alloc (.cells (madeCells #[.int .i64 0] n) 3)).drew) := Lib.hid ⟨Rdr.drew (Rdr.below (Rdr.below h (bal (Below.refl _ _) (.cells (madeCells #[.int .i64 0, .bool false, .string ⟨#[]⟩] (n * 3)) 41))) (bal (Below.refl _ _) (.cells (madeCells #[.int .i64 0] n) 3))) 1, row_below (madeK W0 n _ _ _) (bel_drewN (bal (Below.refl _ _) (.cells (madeCells #[.int .i64 0] n) 3)) 1), row_below (by have := madeI (W0.alloc (.cells (madeCells #[.int .i64 0, .bool false, .string ⟨#[]⟩] (n * 3)) 41)) n 3 (gPl l p); rw [World.size_alloc] at this; exact this) (bel_drewN (Below.refl _ _) 1), Below.keep (bel_drewN (bal (bal (Below.refl _ _) (.cells (madeCells #[.int .i64 0, .bool false, .string ⟨#[]⟩] (n * 3)) 41)) (.cells (madeCells #[.int .i64 0] n) 3)) 1)⟩
  have C1 : Hid (KC hi g W0.heap.size (W0.heap.size + 1) W0) := Lib.hid ⟨hhi, hg, Nat.le_refl _, Nat.le_succ _, by omega⟩
  have S2 : Hid (KS p lo hi g l n (W0.heap.size + 1) W0.heap.size W0 0 0 0 (p + 6 * 0) ((W0.alloc (.cells (madeCells #[.int .i64 0] n) 3)).alloc (.cells (madeCells #[.int .i64 0, .bool false, .string ⟨#[]⟩] (n * 3)) 41)).drew) := Lib.hid ⟨Rdr.drew (Rdr.below (Rdr.below h (bal (Below.refl _ _) (.cells (madeCells #[.int .i64 0] n) 3))) (bal (Below.refl _ _) (.cells (madeCells #[.int .i64 0, .bool false, .string ⟨#[]⟩] (n * 3)) 41))) 1, row_below (by have := madeK (W0.alloc (.cells (madeCells #[.int .i64 0] n) 3)) n 41 (gOf l p) (dOf l p); rw [World.size_alloc] at this; exact this) (bel_drewN (Below.refl _ _) 1), row_below (madeI W0 n _ _) (bel_drewN (bal (Below.refl _ _) (.cells (madeCells #[.int .i64 0, .bool false, .string ⟨#[]⟩] (n * 3)) 41)) 1), Below.keep (bel_drewN (bal (bal (Below.refl _ _) (.cells (madeCells #[.int .i64 0] n) 3)) (.cells (madeCells #[.int .i64 0, .bool false, .string ⟨#[]⟩] (n * 3)) 41)) 1)⟩
  have C2 : Hid (KC hi g (W0.heap.size + 1) W0.heap.size W0) := Lib.hid ⟨hhi, hg, Nat.le_succ _, Nat.le_refl _, by omega⟩
  have IM := Lib.hid (fun n W => ismark_at n W)
  clear h hhi hg
  go_enter Try.func26, Try.ntmps26
  go_wp2
  go_region
  have S0 := S1
  have C0 := C1
  clear S1 S2 C1 C2 hmk hmi
  generalize ((W0.alloc (.cells (madeCells #[.int .i64 0, .bool false, .string ⟨#[]⟩] (n * 3)) 41)).alloc (.cells (madeCells #[.int .i64 0] n) 3)).drew = W1 at *
  generalize W0.heap.size + 1 = mp at *
  generalize W0.heap.size = mk at *
  rotate_left
  have S0 := S2
  have C0 := C2
  clear S1 S2 C1 C2 hmk hmi
  generalize ((W0.alloc (.cells (madeCells #[.int .i64 0] n) 3)).alloc (.cells (madeCells #[.int .i64 0, .bool false, .string ⟨#[]⟩] (n * 3)) 41)).drew = W1 at *
  generalize W0.heap.size + 1 = mk at *
  generalize W0.heap.size = mp at *
  rotate_left
  all_goals
    go_wp2
    go_loopw [9, 17] (fun v i W => KHead p lo hi g l n mk mp W0 v i W) (fun _ i _ => n - (intOf i).toNat)
    case atStart => exact ⟨0, true, Nat.zero_le _, rfl, rfl, rfl, S0.out⟩
    case round =>
      obtain ⟨j, b, hj, rfl, rfl, hok, ks⟩ := hrel
      by_cases hlt : j < n
      · have N1 : Hid (Calls Try.prog 49 #[.pointer (some ⟨g, 0, none⟩), .int .i64 4] wr fun e w' => e = .returned (.int .i64 (gOf l p j)) ∧ At lo hi w' g l (p + 6 * j + 4) ∧ Keep g wr w') := Lib.hid (at_num ks.at' 4 (Or.inr (Or.inl rfl)) hb (by omega) (by omega))
        have N2 : Hid (∀ W, At lo hi W g l (p + 6 * j + 4) → Calls Try.prog 49 #[.pointer (some ⟨g, 0, none⟩), .int .i64 1] W fun e w' => e = .returned (.int .i64 (gMk l p j)) ∧ At lo hi w' g l (p + 6 * j + 5) ∧ Keep g W w') := Lib.hid fun W hW => at_num hW 1 (Or.inl rfl) hb (by omega) (by omega)
        have N3 : Hid (∀ W, At lo hi W g l (p + 6 * j + 5) → Calls Try.prog 49 #[.pointer (some ⟨g, 0, none⟩), .int .i64 1] W fun e w' => e = .returned (.int .i64 (gPl l p j)) ∧ At lo hi w' g l (p + 6 * (j + 1)) ∧ Keep g W w') := Lib.hid fun W hW => at_num hW 1 (Or.inl rfl) hb (by omega) (by omega)
        have K1 := Lib.hid (fun w1 h1 h2 => ks.num C0.out (w1 := w1) (pos' := p + 6 * j + 4) h1 h2)
        have Z1 := Lib.hid (fun w1 (h : KS p lo hi g l n mk mp W0 j j j (p + 6 * j + 4) w1) => (⟨h.rk.cell (i := j * 3) (by omega), h.rk.frozen (j * 3), h.set0 C0.out⟩ : w1.cell? ⟨mk, j * 3, none⟩ = some _ ∧ w1.frozen? ⟨mk, j * 3, none⟩ = false ∧ KS p lo hi g l n mk mp W0 (j + 1) j j (p + 6 * j + 4) (w1.setCell ⟨mk, j * 3, none⟩ (.int .i64 (gOf l p j)))))
        have K2 := Lib.hid (fun wa w1 (h : KS p lo hi g l n mk mp W0 (j + 1) j j (p + 6 * j + 4) wa) h1 h2 => h.num C0.out (w1 := w1) (pos' := p + 6 * j + 5) h1 h2)
        have Z2 := Lib.hid (fun w1 (h : KS p lo hi g l n mk mp W0 (j + 1) j j (p + 6 * j + 5) w1) => (⟨h.rk.cell (i := j * 3 + 1) (by omega), h.rk.frozen (j * 3 + 1), h.set1 C0.out⟩ : w1.cell? ⟨mk, j * 3 + 1, none⟩ = some _ ∧ w1.frozen? ⟨mk, j * 3 + 1, none⟩ = false ∧ KS p lo hi g l n mk mp W0 (j + 1) (j + 1) j (p + 6 * j + 5) (w1.setCell ⟨mk, j * 3 + 1, none⟩ (.bool (dOf l p j)))))
        have K3 := Lib.hid (fun wa w1 (h : KS p lo hi g l n mk mp W0 (j + 1) (j + 1) j (p + 6 * j + 5) wa) h1 h2 => h.num C0.out (w1 := w1) (pos' := p + 6 * (j + 1)) h1 h2)
        have Z3 := Lib.hid (fun w1 (h : KS p lo hi g l n mk mp W0 (j + 1) (j + 1) j (p + 6 * (j + 1)) w1) => (⟨h.rp.cell (i := j) (by omega), h.rp.frozen j, h.setP C0.out⟩ : w1.cell? ⟨mp, j, none⟩ = some _ ∧ w1.frozen? ⟨mp, j, none⟩ = false ∧ KS p lo hi g l n mk mp W0 (j + 1) (j + 1) (j + 1) (p + 6 * (j + 1)) (w1.setCell ⟨mp, j, none⟩ (.int .i64 (gPl l p j)))))
        have q1 : (gMk l p j == 1) = dOf l p j := rfl
        have IM1 := Lib.hid (IM.out (gMk l p j))
        have E := Lib.hid (fun b' W' (hb' : b' = mkAll l p (j + 1)) (h : KS p lo hi g l n mk mp W0 (j + 1) (j + 1) (j + 1) (p + 6 * (j + 1)) W') => (⟨j + 1, b', hlt, rfl, rfl, hb', h⟩ : KHead p lo hi g l n mk mp W0 (.bool b') (.int .i64 ((j : Int) + 1)) W'))
        rw [mkAll_succ, ← hok] at E
        clear hok ks hb IM
        generalize gOf l p j = x1 at *
        generalize dOf l p j = x2 at *
        generalize gPl l p j = x3 at *
        generalize mkB (gMk l p j) = m at *
        generalize gMk l p j = x4 at *
        cases b <;> cases m
        all_goals (go_wp2_with (first
          | (go_at_call 49; (with_reducible refine N1.out.mono ?_); rintro e w1 ⟨rfl, h1, h2⟩; obtain ⟨c0, f0, s⟩ := Z1.out _ (K1.out _ h1 h2); have A1 := Lib.hid s; clear h1 h2 s)
          | (go_at_call 49; (with_reducible refine (N2.out _ A1.out.at').mono ?_); rintro e w2 ⟨rfl, h1, h2⟩; clear c0 f0; obtain ⟨c0, f0, s⟩ := Z2.out _ (K2.out _ _ A1.out h1 h2); have A2 := Lib.hid s; clear h1 h2 s)
          | (go_at_call 50; (with_reducible refine (IM1.out _).mono ?_); rintro e w' ⟨rfl, rfl⟩)
          | (go_at_call 49; (with_reducible refine (N3.out _ A2.out.at').mono ?_); rintro e w3 ⟨rfl, h1, h2⟩; clear c0 f0; obtain ⟨c0, f0, s⟩ := Z3.out _ (K3.out _ _ A2.out h1 h2); have A3 := Lib.hid s; clear h1 h2 s)))
        all_goals go_roundw
        case rel => exact E.out _ _ rfl A3.out
        case measure => simp [intOf]; omega
        case rel => exact E.out _ _ rfl A3.out
        case measure => simp [intOf]; omega
        case rel => exact E.out _ _ rfl A3.out
        case measure => simp [intOf]; omega
        case rel => exact E.out _ _ rfl A3.out
        case measure => simp [intOf]; omega
      · obtain rfl : j = n := by omega
        have E : Hid (KTold p lo hi g l j W0 (.returned (.tuple #[.slice (some ⟨mk, 0, none⟩) j j, .slice (some ⟨mp, 0, none⟩) j j, .bool b])) wr) := Lib.hid ⟨mk, mp, by rw [hok], C0.out, ks.rk.congr (fun i hi => by unfold tyF; rw [ug_all _ _ (by omega), ug_all _ _ (by omega)]), ks.rp.congr (fun i hi => by rw [ug_all _ _ hi]), ks.at', ks.keep⟩
        clear hok ks hb IM
        go_wp2
        go_ret3
        exact E.out
end Go.Proofs.Ytllficloadncfaa.blk
