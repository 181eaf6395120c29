/-
  What package abbr's At answers: the name that begins at a place of a pool. Conditions: the library's variable MaxLen holds some number; the pool is shorter than what the library's Cut is known for.
-/
import Derived.Test.YtkdmecpelfcbmaaAbbrRight
import Derived.Test.YtkdmecpelfcbmaaAbbrMem
import Derived.Test.YtkdmecpelfcbmaaLinesMem
namespace Go.Proofs.Ytkdmecpelfcbmaa.abr
open Go.ChangeShapes Go.WideShapes Go.ChangeAt Go.RowKit
open lx ab mem
set_option linter.unusedVariables false
set_option maxRecDepth 100000

def nul : ByteArray := ⟨#[0]⟩
theorem L_nul : L nul = [0] := rfl
theorem occ_nul (l : List UInt8) (j : Nat) : Lib.occAt l [0] j = decide (l[j]? = some 0) := by
  unfold Lib.occAt
  by_cases h : j < l.length
  · rw [List.drop_eq_getElem_cons h, List.getElem?_eq_getElem h]
    generalize l[j] = c
    by_cases e : c = 0
    · subst e; simp
    · rw [List.isPrefixOf_cons_cons, beq_eq_false_iff_ne.2 (fun k => e k.symm), Bool.false_and, decide_eq_false (fun k => e (Option.some.inj k))]
  · rw [List.drop_of_length_le (by omega), List.getElem?_eq_none (by omega)]
    simp
theorem cut_hit {s : ByteArray} {i : Nat} (h : Hit s nul i) : cutZ (L s) = some (L (s.extract 0 i)) := by
  have e := congrArg L (hit_parts h)
  rw [L_app, L_app, L_nul] at e
  have no : ∀ c ∈ L (s.extract 0 i), c ≠ 0 := by
    intro c hc k
    subst k
    obtain ⟨j, hj, he⟩ := List.getElem_of_mem hc
    have h1 : j < i := by rw [L_ext] at hj; simp at hj; omega
    have := h.2.2.2 j h1
    rw [L_nul, occ_nul] at this
    have k := of_decide_eq_false this
    apply k
    rw [← e, List.append_assoc, List.getElem?_append_left hj, List.getElem?_eq_getElem hj, he]
  rw [← e, List.append_assoc, List.singleton_append, cut_name no]
theorem cut_miss {s : ByteArray} (h : Miss s nul) : cutZ (L s) = none := by
  unfold cutZ
  refine if_neg fun hc => ?_
  obtain ⟨j, hj, he⟩ := List.getElem_of_mem hc
  rcases h with h | h
  · cases h
  · have := h j (by have : (L s).length = s.size := rfl; omega)
    rw [L_nul, occ_nul] at this
    apply of_decide_eq_false this
    rw [List.getElem?_eq_getElem hj, he]
theorem clone_at (s : ByteArray) (W : World) (hs : s.size ≤ 1000) : Calls Try.prog 64 #[.string s] W fun e w' => e = .returned (.string s) ∧ Below W.heap.size W w' := by
  have C := Lib.hid (Try.stringslite_Clone s W (by omega))
  go_enter Try.func64, Try.ntmps64
  go_wp2_with (go_at_call 69; (with_reducible refine C.out.mono ?_); rintro e w1 ⟨rfl, hb1⟩)
  go_ret
  exact ⟨rfl, hb1⟩
theorem nul_hit {W : World} (T : lines.ML W) (s : ByteArray) (i : Nat) (hs : s.size < 4294967281) (h : Hit s nul i) :
    Calls Try.prog 63 #[.string s, .string ⟨#[0]⟩] W fun e w' => e = .returned (.tuple #[.string (s.extract 0 i), .string (s.extract (i + 1) s.size), .bool true]) ∧ ∃ n, w' = W.drewN n := lines.sc_hit T s nul i hs h
theorem nul_miss {W : World} (T : lines.ML W) (s : ByteArray) (hs : s.size < 4294967281) (h : Miss s nul) :
    Calls Try.prog 63 #[.string s, .string ⟨#[0]⟩] W fun e w' => e = .returned (.tuple #[.string s, .string ⟨#[]⟩, .bool false]) ∧ ∃ n, w' = W.drewN n := lines.sc_miss T s nul hs h (by decide)
/-- what At answers. -/
def ATold (s : ByteArray) (a : Int) (W : World) (e : Ending) (w' : World) : Prop := e = .returned (.tuple #[.string (B (aS (L s) a)), .bool (aB (L s) a)]) ∧ Below W.heap.size W w'
theorem atold_no {s : ByteArray} {a : Int} {W W' : World} (h : aT (L s) a = none) (hb : Below W.heap.size W W') : ATold s a W (.returned (.tuple #[.string ⟨#[]⟩, .bool false])) W' := by
  unfold ATold aS aB
  rw [h]
  exact ⟨rfl, hb⟩
theorem atold_yes {s : ByteArray} {a : Int} {x : ByteArray} {W W' : World} (h : aT (L s) a = some (L x)) (hb : Below W.heap.size W W') : ATold s a W (.returned (.tuple #[.string x, .bool true])) W' := by
  unfold ATold aS aB
  rw [h]
  refine ⟨?_, hb⟩
  show _ = Ending.returned (.tuple #[.string (B (L x)), .bool true])
  rw [B_L]
theorem aT_cut {s : ByteArray} {n : Nat} (h : n < s.size) : aT (L s) n = (match cutZ (L (s.extract n s.size)) with | some x => if rt x = true then some x else none | none => none) := by
  have e : (L s).length = s.size := rfl
  rw [aT_in (by omega), L_ext, List.take_of_length_le (by rw [List.length_drop]; omega)]
  rfl
set_option maxHeartbeats 2000000 in
theorem at_at (s : ByteArray) (a : Int) (ha : -9223372036854775808 ≤ a ∧ a ≤ 9223372036854775807) (W : World) (T : lines.ML W) (hs : s.size < 4294967281) : Calls Try.prog 55 #[.string s, .int .i64 a] W (ATold s a W) := by
  have e : (L s).length = s.size := rfl
  by_cases h1 : a < 0
  · have R := Lib.hid (atold_no (s := s) (a := a) (W := W) (W' := W) (aT_out (by omega)) (Below.refl _ _))
    clear T e
    go_enter Try.func55, Try.ntmps55
    go_wp2
    go_ret2
    exact R.out
  · by_cases h2 : (s.size : Int) ≤ a
    · have R := Lib.hid (atold_no (s := s) (a := a) (W := W) (W' := W) (aT_out (by omega)) (Below.refl _ _))
      clear T e
      go_enter Try.func55, Try.ntmps55
      go_wp2
      go_ret2
      exact R.out
    · obtain ⟨n, rfl⟩ : ∃ n : Nat, a = n := ⟨a.toNat, by omega⟩
      have hn : n < s.size := by omega
      have hsl := fun W => lines.sl_from W s n (n : Int) rfl (by omega)
      have hE := aT_cut hn
      clear e
      have hY : (s.extract n s.size).size < 4294967281 := by rw [← L_len, L_ext]; simp; omega
      generalize hX : s.extract n s.size = Y at *
      rcases hit_or Y nul with hm | ⟨i, hi⟩
      · have C := Lib.hid (nul_miss T Y hY hm)
        rw [cut_miss hm] at hE
        have R := Lib.hid (fun k => atold_no (s := s) (a := n) (W := W) (W' := W.drewN k) hE (bel_drewN (Below.refl _ _) k))
        clear T hE hm hX
        go_enter Try.func55, Try.ntmps55
        go_wp2_with (go_at_call 63; (with_reducible refine C.out.mono ?_); rintro e w' ⟨rfl, k, rfl⟩)
        go_ret2
        exact R.out _
      · have C := Lib.hid (nul_hit T Y i hY hi)
        rw [cut_hit hi] at hE
        simp only at hE
        have hZ : (Y.extract 0 i).size ≤ 9223372036854775807 := by
          have e2 : (L Y).length = Y.size := rfl
          rw [← L_len, L_ext]; simp; omega
        have RI := Lib.hid (fun W => right_at (Y.extract 0 i) W hZ)
        cases hq : rt (L (Y.extract 0 i)) with
        | false =>
          rw [if_neg (by rw [hq]; decide)] at hE
          rw [hq] at RI
          have R := Lib.hid (fun k => atold_no (s := s) (a := n) (W := W) (W' := W.drewN k) hE (bel_drewN (Below.refl _ _) k))
          clear T hE hi hX hq hY
          generalize Y.extract 0 i = x at *
          generalize Y.extract (i + 1) Y.size = y at *
          go_enter Try.func55, Try.ntmps55
          go_wp2_with (first
            | (go_at_call 63; (with_reducible refine C.out.mono ?_); rintro e w' ⟨rfl, k, rfl⟩)
            | (go_at_call 44; (with_reducible refine (RI.out _).mono ?_); rintro e w' ⟨rfl, rfl⟩))
          go_ret2
          exact R.out _
        | true =>
          rw [if_pos hq] at hE
          rw [hq] at RI
          have hz := ((rt_iff _).1 hq).2.1
          rw [L_len] at hz
          have CL := Lib.hid (fun W => clone_at (Y.extract 0 i) W (by omega))
          have R := Lib.hid (fun W' (hb : Below W.heap.size W W') => atold_yes (s := s) (a := n) hE hb)
          clear T hE hi hX hq hY hz
          generalize Y.extract 0 i = x at *
          generalize Y.extract (i + 1) Y.size = y at *
          go_enter Try.func55, Try.ntmps55
          go_wp2_with (first
            | (go_at_call 63; (with_reducible refine C.out.mono ?_); rintro e w' ⟨rfl, k, rfl⟩)
            | (go_at_call 44; (with_reducible refine (RI.out _).mono ?_); rintro e w' ⟨rfl, rfl⟩)
            | (go_at_call 64; (with_reducible refine (CL.out _).mono ?_); rintro e w2 ⟨rfl, hb2⟩))
          go_ret2
          exact R.out _ ((bel_drewN (Below.refl _ _) _).trans (hb2.mono (Nat.le_refl _)))
end Go.Proofs.Ytkdmecpelfcbmaa.abr
