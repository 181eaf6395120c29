/-
  What the document's own answers of layer 13 are: numbers as bytes, and readers of bytes. Conditions: the slices that are handed in read as bytes; readers are such as its Open made.
-/
import Derived.Test.YtkbpmopnphcfjaaOctWalk
namespace Go.Proofs.Ytkbpmopnphcfjaa.ref13
open Go.ChangeShapes Go.WideShapes Go.ChangeAt Go.RowKit
open om mem oct
set_option linter.unusedVariables false
set_option maxRecDepth 100000

set_option maxHeartbeats 1000000 in
theorem fits_at (n z : Int) (w : World) (hn : I64 n) (hz : I64 z) : Calls Try.prog 31 #[.int .i64 n, .int .i64 z] w fun e w' => e = .returned (.bool (fitB n z)) ∧ w = w' := by
  obtain ⟨n1, n2⟩ := hn
  obtain ⟨z1, z2⟩ := hz
  by_cases h1 : z = 1
  · subst h1
    by_cases h0 : 0 ≤ n
    · have t : fitB n 1 = decide (n ≤ 255) := by
        rw [Bool.eq_iff_iff, fit_iff]; unfold Fits; simp; omega
      rw [t]
      clear t
      go_enter Try.func31, Try.ntmps31
      go_wp2
      go_ret
      exact ⟨rfl, rfl⟩
    · rw [show fitB n 1 = false by rw [fit_no]; unfold Fits; omega]
      go_enter Try.func31, Try.ntmps31
      go_wp2
      go_ret
      exact ⟨rfl, rfl⟩
  · by_cases h4 : z = 4
    · subst h4
      clear h1
      by_cases h0 : -2147483648 ≤ n
      · have t : fitB n 4 = decide (n < 2147483648) := by
          rw [Bool.eq_iff_iff, fit_iff]; unfold Fits; simp; omega
        rw [t]
        clear t
        go_enter Try.func31, Try.ntmps31
        go_wp2
        go_ret
        exact ⟨rfl, rfl⟩
      · rw [show fitB n 4 = false by rw [fit_no]; unfold Fits; omega]
        go_enter Try.func31, Try.ntmps31
        go_wp2
        go_ret
        exact ⟨rfl, rfl⟩
    · have t1 : (z == 1) = false := by simpa using h1
      have t4 : (z == 4) = false := by simpa using h4
      have t : fitB n z = (z == 8) := by
        rw [Bool.eq_iff_iff, fit_iff]; unfold Fits; simp; omega
      rw [t]
      clear h1 h4 t
      go_enter Try.func31, Try.ntmps31
      go_wp2
      go_ret
      exact ⟨rfl, rfl⟩
theorem own_empty (W : World) : Own W.heap.size (W.alloc (.cells #[] 5)) (.slice (some ⟨W.heap.size, 0, none⟩) 0 0) [] := own_lit W.heap.size W #[] [] (Nat.le_refl _) rfl (by decide)
def PHead (l : List Nat) (n : Int) (S : Nat) (w : World) (t i : Value) (W : World) : Prop :=
  ∃ (j : Nat) (m : List Nat) (v : Value), m ++ lay n j = lay n S ∧ j ≤ S ∧ m.length ≤ S ∧ i = .int .i64 ((j : Int) - 1) ∧ v = t ∧ Own w.heap.size W v (l ++ m) ∧ Below w.heap.size w W
theorem pow_256 (j : Nat) : (2 : Int) ^ (8 * j) = 256 ^ j := by rw [Int.pow_mul]; rfl
set_option maxHeartbeats 4000000 in
theorem put_at (l : List Nat) (v : Value) (n z : Int) (w : World) (hn : I64 n) (hz : I64 z) (h : RdW w v l) (hl : l.length < 2000000000000) : Calls Try.prog 19 #[v, .int .i64 n, .int .i64 z] w (PutTold w l n z) := by
  have C := Lib.hid (fun w => fits_at n z w hn hz)
  obtain ⟨A, cap, e, hc, y1, y2⟩ := id h
  clear y1 y2
  subst e
  have HR := Lib.hid (h.below (bal (Below.refl w.heap.size w) (.cells #[] 5)))
  have HE := Lib.hid (own_empty w)
  have hb := bal (Below.refl w.heap.size w) (.cells #[] 5)
  have HB := Lib.hid hb
  have HS := Lib.hid hb.size
  have HL := Lib.hid hl
  obtain ⟨n1, n2⟩ := hn
  obtain ⟨z1, z2⟩ := hz
  clear hl hb h hc
  generalize hN : l.length = N at *
  have HN := Lib.hid hN
  clear hN
  by_cases hf : fitB n z = true
  · have hs := fit_sz (fit_iff.1 hf)
    obtain ⟨S, rfl⟩ : ∃ S : Nat, z = S := ⟨z.toNat, by unfold Sz at hs; omega⟩
    have hS : 1 ≤ S ∧ S ≤ 8 := by unfold Sz at hs; omega
    have Q : Hid (∀ v' w', Own w.heap.size w' v' (l ++ lay n S) → Below w.heap.size w w' → PutTold w l n S (.returned (.tuple #[v', .bool true])) w') := Lib.hid fun v' w' ho hb => ⟨v', by rw [hf], by rw [put_yes hf]; exact ho, hb⟩
    obtain ⟨s1, s2⟩ := hS
    rw [hf] at C
    clear hf hs
    go_enter Try.func19, Try.ntmps19
    go_wp2_with (first
      | (go_at_call 31; (with_reducible refine (C.out _).mono ?_); rintro e w2 ⟨rfl, rfl⟩)
      | (at_builtin; refine app_any rfl _ _ rfl w.heap.size (w.alloc (.cells #[] 5)) (.slice (some ⟨w.heap.size, 0, none⟩) 0 0) (.slice A N cap) [] l rfl rfl HE.out HR.out (by rw [HN.out]; have := HL.out; simp; omega) HS.out ?_; intro v1 w1 ho1 hg1; have HO1 := Lib.hid ho1; have HB1 := Lib.hid (own_below HE.out HB.out HS.out hg1); clear ho1 hg1))
    go_loopw [8, 9] (fun t i W => PHead l n S w t i W) (fun _ i _ => (intOf i + 1).toNat)
    case atStart => exact ⟨S, [], v1, rfl, Nat.le_refl _, by simp, rfl, rfl, by rw [List.append_nil]; exact HO1.out, HB1.out⟩
    case round =>
      obtain ⟨j, m, v, hm, hj, hml, rfl, rfl, ho, hb⟩ := hrel
      have HO := Lib.hid ho
      have HBB := Lib.hid hb
      clear ho hb
      by_cases h0 : j = 0
      · subst h0
        rw [lay, List.append_nil] at hm
        subst hm
        go_wp2
        go_ret2
        exact Q.out _ _ HO.out HBB.out
      · obtain ⟨i, rfl⟩ : ∃ i, j = i + 1 := ⟨j - 1, by omega⟩
        rw [show (((i + 1 : Nat) : Int) - 1) = (i : Int) by omega]
        have hd : n / 2 ^ (8 * i) % 256 = ((n / 256 ^ i % 256).toNat : Int) := by rw [pow_256]; omega
        have hx : 0 ≤ n / 2 ^ (8 * i) % 256 ∧ n / 2 ^ (8 * i) % 256 < 256 := by omega
        have HM : Hid ((m ++ [(n / 256 ^ i % 256).toNat]) ++ lay n i = lay n S) := Lib.hid (by rw [← hm, lay, List.append_assoc]; rfl)
        have HML := Lib.hid hml
        clear hm hml hx
        generalize (n / 256 ^ i % 256).toNat = c at *
        go_wp2_with (at_builtin; refine app_lit rfl _ _ rfl w.heap.size wr v (l ++ m) [c] #[.int .u8 (c : Nat)] 1 rfl rfl rfl rfl HO.out (by have := HL.out; have := HML.out; have := HN.out; simp only [List.length_append, List.length_cons, List.length_nil]; omega) HBB.out.size ?_; intro v2 w2 ho2 hg2; have HO2 := Lib.hid ho2; have HB2 := Lib.hid (own_below HO.out HBB.out HBB.out.size hg2); clear ho2 hg2)
        go_roundw
        case rel => exact ⟨i, m ++ [c], v2, HM.out, by omega, by have := congrArg List.length HM.out; rw [List.length_append, lay_len, lay_len] at this; omega, rfl, rfl, by rw [← List.append_assoc]; exact HO2.out, HB2.out⟩
        case measure => simp [intOf]
  · have hf' : fitB n z = false := by simpa using hf
    have Q : Hid (∀ v' w', Own w.heap.size w' v' l → Below w.heap.size w w' → PutTold w l n z (.returned (.tuple #[v', .bool false])) w') := Lib.hid fun v' w' ho hb => ⟨v', by rw [hf'], by rw [put_no hf']; exact ho, hb⟩
    rw [hf'] at C
    clear hf hf'
    go_enter Try.func19, Try.ntmps19
    go_wp2_with (first
      | (go_at_call 31; (with_reducible refine (C.out _).mono ?_); rintro e w2 ⟨rfl, rfl⟩)
      | (at_builtin; refine app_any rfl _ _ rfl w.heap.size (w.alloc (.cells #[] 5)) (.slice (some ⟨w.heap.size, 0, none⟩) 0 0) (.slice A N cap) [] l rfl rfl HE.out HR.out (by rw [HN.out]; have := HL.out; simp; omega) HS.out ?_; intro v1 w1 ho1 hg1; have HO1 := Lib.hid ho1; have HB1 := Lib.hid (own_below HE.out HB.out HS.out hg1); clear ho1 hg1))
    go_ret2
    exact Q.out _ _ HO1.out HB1.out
end Go.Proofs.Ytkbpmopnphcfjaa.ref13
