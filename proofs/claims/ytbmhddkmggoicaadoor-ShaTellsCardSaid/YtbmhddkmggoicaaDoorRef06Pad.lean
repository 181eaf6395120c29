/-
  What the document's own padded answers: the bytes, with what is laid behind them, in new memory. Condition: the slice reads as bytes, at most 1000000 of them.
-/
import Derived.Test.YtbmhddkmggoicaaDoorShaApp
namespace Go.Proofs.YtbmhddkmggoicaaDoor.ref06
open Go.ChangeShapes Go.WideShapes Go.ChangeAt Go.RowKit
open sx sha
set_option linter.unusedVariables false

def PHead (l : List Nat) (w : World) (t : Value) (W : World) : Prop :=
  ∃ z g cap, z ≤ zz l.length ∧ t = .slice (some ⟨g, 0, none⟩) (l.length + 1 + z) cap ∧ Own w.heap.size W t (l ++ 128 :: List.replicate z 0) ∧ Below w.heap.size w W
def QHead (l : List Nat) (w : World) (t i : Value) (W : World) : Prop :=
  ∃ k g cap, k ≤ 8 ∧ i = .int .i64 (k : Nat) ∧ t = .slice (some ⟨g, 0, none⟩) (l.length + zz l.length + 1 + k) cap ∧ Own w.heap.size W t (l ++ 128 :: (List.replicate (zz l.length) 0 ++ (eight l.length).take k)) ∧ Below w.heap.size w W
def PadTold (l : List Nat) (w : World) (e : Ending) (w' : World) : Prop := ∃ g cap, e = .returned (.slice (some ⟨g, 0, none⟩) (l ++ pad l.length).length cap) ∧ Own w.heap.size w' (.slice (some ⟨g, 0, none⟩) (l ++ pad l.length).length cap) (l ++ pad l.length) ∧ Below w.heap.size w w'
theorem own_empty (w : World) : Own w.heap.size (w.alloc (.cells #[] 5)) (.slice (some ⟨w.heap.size, 0, none⟩) 0 0) [] :=
  ⟨rfl, Or.inr ⟨w.heap.size, 0, #[], rfl, Nat.le_refl _, hp_new w _, Nat.le_refl _, by unfold maxLen; omega, rfl, rfl⟩⟩
set_option maxHeartbeats 2000000 in
theorem padded_any (l : List Nat) (v : Value) (w : World) (hr : RdW w v l) (hn : l.length ≤ 1000000) : Calls Tryd.prog 17 #[v] w (PadTold l w) := by
  have hzz : zz l.length < 64 := Nat.mod_lt _ (by decide)
  have HR := Lib.hid (hr.below (bal (Below.refl _ _) (.cells #[] 5)))
  obtain ⟨A, cap0, rfl, _⟩ := hr
  go_enter Tryd.func17, Tryd.ntmps17
  go_wp2_with (at_builtin; first
    | (refine app_any rfl _ _ rfl w.heap.size (w.alloc (.cells #[] 5)) (.slice (some ⟨w.heap.size, 0, none⟩) 0 0) (.slice A l.length cap0) [] l rfl rfl (own_empty w) HR.out (by simp; omega) (by simp) ?_; intro v1 w1 ho1 hg1)
    | (refine app_byte rfl _ _ rfl w.heap.size w1 v1 l 128 128 rfl rfl rfl ho1 (by omega) (by have := hg1.size; simp at this; omega) ?_; intro g2 cap2 w2 ho2 hg2))
  have hs1 : w.heap.size ≤ w1.heap.size := by have := hg1.size; simp at this; omega
  have b1 : Below w.heap.size w w1 := own_below (own_empty w) (bal (Below.refl _ _) _) (by simp) hg1
  have b2 : Below w.heap.size w w2 := own_below ho1 b1 hs1 hg2
  clear ho1 hg1 hg2
  go_loopw [3] (fun t W => PHead l w t W) (fun t _ => l.length + 66 - lenOf t)
  case atStart =>
    refine ⟨0, g2, cap2, by omega, rfl, ?_, b2⟩
    rw [List.length_append] at ho2
    exact ho2
  case round =>
    obtain ⟨z, g, cap, hz, rfl, ho, hb⟩ := hrel
    have HO := Lib.hid ho
    have hbs := hb.size
    by_cases hlt : z < zz l.length
    · have t1 : (((l.length : Int) + 1 + (z : Int)) % 64 != 56) = true := by unfold zz at hlt; simp; omega
      clear ho
      go_wp2_with (at_builtin; refine app_byte rfl _ _ rfl w.heap.size wr (.slice (some ⟨g, 0, none⟩) (l.length + 1 + z) cap) (l ++ 128 :: List.replicate z 0) 0 0 rfl rfl rfl HO.out (by simp; omega) hbs ?_; intro g' cap' w1 ho' hg)
      go_roundw
      case rel =>
        have e : (l ++ 128 :: List.replicate z 0 ++ [0] : List Nat) = l ++ 128 :: List.replicate (z + 1) 0 := by rw [List.replicate_succ', List.append_assoc, List.cons_append]
        have e2 : (l ++ 128 :: List.replicate z 0 ++ [0] : List Nat).length = l.length + 1 + (z + 1) := by simp; omega
        rw [e2, e] at ho'
        have e3 : l.length + (z + 1 + 1) = l.length + 1 + (z + 1) := by omega
        rw [e3]
        exact ⟨z + 1, g', cap', by omega, rfl, ho', own_below HO.out hb hbs hg⟩
      case measure => simp [lenOf]; omega
    · obtain rfl : z = zz l.length := by omega
      have t1 : (((l.length : Int) + 1 + ((zz l.length : Nat) : Int)) % 64 != 56) = false := by
        have := pad_mult l.length
        rw [pad_len] at this
        simp; omega
      go_wp2
      go_loopw [3, 5] (fun t i W => QHead l w t i W) (fun _ i _ => 8 - (intOf i).toNat)
      case atStart => exact ⟨0, g, cap, by omega, rfl, by congr 1; omega, by simpa using ho, hb⟩
      case round =>
        obtain ⟨k, g, cap, hk, rfl, rfl, ho, hb⟩ := hrel
        have HO := Lib.hid ho
        have hbs := hb.size
        by_cases hlt : k < 8
        · have hd : ((l.length : Int) * 8) / 2 ^ (56 - 8 * k) % 256 = ((l.length * 8 / 2 ^ (8 * (7 - k)) % 256 : Nat) : Int) := by
            rw [show 56 - 8 * k = 8 * (7 - k) by omega, Int.natCast_emod, Int.natCast_ediv, Int.natCast_pow, Int.natCast_mul]; rfl
          have ET := Lib.hid (eight_take l.length k hlt)
          have el := eight_len l.length k (by omega)
          generalize l.length * 8 / 2 ^ (8 * (7 - k)) % 256 = c at *
          clear ho
          go_wp2_with (at_builtin; refine app_byte rfl _ _ rfl w.heap.size wr (.slice (some ⟨g, 0, none⟩) (l.length + zz l.length + 1 + k) cap) (l ++ 128 :: (List.replicate (zz l.length) 0 ++ (eight l.length).take k)) c (c : Nat) rfl rfl rfl HO.out (by simp only [List.length_cons, List.length_append, List.length_replicate]; omega) hbs ?_; intro g' cap' w1 ho' hg)
          have e2 : (l ++ 128 :: (List.replicate (zz l.length) 0 ++ (eight l.length).take k) ++ [c] : List Nat).length = l.length + zz l.length + 1 + (k + 1) := by
            simp only [List.length_cons, List.length_append, List.length_replicate, List.length_nil]; omega
          have e3 : l.length + (zz l.length + (k + 1) + 1) = l.length + zz l.length + 1 + (k + 1) := by omega
          rw [e2] at ho'
          rw [e3]
          refine ⟨⟨k + 1, g', cap', by omega, by go_num, rfl, ?_, own_below HO.out hb hbs hg⟩, by simp [intOf]; omega⟩
          rw [ET.out, ← List.append_assoc (List.replicate (zz l.length) 0), ← List.cons_append, ← List.append_assoc]
          exact ho'
        · obtain rfl : k = 8 := by omega
          go_wp2
          go_ret
          have e : (eight l.length).take 8 = eight l.length := List.take_of_length_le (by simp [eight])
          rw [e] at ho
          have e2 : (l ++ pad l.length).length = l.length + zz l.length + 1 + 8 := by rw [List.length_append, pad_len]; omega
          exact ⟨g, cap, by rw [e2]; rfl, by rw [e2]; exact ho, hb⟩
end Go.Proofs.YtbmhddkmggoicaaDoor.ref06
