/-
  What sha.padding answers: what stands behind so many bytes, in new memory. Condition: the number is from 0 to 2^40.
-/
import Derived.Test.YtbmhddkmggoicaaDoorShaAdd
import Derived.Maps.AppendAt
import Derived.Laws.OwnMore
import Derived.Deep.AppendLies
namespace Go.Proofs.YtbmhddkmggoicaaDoor.sha
open Go.ChangeShapes Go.WideShapes Go.ChangeAt Go.RowKit
open sx
set_option linter.unusedVariables false

theorem infoB : (Tryd.prog.info? 5).map (fun i => (i.zero, i.size, i.bytes)) = some (some (.int .u8 0), 1, 1) := by kernel_rfl
/-- the call owns a row of bytes. -/
def Own (base : Nat) (W : World) (v : Value) (l : List Nat) : Prop := W.ownsRow base 5 1 v l.length (bc l)
/-- 'out = append(out, c)', out a row of bytes of the call's own. -/
theorem app_byte {ops : Array Oper} {rest : List Oper} {o : Oper} {a : Act} {Q : Exit → Act → World → Prop} (hgd : o.guard = none) (s x : Operand)
    (ho : o.op = .call { callee := .builtin .append, args := #[s, x], argTypes := #[22, 22] }) (base : Nat) (W : World) (v : Value) (l : List Nat) (c : Nat) (z : Int) (hz : z = (c : Nat))
    (hs : a.eval s = v) (hx : a.eval x = .slice (some ⟨W.heap.size, 0, none⟩) 1 1) (hown : Own base W v l) (hn : l.length < 8000000000000) (hbase : base ≤ W.heap.size)
    (h : ∀ g cap w', Own base w' (.slice (some ⟨g, 0, none⟩) (l ++ [c]).length cap) (l ++ [c]) → W.grownBy w' v.ownBlock → wpList Tryd.prog ops Q rest (a.put o.dst (.slice (some ⟨g, 0, none⟩) (l ++ [c]).length cap)) w') :
    wpList Tryd.prog ops Q (o :: rest) a (W.alloc (.cells #[.int .u8 z] 5)) := by
  subst hz
  obtain ⟨i0, hi, hz0, hz1, hz2⟩ := info_parts infoB
  refine wpList_append_own _ hgd s x 22 ho base 5 i0 _ 1 1 Tryd.underlying22 hi hz0 hz1 hz2 rfl (by decide) v l.length (bc l) hs (World.ownsRow.alloc hown _) ⟨W.heap.size, 0, none⟩ 1 1 (bc [c]) hx rfl (cell_one_new _ _ _) (bc_one [c]) ?_ (by omega) (by simp; omega) ?_
  · unfold maxLen; omega
  · intro v' w' h1 h2 _
    have e : bc (l ++ [c]) = bc l ++ bc [c] := by unfold bc; simp
    have h1' : Own base w' v' (l ++ [c]) := by
      unfold Own
      rw [e, List.length_append]
      exact h1
    obtain ⟨g, cap, rfl⟩ : ∃ g cap, v' = .slice (some ⟨g, 0, none⟩) (l ++ [c]).length cap := by
      rcases h1'.2 with ⟨_, k⟩ | ⟨g, cap, cur, k, _⟩
      · simp at k
      · exact ⟨g, cap, k⟩
    exact h g cap w' h1' ((World.grownBy_alloc W _ _).trans h2)
theorem own_below {base : Nat} {w W W' : World} {v : Value} {l : List Nat} (ho : Own base W v l) (hb : Below base w W) (hbs : base ≤ W.heap.size) (hg : W.grownBy W' v.ownBlock) : Below base w W' :=
  hb.grown hg hbs (fun k hk => (World.ownsRow.lt ho k hk).1)
theorem own_new (w : World) (c : Nat) : Own w.heap.size (w.alloc (.cells #[.int .u8 (c : Nat)] 5)) (.slice (some ⟨w.heap.size, 0, none⟩) 1 1) [c] :=
  ⟨rfl, Or.inr ⟨w.heap.size, 1, #[.int .u8 (c : Nat)], rfl, Nat.le_refl _, hp_new w _, Nat.le_refl _, by unfold maxLen; omega, rfl, rfl⟩⟩
theorem own_rd {base B : Nat} {W : World} {v : Value} {l : List Nat} (h : Own base W v l) (hB : B < base) : Rd B W v l := by
  rcases h.2 with ⟨rfl, hn⟩ | ⟨g, cap, cur, rfl, hb, hh, hnc, _⟩
  · exact ⟨none, 0, by rw [hn], by omega, fun hl => absurd (List.eq_nil_of_length_eq_zero hn) hl⟩
  · refine ⟨_, cap, rfl, hnc, fun hl => ⟨g, 0, rfl, by omega, fun k hk => ?_⟩⟩
    rw [Nat.zero_add, World.ownsRow.cellAt h k (by omega)]
    simp [bc, hk]

def PHead (n : Nat) (w : World) (t : Value) (W : World) : Prop :=
  ∃ z g cap, z ≤ zz n ∧ t = .slice (some ⟨g, 0, none⟩) (z + 1) cap ∧ Own w.heap.size W t (128 :: List.replicate z 0) ∧ Below w.heap.size w W
def QHead (n : Nat) (w : World) (t i : Value) (W : World) : Prop :=
  ∃ k g cap, k ≤ 8 ∧ i = .int .i64 (k : Nat) ∧ t = .slice (some ⟨g, 0, none⟩) (zz n + 1 + k) cap ∧ Own w.heap.size W t (128 :: (List.replicate (zz n) 0 ++ (eight n).take k)) ∧ Below w.heap.size w W
def PadTold (n : Nat) (w : World) (e : Ending) (w' : World) : Prop := ∃ v, e = .returned v ∧ Own w.heap.size w' v (pad n) ∧ Below w.heap.size w w'
theorem eight_take (n k : Nat) (h : k < 8) : (eight n).take (k + 1) = (eight n).take k ++ [n * 8 / 2 ^ (8 * (7 - k)) % 256] := by
  have hl : (eight n).length = 8 := by simp [eight]
  rw [List.take_succ_eq_append_getElem (by omega)]
  congr 1
  simp [eight]
theorem eight_len (n k : Nat) (h : k ≤ 8) : ((eight n).take k).length = k := by simp [eight]; omega
set_option maxHeartbeats 2000000 in
theorem padding_any (n : Nat) (w : World) (hn : n ≤ 1099511627776) : Calls Tryd.prog 15 #[.int .i64 (n : Nat)] w (PadTold n w) := by
  have hzz : zz n < 64 := Nat.mod_lt _ (by decide)
  go_enter Tryd.func15, Tryd.ntmps15
  go_wp2
  go_loopw [3] (fun t W => PHead n w t W) (fun t _ => 65 - lenOf t)
  case atStart => exact ⟨0, _, _, by omega, rfl, own_new w 128, (Below.refl _ _).alloc (Nat.le_refl _) _⟩
  case round =>
    obtain ⟨z, g, cap, hz, rfl, ho, hb⟩ := hrel
    have HO := Lib.hid ho
    have hbs := hb.size
    by_cases hlt : z < zz n
    · have t1 : (((n : Int) + ((z : Int) + 1) + 8) % 64 != 0) = true := by unfold zz at hlt; simp; omega
      clear ho
      go_wp2_with (at_builtin; refine app_byte rfl _ _ rfl w.heap.size wr (.slice (some ⟨g, 0, none⟩) (z + 1) cap) (128 :: List.replicate z 0) 0 0 rfl rfl rfl HO.out (by simp; omega) hbs ?_; intro g' cap' w1 ho' hg)
      go_roundw
      case rel =>
        refine ⟨z + 1, g', cap', by omega, by simp, ?_, own_below HO.out hb hbs hg⟩
        have e : (128 :: List.replicate z 0 ++ [0] : List Nat) = 128 :: List.replicate (z + 1) 0 := by rw [List.replicate_succ', List.cons_append]
        rw [e] at ho'
        have e2 : (128 :: List.replicate z 0 ++ [0] : List Nat).length = z + 1 + 1 := by simp
        first | exact ho' | (simpa using ho')
      case measure => simp [lenOf]; omega
    · obtain rfl : z = zz n := by omega
      have t1 : (((n : Int) + (((zz n : Nat) : Int) + 1) + 8) % 64 != 0) = false := by
        have := pad_mult n
        rw [pad_len] at this
        simp; omega
      go_wp2
      go_loopw [3, 20] (fun t i W => QHead n w t i W) (fun _ i _ => 8 - (intOf i).toNat)
      case atStart => exact ⟨0, g, cap, by omega, rfl, rfl, by simpa using ho, hb⟩
      case round =>
        obtain ⟨k, g, cap, hk, rfl, rfl, ho, hb⟩ := hrel
        have HO := Lib.hid ho
        have hbs := hb.size
        by_cases hlt : k < 8
        · have hd : ((n : Int) * 8) / 2 ^ (8 * (7 - k)) % 256 = ((n * 8 / 2 ^ (8 * (7 - k)) % 256 : Nat) : Int) := by rw [Int.natCast_emod, Int.natCast_ediv, Int.natCast_pow, Int.natCast_mul]; rfl
          have ET := Lib.hid (eight_take n k hlt)
          generalize n * 8 / 2 ^ (8 * (7 - k)) % 256 = c at *
          clear ho
          go_wp2_with (at_builtin; refine app_byte rfl _ _ rfl w.heap.size wr (.slice (some ⟨g, 0, none⟩) (zz n + 1 + k) cap) (128 :: (List.replicate (zz n) 0 ++ (eight n).take k)) c (c : Nat) rfl rfl rfl HO.out (by have := eight_len n k (by omega); simp only [List.length_cons, List.length_append, List.length_replicate]; omega) hbs ?_; intro g' cap' w1 ho' hg)
          go_roundw
          case rel =>
            have e2 : (128 :: (List.replicate (zz n) 0 ++ (eight n).take k) ++ [c] : List Nat).length = zz n + 1 + (k + 1) := by
              have := eight_len n k (by omega)
              simp only [List.length_cons, List.length_append, List.length_replicate, List.length_nil]; omega
            have e3 : zz n + (min k (eight n).length + 1) + 1 = zz n + 1 + (k + 1) := by
              rw [show (eight n).length = 8 by simp [eight]]; omega
            rw [e2] at ho'
            rw [e3]
            refine ⟨k + 1, g', cap', by omega, by go_num, rfl, ?_, own_below HO.out hb hbs hg⟩
            rw [ET.out, ← List.append_assoc, ← List.cons_append]
            exact ho'
          case measure => simp [intOf]; omega
        · obtain rfl : k = 8 := by omega
          go_wp2
          go_ret
          refine ⟨_, rfl, ?_, hb⟩
          have e : (eight n).take 8 = eight n := List.take_of_length_le (by simp [eight])
          rw [e] at ho
          exact ho
end Go.Proofs.YtbmhddkmggoicaaDoor.sha
