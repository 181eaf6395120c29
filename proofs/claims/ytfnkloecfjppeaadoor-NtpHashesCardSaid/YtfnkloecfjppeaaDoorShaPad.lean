/-
  What sha.padding answers: what stands behind so many bytes, in new memory. Condition: the number is from 0 to 2^40.
-/
import Derived.Test.YtfnkloecfjppeaaDoorShaAdd
import Derived.Maps.AppendAt
import Derived.Laws.OwnMore
import Derived.Deep.AppendLies
namespace Go.Proofs.YtfnkloecfjppeaaDoor.sha
open Go.ChangeShapes Go.WideShapes Go.ChangeAt Go.RowKit
open sx
set_option linter.unusedVariables false

theorem infoB : (Tryd.prog.info? 5).map (fun i => (i.zero, i.size, i.bytes)) = some (some (.int .u8 0), 1, 1) := by kernel_rfl
/-- the call owns a row of bytes. -/
def Own (base : Nat) (W : World) (v : Value) (l : List Nat) : Prop := W.ownsRow base 5 1 v l.length (bc l)
/-- 'out = append(out, c)', out a row of bytes of the call's own. -/
theorem app_byte {ops : Array Oper} {rest : List Oper} {o : Oper} {a : Act} {Q : Exit → Act → World → Prop} (hgd : o.guard = none) (s x : Operand)
    (ho : o.op = .call { callee := .builtin .append, args := #[s, x], argTypes := #[36, 36] }) (base : Nat) (W : World) (v : Value) (l : List Nat) (c : Nat) (z : Int) (hz : z = (c : Nat))
    (hs : a.eval s = v) (hx : a.eval x = .slice (some ⟨W.heap.size, 0, none⟩) 1 1) (hown : Own base W v l) (hn : l.length < 8000000000000) (hbase : base ≤ W.heap.size)
    (h : ∀ g cap w', Own base w' (.slice (some ⟨g, 0, none⟩) (l ++ [c]).length cap) (l ++ [c]) → W.grownBy w' v.ownBlock → wpList Tryd.prog ops Q rest (a.put o.dst (.slice (some ⟨g, 0, none⟩) (l ++ [c]).length cap)) w') :
    wpList Tryd.prog ops Q (o :: rest) a (W.alloc (.cells #[.int .u8 z] 5)) := by
  subst hz
  obtain ⟨i0, hi, hz0, hz1, hz2⟩ := info_parts infoB
  refine wpList_append_own _ hgd s x 36 ho base 5 i0 _ 1 1 Tryd.underlying36 hi hz0 hz1 hz2 rfl (by decide) v l.length (bc l) hs (World.ownsRow.alloc hown _) ⟨W.heap.size, 0, none⟩ 1 1 (bc [c]) hx rfl (cell_one_new _ _ _) (bc_one [c]) ?_ (by omega) (by simp; omega) ?_
  · unfold maxLen; omega
  · intro v' w' h1 h2 _
    have e : bc (l ++ [c]) = bc l ++ bc [c] := by unfold bc; simp
    have h1' : Own base w' v' (l ++ [c]) := by
      unfold Own
      rw [e, List.length_append]
      exact h1
    obtain ⟨g, cap, rfl⟩ : ∃ g cap, v' = .slice (some ⟨g, 0, none⟩) (l ++ [c]).length cap := by
      rcases h1'.2 with ⟨_, k⟩ | ⟨g, cap, cur, k, _⟩
      · simp at k
      · exact ⟨g, cap, k⟩
    exact h g cap w' h1' ((World.grownBy_alloc W _ _).trans h2)
theorem own_below {base : Nat} {w W W' : World} {v : Value} {l : List Nat} (ho : Own base W v l) (hb : Below base w W) (hbs : base ≤ W.heap.size) (hg : W.grownBy W' v.ownBlock) : Below base w W' :=
  hb.grown hg hbs (fun k hk => (World.ownsRow.lt ho k hk).1)
theorem own_new (w : World) (c : Nat) : Own w.heap.size (w.alloc (.cells #[.int .u8 (c : Nat)] 5)) (.slice (some ⟨w.heap.size, 0, none⟩) 1 1) [c] :=
  ⟨rfl, Or.inr ⟨w.heap.size, 1, #[.int .u8 (c : Nat)], rfl, Nat.le_refl _, hp_new w _, Nat.le_refl _, by unfold maxLen; omega, rfl, rfl⟩⟩
theorem own_rd {base B : Nat} {W : World} {v : Value} {l : List Nat} (h : Own base W v l) (hB : B < base) : Rd B W v l := by
  rcases h.2 with ⟨rfl, hn⟩ | ⟨g, cap, cur, rfl, hb, hh, hnc, _⟩
  · exact ⟨none, 0, by rw [hn], by omega, fun hl => absurd (List.eq_nil_of_length_eq_zero hn) hl⟩
  · refine ⟨_, cap, rfl, hnc, fun hl => ⟨g, 0, rfl, by omega, fun k hk => ?_⟩⟩
    rw [Nat.zero_add, World.ownsRow.cellAt h k (by omega)]
    simp [bc, hk]

def PadTold (n : Nat) (w : World) (e : Ending) (w' : World) : Prop := ∃ v, e = .returned v ∧ Own w.heap.size w' v (pad n) ∧ Below w.heap.size w w'
theorem eight_take (n k : Nat) (h : k < 8) : (eight n).take (k + 1) = (eight n).take k ++ [n * 8 / 2 ^ (8 * (7 - k)) % 256] := by
  have hl : (eight n).length = 8 := by simp [eight]
  rw [List.take_succ_eq_append_getElem (by omega)]
  congr 1
  simp [eight]
theorem eight_len (n k : Nat) (h : k ≤ 8) : ((eight n).take k).length = k := by simp [eight]; omega
end Go.Proofs.YtfnkloecfjppeaaDoor.sha
