/-
  'append(b, make([]byte, k)...)' of a row of bytes of the call's own; a store into such a row. Nothing of any one function. Conditions: as said.
-/
import Derived.Test.YtkdmecpelfcbmaaOctCalls
import Derived.Lib.AppendZerosOnto
import Derived.Laws.AppendOwn
import Derived.OwnWalk
namespace Go.Proofs.Ytkdmecpelfcbmaa.oct
open Go.ChangeShapes Go.WideShapes Go.ChangeAt Go.RowKit
open om mem
set_option linter.unusedVariables false
set_option maxRecDepth 100000

theorem zeros_bc (k : Nat) : Builtin.zeroCells (Value.int .u8 0).cells k = (bc (List.replicate k 0)).toArray := by
  apply Array.ext
  · simp [size_zeroCells, bc, Value.cells]
  · intro i h1 h2
    simp [Builtin.zeroCells, bc, Value.cells, Nat.mod_one]
theorem zeros_room (W : World) (g n cap k : Nat) (cur : Array Value) (hg : W.heap[g]? = some (.cells cur 5 (0, 0))) (hk : 0 < k) (hsm : k < 1000000) (hroom : n + k ≤ cap) (hfit : n + k ≤ cur.size) :
    (Builtin.append_ #[29, 3] 29 #[.slice (some ⟨g, 0, none⟩) n cap, .int .i64 (k : Nat)]).run Try.prog W =
      .ok (.slice (some ⟨g, 0, none⟩) (n + k) cap) (W.setRow g (cur.toList.take n ++ bc (List.replicate k 0) ++ cur.toList.drop (n + k)).toArray) := by
  obtain ⟨i0, hi, hz0, hz1, hz2⟩ := info_parts infoB
  have hl : (bc (List.replicate k 0)).length = k := by rw [bc_len, List.length_replicate]
  have hst := run_storeCells_at Try.prog g n 5 (bc (List.replicate k 0)) 0 cur W hg (by rw [hl]; simpa using hfit) (bc_one _)
  simp only [Nat.add_zero, hl] at hst
  have hk' : k ≠ 0 := by omega
  have hw : IntKind.i64.wrap (k : Int) = k := by rw [IntKind.wrap_i64]; omega
  have h48i : ¬ (281474976710656 < (k : Int)) := by omega
  have hneg : ¬ ((k : Int) < 0) := by omega
  have hzb := zeros_bc k
  simp [Builtin.append_, run_underlying Try.underlying29, run_underlying Try.underlying3, sizeOf, typeInfo, zeroValue, hi, hz0, hz1, hz2, asInt, asIntOf, hw, hneg, hk', h48i, hroom, hzb, Addr.add_lit, hst]
/-- 'append(b, make([]byte, k)...)', as a run. -/
theorem zeros_ex (base : Nat) (W : World) (g n cap k : Nat) (l : List Nat) (hown : Own base W (.slice (some ⟨g, 0, none⟩) n cap) l) (hk : 0 < k) (hsm : k < 1000000) (hl : l.length < 1000000) (hbase : base ≤ W.heap.size) :
    ∃ v' w', (Builtin.append_ #[29, 3] 29 #[.slice (some ⟨g, 0, none⟩) n cap, .int .i64 (k : Nat)]).run Try.prog W = .ok v' w' ∧ Own base w' v' (l ++ List.replicate k 0) ∧ W.grownBy w' (some g) := by
  have h0 := hown
  rcases hown.2 with ⟨e, _⟩ | ⟨g', cap', cur, e, hbg, hg, hnc, hcm, hcs, htake⟩
  · cases e
  · cases e
    have hlen : (bc (l ++ List.replicate k 0)).length = (l ++ List.replicate k 0).length * 1 := by rw [bc_len, Nat.mul_one]
    have hll : (l ++ List.replicate k 0).length = l.length + k := by rw [List.length_append, List.length_replicate]
    have hcs' : cur.size = cap := by simpa using hcs
    have ht' : cur.toList.take l.length = bc l := by simpa using htake
    by_cases hroom : l.length + k ≤ cap
    · refine ⟨_, _, zeros_room W g l.length cap k cur hg hk hsm hroom (by omega), ⟨hlen, .inr ⟨g, cap, _, by rw [hll], hbg, setRow_heap W g cur _ _ _ hg, by rw [hll]; exact hroom, hcm, ?_, ?_⟩⟩, ⟨rfl, rfl, rfl, by simp, fun j _ hj => setRow_other W g j _ (fun e => hj (by rw [e]))⟩⟩
      · simp only [List.size_toArray, List.length_append, List.length_take, List.length_drop, Array.length_toList, bc_len, List.length_replicate]
        omega
      · rw [ht', ← bc_app, ← hlen]
        exact List.take_left
    · obtain ⟨i0, hi, hz0, hz1, hz2⟩ := info_parts infoB
      have hf := run_firstCells_some (P := Try.prog) W.drew 1 l.length ⟨g, 0, none⟩ l.length cap (bc l) (by rw [bc_len]; omega) (fun j v hj => by
        have := h0.cells (g := g) rfl j v hj
        exact this)
      have hr := Lib.run_append_grow_zeros (P := Try.prog) W 29 3 29 5 i0 (.int .u8 0) .i64 .i64 Try.underlying29 Try.underlying3 hi hz0 (some ⟨g, 0, none⟩) l.length cap (bc l) (by rw [hz1]; exact hf) k hk (by omega) (by omega) (by omega) (by rw [hz2]; omega) (by rw [hz2]; exact growslice_fits (by unfold maxLen at hcm; omega) (by omega))
      rw [zeros_bc k] at hr
      refine ⟨_, _, hr, ⟨hlen, .inr ⟨W.heap.size, _, _, by rw [hll], hbase, heap_alloc_new W.drew _, by rw [hll]; exact grownCap_ge W _ _ _, grownCap_le_maxLen W _ _ _ (by unfold maxLen; omega), ?_, ?_⟩⟩, ⟨rfl, rfl, rfl, by simp, fun j hj _ => Below.heap_alloc W.drew _ j hj⟩⟩
      · have hge := grownCap_ge W (l.length + k) cap 5
        have hz1' : (Value.int IntKind.u8 0).cells.size = 1 := rfl
        simp only [Array.size_append, List.size_toArray, size_zeroCells, hz1', bc_len, List.length_replicate]
        omega
      · simp only [Array.toList_append, List.append_assoc]
        rw [← List.append_assoc, ← bc_app, ← hlen]
        exact List.take_left
/-- a store into a row of the call's own. -/
theorem own_set {base : Nat} {W : World} {g n cap : Nat} {l : List Nat} (hown : Own base W (.slice (some ⟨g, 0, none⟩) n cap) l) (i : Nat) (hi : i < l.length) (x : Nat) : Own base (W.setCell ⟨g, i, none⟩ (.int .u8 (x : Nat))) (.slice (some ⟨g, 0, none⟩) n cap) (l.set i x) := by
  rcases hown.2 with ⟨e, _⟩ | ⟨g', cap', cur, e, hbg, hg, hnc, hcm, hcs, htake⟩
  · cases e
  · cases e
    refine ⟨by rw [bc_len]; simp, .inr ⟨g, cap, _, by rw [List.length_set], hbg, heap_setCell_same W g i _ _ _ hg, by rw [List.length_set]; exact hnc, hcm, by simpa using hcs, ?_⟩⟩
    rw [List.length_set, Array.toList_setIfInBounds, List.take_set, htake]
    unfold bc
    rw [List.map_set]
theorem own_cellF {base : Nat} {W : World} {g n cap : Nat} {l : List Nat} (hown : Own base W (.slice (some ⟨g, 0, none⟩) n cap) l) (i : Nat) (hi : i < l.length) : W.cell? ⟨g, i, none⟩ = some (.int .u8 (l[i] : Nat)) ∧ W.frozen? ⟨g, i, none⟩ = false := by
  have h0 := hown
  rcases hown.2 with ⟨e, _⟩ | ⟨g', cap', cur, e, hbg, hg, hnc, hcm, hcs, htake⟩
  · cases e
  · cases e
    refine ⟨?_, fz hg i⟩
    rw [World.ownsRow.cellAt h0 i (by omega)]
    simp [bc, hi]
end Go.Proofs.Ytkdmecpelfcbmaa.oct
