/-
  What package head's Encode answers: a head's bytes in new memory, or none. Condition: none.
-/
import Derived.Test.YtkdmecpelfcbmaaHead
import Derived.Test.YtkdmecpelfcbmaaOctUse
namespace Go.Proofs.Ytkdmecpelfcbmaa.head
open Go.ChangeShapes Go.WideShapes Go.ChangeAt Go.RowKit
open om mem oct hd
set_option linter.unusedVariables false
set_option maxRecDepth 100000

def EncTold (w : World) (h : Hd) (e : Ending) (w' : World) : Prop :=
  ∃ v', e = .returned (.tuple #[v', .bool (okB h)]) ∧ Own w.heap.size w' v' (enc h) ∧ Below w.heap.size w w'
theorem cpS : (Try.prog.info? 5).map (·.size) = some 1 := by kernel_rfl
theorem made20 : madeCells (Value.int .u8 0).cells 20 = #[.int .u8 0, .int .u8 0, .int .u8 0, .int .u8 0, .int .u8 0, .int .u8 0, .int .u8 0, .int .u8 0, .int .u8 0, .int .u8 0, .int .u8 0, .int .u8 0, .int .u8 0, .int .u8 0, .int .u8 0, .int .u8 0, .int .u8 0, .int .u8 0, .int .u8 0, .int .u8 0] := by kernel_rfl
/-- 'make([]byte, 20)'. -/
theorem make20 (W : World) : (Instr.makeSlice 29 (.int .i64 20) (.int .i64 20)).run Try.prog W = .ok (.slice (some ⟨W.heap.size, 0, none⟩) 20 20) (W.alloc (.cells #[.int .u8 0, .int .u8 0, .int .u8 0, .int .u8 0, .int .u8 0, .int .u8 0, .int .u8 0, .int .u8 0, .int .u8 0, .int .u8 0, .int .u8 0, .int .u8 0, .int .u8 0, .int .u8 0, .int .u8 0, .int .u8 0, .int .u8 0, .int .u8 0, .int .u8 0, .int .u8 0] 5)) := by
  obtain ⟨i0, hi, hz0, hz1, hz2⟩ := info_parts infoB
  have := run_make (P := Try.prog) W 29 5 i0 _ Try.underlying29 hi hz0 .i64 .i64 20 20 (by decide) (by decide) (by rw [hz2]; decide) (by decide)
  rw [hz1, Nat.mul_one, show (20 : Int).toNat = 20 from rfl, made20] at this
  exact this
theorem alloc_set (W : World) (a b : Array Value) (t : TypeId) : (W.alloc (.cells a t)).setRow W.heap.size b = W.alloc (.cells b t) := by
  unfold World.setRow World.alloc
  simp only [World.mk.injEq, and_true]
  refine Array.ext (by simp) fun i h1 h2 => ?_
  rw [Array.getElem_modify]
  by_cases e : W.heap.size = i
  · subst e
    simp
  · rw [if_neg e]
    have : i < W.heap.size := by simp at h2; omega
    rw [Array.getElem_push_lt this, Array.getElem_push_lt this]
/-- 'copy(b, "TZif")'. -/
theorem copy20 (W : World) : (Builtin.copy_ #[29, 9] 3 #[.slice (some ⟨W.heap.size, 0, none⟩) 20 20, .string ⟨#[84, 90, 105, 102]⟩]).run Try.prog (W.alloc (.cells #[.int .u8 0, .int .u8 0, .int .u8 0, .int .u8 0, .int .u8 0, .int .u8 0, .int .u8 0, .int .u8 0, .int .u8 0, .int .u8 0, .int .u8 0, .int .u8 0, .int .u8 0, .int .u8 0, .int .u8 0, .int .u8 0, .int .u8 0, .int .u8 0, .int .u8 0, .int .u8 0] 5)) =
    .ok (.int .i64 4) (W.alloc (.cells #[.int .u8 84, .int .u8 90, .int .u8 105, .int .u8 102, .int .u8 0, .int .u8 0, .int .u8 0, .int .u8 0, .int .u8 0, .int .u8 0, .int .u8 0, .int .u8 0, .int .u8 0, .int .u8 0, .int .u8 0, .int .u8 0, .int .u8 0, .int .u8 0, .int .u8 0, .int .u8 0] 5)) := by
  have := Lib.run_copy_row_string (P := Try.prog) (W.alloc (.cells #[.int .u8 0, .int .u8 0, .int .u8 0, .int .u8 0, .int .u8 0, .int .u8 0, .int .u8 0, .int .u8 0, .int .u8 0, .int .u8 0, .int .u8 0, .int .u8 0, .int .u8 0, .int .u8 0, .int .u8 0, .int .u8 0, .int .u8 0, .int .u8 0, .int .u8 0, .int .u8 0] 5)) 29 9 3 5 W.heap.size 0 20 20 ⟨#[84, 90, 105, 102]⟩ #[.int .u8 0, .int .u8 0, .int .u8 0, .int .u8 0, .int .u8 0, .int .u8 0, .int .u8 0, .int .u8 0, .int .u8 0, .int .u8 0, .int .u8 0, .int .u8 0, .int .u8 0, .int .u8 0, .int .u8 0, .int .u8 0, .int .u8 0, .int .u8 0, .int .u8 0, .int .u8 0] 5 Try.underlying29 cpS (hp_new W _) (by decide) (by decide)
  rw [alloc_set] at this
  exact this
theorem put_one (h : Hd) (hok : Ok h) (k : Nat) (hk : k < 6) (w W : World) (v : Value) (ho : Own w.heap.size W v (pref h.v ++ lay4s ((nums h).take k))) (hb : Below w.heap.size w W) :
    Calls Try.prog 59 #[v, .int .i64 ((nums h)[k]'(by exact hk)), .int .i64 4] W fun e w' => ∃ v', e = .returned (.tuple #[v', .bool true]) ∧ Own w.heap.size w' v' (pref h.v ++ lay4s ((nums h).take (k + 1))) ∧ Below w.heap.size w w' := by
  have hk' : k < (nums h).length := hk
  have bd : -2147483648 ≤ (nums h)[k]'(by exact hk) ∧ (nums h)[k]'(by exact hk) ≤ 2147483647 := by
    obtain ⟨k1, k2, k3, k4, k5, k6, k7⟩ := hok
    obtain rfl | rfl | rfl | rfl | rfl | rfl : k = 0 ∨ k = 1 ∨ k = 2 ∨ k = 3 ∨ k = 4 ∨ k = 5 := by omega
    all_goals simp only [nums, List.getElem_cons_zero, List.getElem_cons_succ]; omega
  have hf : fitB ((nums h)[k]'(by exact hk)) 4 = true := fit_iff.2 (fits4 bd)
  have hl : (pref h.v ++ lay4s ((nums h).take k)).length < 2000000000000 := by
    rw [List.length_append, lay4s_len, List.length_take]
    have : (pref h.v).length = 20 := rfl
    omega
  refine (put_at _ v _ 4 W ⟨by omega, by omega⟩ ⟨by decide, by decide⟩ (own_by ho).rd hl).mono ?_
  rintro e w' ⟨v', rfl, ho', hb'⟩
  rw [put_yes hf] at ho'
  refine ⟨v', by rw [hf], ?_, btr hb hb'⟩
  rw [List.take_succ_eq_append_getElem hk', lay4s_snoc, ← List.append_assoc]
  exact own_mono ho' hb.size
/-- at the head of a round. -/
def EHead (h : Hd) (w : World) (b i : Value) (W : World) : Prop :=
  ∃ (k : Nat) (v : Value), k ≤ 6 ∧ i = .int .i64 (k : Nat) ∧ v = b ∧ Own w.heap.size W v (pref h.v ++ lay4s ((nums h).take k)) ∧ Below w.heap.size w W
end Go.Proofs.Ytkdmecpelfcbmaa.head
