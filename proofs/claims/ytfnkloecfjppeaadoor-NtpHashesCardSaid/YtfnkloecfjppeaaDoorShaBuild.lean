/-
  What the library's (*strings.Builder).copyCheck and WriteByte do to a builder that the call has made: it holds one byte more, and nothing below its own memory turns. Conditions: as said.
-/
import Derived.Test.YtfnkloecfjppeaaDoorShaPad
import Derived.Test.YtfnkloecfjppeaaDoorShelf
import Derived.Lib.Builder
import Derived.Lib.Walk
import Derived.Laws.Externs
namespace Go.Proofs.YtfnkloecfjppeaaDoor.sha
open Go.ChangeShapes Go.WideShapes Go.ChangeAt Go.RowKit
open sx
set_option linter.unusedVariables false

theorem szBuilder : (Tryd.prog.info? 49).map (·.size) = some 2 := by kernel_rfl
/-- a builder at block b that holds the bytes l. -/
def Bld (B b : Nat) (l : List Nat) (w : World) : Prop := Lib.IsBuilder 49 5 B b (bc l) w
def BldAt (B b : Nat) (l : List Nat) (w : World) : Prop := Lib.BuilderAt 49 5 B b (.pointer (some ⟨b, 0, none⟩)) (bc l) w
set_option maxHeartbeats 1000000 in
theorem check_used (b : Nat) (w : World) (h0 : w.cell? ⟨b, 0, none⟩ = some (.pointer (some ⟨b, 0, none⟩))) :
    Calls Tryd.prog 33 #[.pointer (some ⟨b, 0, none⟩)] w fun e w' => e = .returned (.tuple #[]) ∧ w = w' := by
  obtain ⟨j, hj, _⟩ := Option.map_eq_some_iff.1 szBuilder
  go_enter Tryd.func33, Tryd.ntmps33
  go_wp2
  rw [Lib.run_neq_ptr_same w _ Tryd.underlying47 hj]
  go_wp2
  go_end0
  exact ⟨rfl, rfl⟩
set_option maxHeartbeats 1000000 in
theorem check_fresh (b : Nat) (w : World) (h0 : w.cell? ⟨b, 0, none⟩ = some (.pointer none)) (hsh : w.shape? b = some (49, 2)) (hfz : w.frozen? ⟨b, 0, none⟩ = false) :
    Calls Tryd.prog 33 #[.pointer (some ⟨b, 0, none⟩)] w fun e w' => e = .returned (.tuple #[]) ∧ w' = w.setCell ⟨b, 0, none⟩ (.pointer (some ⟨b, 0, none⟩)) := by
  obtain ⟨j, hj, hjs⟩ := Option.map_eq_some_iff.1 szBuilder
  go_enter Tryd.func33, Tryd.ntmps33
  go_wp2
  rw [Lib.run_to_unsafe w ⟨b, 0, none⟩ Tryd.underlying47 Tryd.underlying66 hj (by rw [hjs]; decide) hsh (Nat.zero_lt_succ 1)]
  simp only [Result.andThen]
  rw [Oper.upon_value]
  go_wp2
  rw [run_callFunc_extern Tryd.func39 (by kernel_rfl) (by kernel_rfl) (by kernel_rfl) (e := Extern.AbiNoEscape.same) (by kernel_rfl), Lib.run_noEscape]
  simp only [Result.andThen]
  rw [Oper.upon_value]
  go_wp2
  rw [Lib.run_from_unsafe w ⟨b, 0, none⟩ Tryd.underlying66 Tryd.underlying47 hj hsh (by kernel_rfl)]
  simp only [Result.andThen]
  rw [Oper.upon_value]
  go_wp2
  go_end0
  exact ⟨rfl, rfl⟩
theorem check_any (B b : Nat) (l : List Nat) (w : World) (h : Bld B b l w) :
    Calls Tryd.prog 33 #[.pointer (some ⟨b, 0, none⟩)] w fun e w' => e = .returned (.tuple #[]) ∧ BldAt B b l w' ∧ Below B w w' := by
  rcases h with h | h
  · exact (check_fresh b w h.cell0 h.shape h.frozen0).mono fun e w' ⟨he, hw⟩ => ⟨he, by rw [hw]; exact h.used _, by rw [hw]; exact (Below.refl B w).setCell (p := ⟨b, 0, none⟩) h.1 _⟩
  · exact (check_used b w h.cell0).mono fun e w' ⟨he, hw⟩ => ⟨he, by rw [← hw]; exact h, by rw [← hw]; exact Below.refl _ _⟩
theorem wrote {b : Nat} {w1 w2 : World} {v : Value} (hbk : w1.heap[b]? = some (.cells #[.pointer (some ⟨b, 0, none⟩), v] 49 (0, 0))) (hne : v.ownBlock ≠ some b) (hg : w1.grownBy w2 v.ownBlock) :
    Hid (w2.heap[b]? = some (.cells #[.pointer (some ⟨b, 0, none⟩), v] 49 (0, 0))) ∧ w2.cell? ⟨b, 0, none⟩ = some (.pointer (some ⟨b, 0, none⟩)) ∧ w2.cell? ⟨b, 1, none⟩ = some v ∧ w2.frozen? ⟨b, 1, none⟩ = false := by
  have h2 : w2.heap[b]? = some (.cells #[.pointer (some ⟨b, 0, none⟩), v] 49 (0, 0)) := by
    rw [hg.block b (Array.getElem?_eq_some_iff.1 hbk).1 (fun e => hne e.symm)]; exact hbk
  exact ⟨h2, row_cell h2 0 _ rfl, row_cell h2 1 _ rfl, frozen_of_row _ _ _ _ _ h2⟩
theorem opened {B b : Nat} {l : List Nat} {w1 : World} (h1 : BldAt B b l w1) : B ≤ b ∧ ∃ v, w1.cell? ⟨b, 0, none⟩ = some (.pointer (some ⟨b, 0, none⟩)) ∧ w1.cell? ⟨b, 1, none⟩ = some v ∧ Hid (Own B w1 v l) ∧ Hid (w1.heap[b]? = some (.cells #[.pointer (some ⟨b, 0, none⟩), v] 49 (0, 0))) ∧ Hid (v.ownBlock ≠ some b) := by
  obtain ⟨hBb, v, hbk, hown, hne⟩ := h1
  rw [bc_len] at hown
  exact ⟨hBb, v, row_cell hbk 0 _ rfl, row_cell hbk 1 _ rfl, hown, hbk, hne⟩
theorem put_at {B b : Nat} {w2 : World} {v v' : Value} {l : List Nat} (hB : B ≤ b) (hbk : w2.heap[b]? = some (.cells #[.pointer (some ⟨b, 0, none⟩), v] 49 (0, 0))) (ho : Own B w2 v' l) : BldAt B b l (w2.setCell ⟨b, 1, none⟩ v') :=
  Lib.BuilderAt.put hB hbk (by rw [bc_len]; exact ho) (by decide)
set_option maxHeartbeats 1000000 in
theorem write_any (B b : Nat) (l : List Nat) (c : Nat) (w : World) (h : Bld B b l w) (hl : l.length < 1000000) (hB : B ≤ w.heap.size) :
    Calls Tryd.prog 27 #[.pointer (some ⟨b, 0, none⟩), .int .u8 (c : Nat)] w fun e w' => e = .returned .nilIface ∧ BldAt B b (l ++ [c]) w' ∧ Below B w w' := by
  have C := Lib.hid (check_any B b l w h)
  clear h
  go_enter Tryd.func27, Tryd.ntmps27
  go_wp2_with (first
    | (go_at_call 33; (with_reducible refine C.out.mono ?_); rintro e w1 ⟨rfl, h1, hb1⟩; obtain ⟨hBb, v, c0, c1, HO, HK, HN⟩ := opened h1; have hs1 := hb1.size)
    | (at_builtin; refine app_byte rfl _ _ rfl B w1 v l c (c : Nat) rfl rfl rfl HO.out (by omega) (by omega) ?_; intro g cap w2 ho2 hg2; obtain ⟨K2, d0, d1, f1⟩ := wrote HK.out HN.out hg2))
  go_ret
  exact ⟨rfl, put_at hBb K2.out (by rw [List.length_append] at ho2; exact ho2), (own_below HO.out hb1 (by omega) hg2).setCell (p := ⟨b, 1, none⟩) hBb _⟩
end Go.Proofs.YtfnkloecfjppeaaDoor.sha
