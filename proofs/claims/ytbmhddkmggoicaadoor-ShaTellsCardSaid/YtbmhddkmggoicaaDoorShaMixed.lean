/-
  What sha.mixed answers: the five words behind a block. Condition: the words are words, the bytes are bytes.
-/
import Derived.Test.YtbmhddkmggoicaaDoorShaSpread
namespace Go.Proofs.YtbmhddkmggoicaaDoor.sha
open Go.ChangeShapes Go.WideShapes Go.ChangeAt Go.RowKit
open sx
set_option linter.unusedVariables false

theorem cs5s (s : V5) : cs .u32 s.at 5 = #[.int .u32 (s.a : Nat), .int .u32 (s.b : Nat), .int .u32 (s.c : Nat), .int .u32 (s.d : Nat), .int .u32 (s.e : Nat)] := rfl
theorem row_cell {w : World} {g : Nat} {c : Array Value} {t : TypeId} {fr : Nat × Nat} (h : w.heap[g]? = some (.cells c t fr)) (j : Nat) (v : Value) (hv : c[j]? = some v) : w.cell? ⟨g, j, none⟩ = some v := by
  rw [cell_of_row w g j c t fr h]; exact hv
def fin (h s : V5) : V5 := ⟨add32 h.a s.a, add32 h.b s.b, add32 h.c s.c, add32 h.d s.d, add32 h.e s.e⟩
theorem mixV_fin (h : V5) (f : Nat → Nat) : mixV h f = fin h (stps (wd f) h 80) := rfl
theorem add32_int (x y : Nat) : ((add32 x y : Nat) : Int) = ((x : Int) + (y : Int)) % 4294967296 := by unfold add32; omega
theorem fin5 (h s : V5) : cs .u32 (fin h s).at 5 = #[.int .u32 (((h.a : Int) + (s.a : Int)) % 4294967296), .int .u32 (((h.b : Int) + (s.b : Int)) % 4294967296), .int .u32 (((h.c : Int) + (s.c : Int)) % 4294967296), .int .u32 (((h.d : Int) + (s.d : Int)) % 4294967296), .int .u32 (((h.e : Int) + (s.e : Int)) % 4294967296)] := by
  rw [cs5s, ← add32_int, ← add32_int, ← add32_int, ← add32_int, ← add32_int]
  rfl
def Five (h : V5) (f : Nat → Nat) (W : World) (A B C D E t : Value) (W' : World) : Prop :=
  ∃ i n : Nat, i ≤ 80 ∧ t = .int .i64 i ∧ A = .int .u32 ((stps (wd f) h i).a : Nat) ∧ B = .int .u32 ((stps (wd f) h i).b : Nat) ∧ C = .int .u32 ((stps (wd f) h i).c : Nat) ∧ D = .int .u32 ((stps (wd f) h i).d : Nat) ∧ E = .int .u32 ((stps (wd f) h i).e : Nat) ∧ W' = W.drewN n
set_option maxHeartbeats 4000000 in
theorem mixed_any (h : V5) (f : Nat → Nat) (w : World) (hh : h.Ok) (hf : Byt f 64) : Calls Tryd.prog 21 #[.agg (cs .u32 h.at 5), .agg (cs .u8 f 64)] w fun e w' => e = .returned (.agg (cs .u32 (mixV h f).at 5)) ∧ Below w.heap.size w w' := by
  have hz := zv80
  have SP := Lib.hid (fun W => spread_any f W hf)
  go_enter Tryd.func21, Tryd.ntmps21
  go_wp2_with (first
    | (refine wpList_load_row rfl 36 (.tmp 3) rfl (w.heap.size + 1) rfl _ _ _ _ (hp_old (hp_new1 w _ _) _) Tryd.underlying36 rfl (szc sz64 _ _) ?_)
    | (go_at_call 25; (with_reducible refine (SP.out _).mono ?_); rintro e w1 ⟨rfl, hb⟩)
    | (refine wpList_store_row rfl 59 (.tmp 5) (.tmp 16) rfl _ _ rfl rfl _ _ (hp_new _ _) (szc sz80 _ _) (by rw [cs_size]; exact cs_size _ _ _) (cs_one _ _ _) ?_; rw [World.setRow_alloc_new]))
  obtain ⟨W5, HW⟩ : ∃ W5, W5 = w1.alloc (.cells (cs .u32 (wd f) 80) 59) := ⟨_, rfl⟩
  rw [← HW]
  have g0 : W5.heap[w.heap.size]? = some (.cells (cs .u32 h.at 5) 28) := by
    rw [HW]; refine hp_old ?_ _; rw [hb.block _ (by simp; omega)]; exact hp_old (hp_old (hp_new w _) _) _
  have g2 : W5.heap[w.heap.size + 1 + 1]? = some (.cells z5 28) := by
    rw [HW]; refine hp_old ?_ _; rw [hb.block _ (by simp)]; exact hp_new2 w _ _ _
  have g3 : W5.heap[w1.heap.size]? = some (.cells (cs .u32 (wd f) 80) 59) := by rw [HW]; exact hp_new _ _
  have HB : Below w.heap.size w W5 := by
    rw [HW]
    exact ((bel3 w _ _ _ 0).trans (hb.mono (by simp; omega))).alloc (by have := hb.size; simp at this; omega) _
  clear HW hb hz SP
  generalize w1.heap.size = G at *
  have d0 : W5.cell? ⟨w.heap.size, 0, none⟩ = some (.int .u32 (h.a : Nat)) := row_cell g0 0 _ rfl
  have d1 : W5.cell? ⟨w.heap.size, 1, none⟩ = some (.int .u32 (h.b : Nat)) := row_cell g0 1 _ rfl
  have d2 : W5.cell? ⟨w.heap.size, 2, none⟩ = some (.int .u32 (h.c : Nat)) := row_cell g0 2 _ rfl
  have d3 : W5.cell? ⟨w.heap.size, 3, none⟩ = some (.int .u32 (h.d : Nat)) := row_cell g0 3 _ rfl
  have d4 : W5.cell? ⟨w.heap.size, 4, none⟩ = some (.int .u32 (h.e : Nat)) := row_cell g0 4 _ rfl
  have G2 := Lib.hid g2
  have GW := Lib.hid (fun j hj => row_cell g3 j _ (cs_get .u32 (wd f) 80 j hj))
  clear g0 g2 g3
  refine still_region (by kernel_rfl) (by kernel_rfl) ?_
  repeat still_step
  refine wpStill_nil ?_
  go_wp2
  go_loopw [6, 7, 8, 9, 10, 27] (fun A B C D E t W' => Five h f W5 A B C D E t W') (fun _ _ _ _ _ t _ => 80 - (intOf t).toNat)
  case atStart => exact ⟨0, 1, by omega, rfl, rfl, rfl, rfl, rfl, rfl, rfl⟩
  case round =>
    obtain ⟨i, n, hi, rfl, rfl, rfl, rfl, rfl, rfl, rfl⟩ := hrel
    have ok := stps_ok (wd f) hh i
    by_cases hlt : i < 80
    · have hw := GW.out i hlt
      have lw := wd_lt f hf i
      have NX := Lib.hid (show stps (wd f) h (i + 1) = sx.step i (wd f i) (stps (wd f) h i) from rfl)
      obtain ⟨la, lb, lc, ld, le⟩ := ok
      have CH := Lib.hid (fun W => chosen_any i _ _ _ W hlt lb lc ld)
      have R5 := Lib.hid (fun W => rot5 _ W la)
      have R30 := Lib.hid (fun W => rot30 _ W lb)
      have hq := ff_lt i _ _ _ lb lc ld
      have hk := kk_lt i
      have hr := rot_lt _ 5 la
      have TT := Lib.hid (show tt i (wd f i) (stps (wd f) h i) = (rot (stps (wd f) h i).a 5 + ff i (stps (wd f) h i).b (stps (wd f) h i).c (stps (wd f) h i).d + (stps (wd f) h i).e + kk i + wd f i) % 4294967296 from rfl)
      generalize wd f i = X at *
      generalize ff i (stps (wd f) h i).b (stps (wd f) h i).c (stps (wd f) h i).d = F at *
      generalize kk i = KK at *
      generalize rot (stps (wd f) h i).a 5 = RA at *
      go_wp2_with (go_at_call 26; (with_reducible refine (CH.out _).mono ?_); rintro e w' ⟨rfl, rfl⟩)
      refine still_region (by kernel_rfl) (by kernel_rfl) ?_
      repeat still_step
      still_call (calls_turn (R5.out _))
      repeat still_step
      refine wpStill_nil ?_
      go_wp2_with (go_at_call 27; (with_reducible refine (R30.out _).mono ?_); rintro e w' ⟨rfl, rfl⟩)
      refine ⟨⟨i + 1, n + 1, by omega, by go_num, ?_, by rw [NX.out]; rfl, by rw [NX.out]; rfl, by rw [NX.out]; rfl, by rw [NX.out]; rfl, rfl⟩, by simp [intOf]; omega⟩
      rw [NX.out]
      show Value.int .u32 _ = .int .u32 ((tt i X (stps (wd f) h i) : Nat) : Int)
      rw [TT.out]
      congr 1
      simp only [IntKind.wrap_u32']
      omega
    · obtain rfl : i = 80 := by omega
      have r0 : W5.cell? ⟨w.heap.size + 1 + 1, 0, none⟩ = some (.int .u32 0) := row_cell G2.out 0 _ rfl
      have r1 : W5.cell? ⟨w.heap.size + 1 + 1, 1, none⟩ = some (.int .u32 0) := row_cell G2.out 1 _ rfl
      have r2 : W5.cell? ⟨w.heap.size + 1 + 1, 2, none⟩ = some (.int .u32 0) := row_cell G2.out 2 _ rfl
      have r3 : W5.cell? ⟨w.heap.size + 1 + 1, 3, none⟩ = some (.int .u32 0) := row_cell G2.out 3 _ rfl
      have r4 : W5.cell? ⟨w.heap.size + 1 + 1, 4, none⟩ = some (.int .u32 0) := row_cell G2.out 4 _ rfl
      have fz : ∀ j, W5.frozen? ⟨w.heap.size + 1 + 1, j, none⟩ = false := fun j => frozen_of_row _ _ _ _ _ G2.out
      have MV := Lib.hid (fin5 h (stps (wd f) h 80))
      go_wp2
      refine bodyPost_ret (v := .agg #[.int .u32 (((h.a : Int) + ((stps (wd f) h 80).a : Int)) % 4294967296), .int .u32 (((h.b : Int) + ((stps (wd f) h 80).b : Int)) % 4294967296), .int .u32 (((h.c : Int) + ((stps (wd f) h 80).c : Int)) % 4294967296), .int .u32 (((h.d : Int) + ((stps (wd f) h 80).d : Int)) % 4294967296), .int .u32 (((h.e : Int) + ((stps (wd f) h 80).e : Int)) % 4294967296)]) (by simp [results, Tryd.results21, go_sem, r0, r1, r2, r3, r4]) rfl ⟨by rw [mixV_fin, MV.out], ?_⟩
      repeat (refine Below.setCell ?_ (by simp; omega) _)
      exact bel_drewN HB _
end Go.Proofs.YtbmhddkmggoicaaDoor.sha
