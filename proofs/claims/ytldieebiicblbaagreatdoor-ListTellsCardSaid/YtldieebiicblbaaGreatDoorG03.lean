/-
  What sha.spread answers: the eighty words of a block. Condition: the block's bytes are bytes.
-/
import Derived.Test.YtldieebiicblbaaGreatDoorG02
import Derived.Deep.RegionWith
import Derived.Laws.CopyOwn
namespace Go.Proofs.YtldieebiicblbaaGreatDoor.sha
open Go.ChangeShapes Go.WideShapes Go.ChangeAt Go.RowKit
open sx
set_option linter.unusedVariables false
set_option maxRecDepth 100000

def zero80 : Array Value := cs .u32 (fun _ => 0) 80
theorem zv80 : ∀ w, (zeroValue 143).run Tryz.prog w = .ok (.agg zero80) w :=
  (zero_of_info (P := Tryz.prog) (t := 143) (v := .agg zero80) (n := 80) (by kernel_rfl)).1
/-- the world at the heads of the rounds of spread. -/
def ws (w : World) (f : Nat → Nat) (g : Nat → Nat) : World := ((w.alloc (.cells (cs .u8 f 64) 104)).alloc (.cells zero80 143)).alloc (.cells (cs .u32 g 80) 143)
theorem prt_wd (f : Nat → Nat) : cs .u32 (prt f 64) 80 = cs .u32 (upto (wd f) 16) 80 := by
  apply cs_congr
  intro j hj
  unfold upto
  by_cases h : j < 16
  · rw [if_pos h, wd_small f j h, prt_all f 64 j (by omega)]
  · rw [if_neg h, prt_none f 64 j (by omega)]
theorem upto_get (g : Nat → Nat) (k n j : Nat) (h : j < k) (hn : j < n) : (cs .u32 (upto g k) n)[j]? = some (.int .u32 (g j : Nat)) := by
  rw [cs_get _ _ _ _ hn]; unfold upto; rw [if_pos h]
theorem xor4 (a b c d : Nat) (ha : a < 4294967296) (hb : b < 4294967296) (hc : c < 4294967296) (hd : d < 4294967296) :
    bits .xor .u32 (bits .xor .u32 (bits .xor .u32 (a : Int) (b : Int)) (c : Int)) (d : Int) = ((a ^^^ b ^^^ c ^^^ d : Nat) : Int) := by
  rw [bxor _ _ ha hb, bxor _ _ (xor32 ha hb) hc, bxor _ _ (xor32 (xor32 ha hb) hc) hd]
set_option maxHeartbeats 2000000 in
theorem spread_any (f : Nat → Nat) (w : World) (hf : Byt f 64) : Calls Tryz.prog 110 #[.agg (cs .u8 f 64)] w fun e w' => e = .returned (.agg (cs .u32 (wd f) 80)) ∧ Below w.heap.size w w' := by
  have hz := zv80
  go_enter Tryz.func110, Tryz.ntmps110
  go_wp2
  go_loopw [6] (fun t W => ∃ k n : Nat, k ≤ 64 ∧ t = .int .i64 k ∧ W = (ws w f (prt f k)).drewN n) (fun t _ => 64 - (intOf t).toNat)
  case atStart => exact ⟨0, 0, by omega, rfl, by unfold ws; rw [cs_congr .u32 (prt f 0) (fun _ => 0) 80 (fun j _ => prt_zero f j)]; rfl⟩
  case round =>
    obtain ⟨k, n, hk, rfl, rfl⟩ := hrel
    clear hz
    unfold ws
    by_cases hlt : k < 64
    · have c1 := prt_get f k 80 (by omega)
      have c2 := cs_get .u8 f 64 k hlt
      have b1 := hf k hlt
      have b2 := pre_small f 64 k hf hlt
      have ho := or_byte _ _ b2 b1
      have ST := Lib.hid (prt_set f k 80)
      generalize pre f (k / 4) (k % 4) = X at *
      go_wp2
      go_region
      rw [set_last _ _ _ _ _ _ _ _ (by simp) ST.out]
      clear c1 c2 ho
      go_wp2
      go_roundw
      case rel => exact ⟨k + 1, n + 1, by omega, by go_num, rfl⟩
      case measure => simp [intOf]; omega
    · obtain rfl : k = 64 := by omega
      rw [prt_wd, show ((64 : Nat) : Int) = 64 from rfl]
      go_wp2
      go_loopw [5] (fun t W => ∃ k n : Nat, 16 ≤ k ∧ k ≤ 80 ∧ t = .int .i64 k ∧ W = (ws w f (upto (wd f) k)).drewN n) (fun t _ => 80 - (intOf t).toNat)
      case atStart => exact ⟨16, n, by omega, by omega, rfl, rfl⟩
      case round =>
        obtain ⟨k, n, hk1, hk2, rfl, rfl⟩ := hrel
        unfold ws
        by_cases hlt : k < 80
        · have c1 := upto_get (wd f) k 80 (k - 3) (by omega) (by omega)
          have c2 := upto_get (wd f) k 80 (k - 8) (by omega) (by omega)
          have c3 := upto_get (wd f) k 80 (k - 14) (by omega) (by omega)
          have c4 := upto_get (wd f) k 80 (k - 16) (by omega) (by omega)
          have c5 := cs_get .u32 (upto (wd f) k) 80 k hlt
          have l1 := wd_lt f hf (k - 3)
          have l2 := wd_lt f hf (k - 8)
          have l3 := wd_lt f hf (k - 14)
          have l4 := wd_lt f hf (k - 16)
          have hx := xor4 _ _ _ _ l1 l2 l3 l4
          have hr := wd_great f k hk1
          have R := Lib.hid (fun W => rot1 _ W (xor32 (xor32 (xor32 l1 l2) l3) l4))
          rw [← hr] at R
          have ST := Lib.hid (upto_set .u32 (wd f) k 80 (.int .u32 (wd f k : Nat)) rfl)
          clear hr
          generalize wd f (k - 3) = X1 at *
          generalize wd f (k - 8) = X2 at *
          generalize wd f (k - 14) = X3 at *
          generalize wd f (k - 16) = X4 at *
          have q3a : IntKind.i64.wrap ((k : Int) - 3) = (k : Int) - 3 := IntWalk.i64_in _ (by omega)
          have q3b : (0 : Int) ≤ (k : Int) - 3 := by omega
          have q3c : (k : Int) - 3 < 80 := by omega
          have q3d : (3 : Int) ≤ (k : Int) := by omega
          have q3e : (3 : Nat) ≤ k := by omega
          have q3f : ((k : Int) - 3).toNat = k - 3 := by omega
          have q8a : IntKind.i64.wrap ((k : Int) - 8) = (k : Int) - 8 := IntWalk.i64_in _ (by omega)
          have q8b : (0 : Int) ≤ (k : Int) - 8 := by omega
          have q8c : (k : Int) - 8 < 80 := by omega
          have q8d : (8 : Int) ≤ (k : Int) := by omega
          have q8e : (8 : Nat) ≤ k := by omega
          have q8f : ((k : Int) - 8).toNat = k - 8 := by omega
          have q14a : IntKind.i64.wrap ((k : Int) - 14) = (k : Int) - 14 := IntWalk.i64_in _ (by omega)
          have q14b : (0 : Int) ≤ (k : Int) - 14 := by omega
          have q14c : (k : Int) - 14 < 80 := by omega
          have q14d : (14 : Int) ≤ (k : Int) := by omega
          have q14e : (14 : Nat) ≤ k := by omega
          have q14f : ((k : Int) - 14).toNat = k - 14 := by omega
          have q16a : IntKind.i64.wrap ((k : Int) - 16) = (k : Int) - 16 := IntWalk.i64_in _ (by omega)
          have q16b : (0 : Int) ≤ (k : Int) - 16 := by omega
          have q16c : (k : Int) - 16 < 80 := by omega
          have q16d : (16 : Int) ≤ (k : Int) := by omega
          have q16e : (16 : Nat) ≤ k := by omega
          have q16f : ((k : Int) - 16).toNat = k - 16 := by omega
          have qk : (k : Int) < 80 := by omega
          go_wp2
          refine tail_region 22 (by kernel_rfl) (by kernel_rfl) ?_
          simp only [List.take_succ_cons, List.take_zero, List.drop_succ_cons, List.drop_zero]
          iterate 20 still_step
          still_call (calls_turn (R.out _))
          repeat still_step
          refine wpStill_nil ?_
          go_wp2
          rw [set_last _ _ _ _ _ _ _ _ (by simp) ST.out]
          clear hx
          go_wp2
          go_roundw
          case rel => exact ⟨k + 1, n + 1, by omega, by omega, by go_num, rfl⟩
          case measure => simp [intOf]; omega
        · obtain rfl : k = 80 := by omega
          rw [upto_all]
          go_wp2_with (first
            | (refine wpList_load_row rfl 143 (.tmp 3) rfl (w.heap.size + 1 + 1) rfl _ _ _ _ (hp_new2 w _ _ _) Tryz.underlying143 rfl (szc sz80 _ _) ?_)
            | (refine wpList_store_row rfl 143 (.tmp 2) (.tmp 49) rfl (w.heap.size + 1) _ rfl rfl _ _ (hp_old (hp_new1 w _ _) _) (szc sz80 _ _) (by rw [cs_size]; exact cs_size _ _ _) (cs_one _ _ _) ?_))
          refine end_row rfl _ _ (w.heap.size + 1) _ _ _ _ rfl (setRow_heap _ _ _ _ _ _ (hp_old (hp_new1 w _ _) _)) Tryz.underlying143 (szc sz80 _ _) rfl ⟨rfl, ?_⟩
          exact bel_setRow (bel3 _ _ _ _ _) (by omega) _
end Go.Proofs.YtldieebiicblbaaGreatDoor.sha

/-
  What sha.mixed answers: the five words behind a block. Condition: the words are words, the bytes are bytes.
-/
namespace Go.Proofs.YtldieebiicblbaaGreatDoor.sha
open Go.ChangeShapes Go.WideShapes Go.ChangeAt Go.RowKit
open sx
set_option linter.unusedVariables false
set_option maxRecDepth 100000

theorem cs5s (s : V5) : cs .u32 s.at 5 = #[.int .u32 (s.a : Nat), .int .u32 (s.b : Nat), .int .u32 (s.c : Nat), .int .u32 (s.d : Nat), .int .u32 (s.e : Nat)] := rfl
theorem row_cell {w : World} {g : Nat} {c : Array Value} {t : TypeId} {fr : Nat × Nat} (h : w.heap[g]? = some (.cells c t fr)) (j : Nat) (v : Value) (hv : c[j]? = some v) : w.cell? ⟨g, j, none⟩ = some v := by
  rw [cell_of_row w g j c t fr h]; exact hv
def fin (h s : V5) : V5 := ⟨add32 h.a s.a, add32 h.b s.b, add32 h.c s.c, add32 h.d s.d, add32 h.e s.e⟩
theorem mixV_fin (h : V5) (f : Nat → Nat) : mixV h f = fin h (stps (wd f) h 80) := rfl
theorem add32_int (x y : Nat) : ((add32 x y : Nat) : Int) = ((x : Int) + (y : Int)) % 4294967296 := by unfold add32; omega
theorem fin5 (h s : V5) : cs .u32 (fin h s).at 5 = #[.int .u32 (((h.a : Int) + (s.a : Int)) % 4294967296), .int .u32 (((h.b : Int) + (s.b : Int)) % 4294967296), .int .u32 (((h.c : Int) + (s.c : Int)) % 4294967296), .int .u32 (((h.d : Int) + (s.d : Int)) % 4294967296), .int .u32 (((h.e : Int) + (s.e : Int)) % 4294967296)] := by
  rw [cs5s, ← add32_int, ← add32_int, ← add32_int, ← add32_int, ← add32_int]
  rfl
def Five (h : V5) (f : Nat → Nat) (W : World) (A B C D E t : Value) (W' : World) : Prop :=
  ∃ i n : Nat, i ≤ 80 ∧ t = .int .i64 i ∧ A = .int .u32 ((stps (wd f) h i).a : Nat) ∧ B = .int .u32 ((stps (wd f) h i).b : Nat) ∧ C = .int .u32 ((stps (wd f) h i).c : Nat) ∧ D = .int .u32 ((stps (wd f) h i).d : Nat) ∧ E = .int .u32 ((stps (wd f) h i).e : Nat) ∧ W' = W.drewN n
set_option maxHeartbeats 4000000 in
theorem mixed_any (h : V5) (f : Nat → Nat) (w : World) (hh : h.Ok) (hf : Byt f 64) : Calls Tryz.prog 89 #[.agg (cs .u32 h.at 5), .agg (cs .u8 f 64)] w fun e w' => e = .returned (.agg (cs .u32 (mixV h f).at 5)) ∧ Below w.heap.size w w' := by
  have hz := zv80
  have SP := Lib.hid (fun W => spread_any f W hf)
  go_enter Tryz.func89, Tryz.ntmps89
  go_wp2_with (first
    | (refine wpList_load_row rfl 104 (.tmp 3) rfl (w.heap.size + 1) rfl _ _ _ _ (hp_old (hp_new1 w _ _) _) Tryz.underlying104 rfl (szc sz64 _ _) ?_)
    | (go_at_call 110; (with_reducible refine (SP.out _).mono ?_); rintro e w1 ⟨rfl, hb⟩)
    | (refine wpList_store_row rfl 143 (.tmp 5) (.tmp 16) rfl _ _ rfl rfl _ _ (hp_new _ _) (szc sz80 _ _) (by rw [cs_size]; exact cs_size _ _ _) (cs_one _ _ _) ?_; rw [World.setRow_alloc_new]))
  obtain ⟨W5, HW⟩ : ∃ W5, W5 = w1.alloc (.cells (cs .u32 (wd f) 80) 143) := ⟨_, rfl⟩
  rw [← HW]
  have g0 : W5.heap[w.heap.size]? = some (.cells (cs .u32 h.at 5) 43) := by
    rw [HW]; refine hp_old ?_ _; rw [hb.block _ (by simp; omega)]; exact hp_old (hp_old (hp_new w _) _) _
  have g2 : W5.heap[w.heap.size + 1 + 1]? = some (.cells z5 43) := by
    rw [HW]; refine hp_old ?_ _; rw [hb.block _ (by simp)]; exact hp_new2 w _ _ _
  have g3 : W5.heap[w1.heap.size]? = some (.cells (cs .u32 (wd f) 80) 143) := by rw [HW]; exact hp_new _ _
  have HB : Below w.heap.size w W5 := by
    rw [HW]
    exact ((bel3 w _ _ _ 0).trans (hb.mono (by simp; omega))).alloc (by have := hb.size; simp at this; omega) _
  clear HW hb hz SP
  generalize w1.heap.size = G at *
  have d0 : W5.cell? ⟨w.heap.size, 0, none⟩ = some (.int .u32 (h.a : Nat)) := row_cell g0 0 _ rfl
  have d1 : W5.cell? ⟨w.heap.size, 1, none⟩ = some (.int .u32 (h.b : Nat)) := row_cell g0 1 _ rfl
  have d2 : W5.cell? ⟨w.heap.size, 2, none⟩ = some (.int .u32 (h.c : Nat)) := row_cell g0 2 _ rfl
  have d3 : W5.cell? ⟨w.heap.size, 3, none⟩ = some (.int .u32 (h.d : Nat)) := row_cell g0 3 _ rfl
  have d4 : W5.cell? ⟨w.heap.size, 4, none⟩ = some (.int .u32 (h.e : Nat)) := row_cell g0 4 _ rfl
  have G2 := Lib.hid g2
  have GW := Lib.hid (fun j hj => row_cell g3 j _ (cs_get .u32 (wd f) 80 j hj))
  clear g0 g2 g3
  refine still_region (by kernel_rfl) (by kernel_rfl) ?_
  repeat still_step
  refine wpStill_nil ?_
  go_wp2
  go_loopw [6, 7, 8, 9, 10, 27] (fun A B C D E t W' => Five h f W5 A B C D E t W') (fun _ _ _ _ _ t _ => 80 - (intOf t).toNat)
  case atStart => exact ⟨0, 1, by omega, rfl, rfl, rfl, rfl, rfl, rfl, rfl⟩
  case round =>
    obtain ⟨i, n, hi, rfl, rfl, rfl, rfl, rfl, rfl, rfl⟩ := hrel
    have ok := stps_ok (wd f) hh i
    by_cases hlt : i < 80
    · have hw := GW.out i hlt
      have lw := wd_lt f hf i
      have NX := Lib.hid (show stps (wd f) h (i + 1) = sx.step i (wd f i) (stps (wd f) h i) from rfl)
      obtain ⟨la, lb, lc, ld, le⟩ := ok
      have CH := Lib.hid (fun W => chosen_any i _ _ _ W hlt lb lc ld)
      have R5 := Lib.hid (fun W => rot5 _ W la)
      have R30 := Lib.hid (fun W => rot30 _ W lb)
      have hq := ff_lt i _ _ _ lb lc ld
      have hk := kk_lt i
      have hr := rot_lt _ 5 la
      have TT := Lib.hid (show tt i (wd f i) (stps (wd f) h i) = (rot (stps (wd f) h i).a 5 + ff i (stps (wd f) h i).b (stps (wd f) h i).c (stps (wd f) h i).d + (stps (wd f) h i).e + kk i + wd f i) % 4294967296 from rfl)
      generalize wd f i = X at *
      generalize ff i (stps (wd f) h i).b (stps (wd f) h i).c (stps (wd f) h i).d = F at *
      generalize kk i = KK at *
      generalize rot (stps (wd f) h i).a 5 = RA at *
      go_wp2_with (go_at_call 111; (with_reducible refine (CH.out _).mono ?_); rintro e w' ⟨rfl, rfl⟩)
      refine still_region (by kernel_rfl) (by kernel_rfl) ?_
      repeat still_step
      still_call (calls_turn (R5.out _))
      repeat still_step
      refine wpStill_nil ?_
      go_wp2_with (go_at_call 112; (with_reducible refine (R30.out _).mono ?_); rintro e w' ⟨rfl, rfl⟩)
      refine ⟨⟨i + 1, n + 1, by omega, by go_num, ?_, by rw [NX.out]; rfl, by rw [NX.out]; rfl, by rw [NX.out]; rfl, by rw [NX.out]; rfl, rfl⟩, by simp [intOf]; omega⟩
      rw [NX.out]
      show Value.int .u32 _ = .int .u32 ((tt i X (stps (wd f) h i) : Nat) : Int)
      rw [TT.out]
      congr 1
      simp only [IntKind.wrap_u32']
      omega
    · obtain rfl : i = 80 := by omega
      have r0 : W5.cell? ⟨w.heap.size + 1 + 1, 0, none⟩ = some (.int .u32 0) := row_cell G2.out 0 _ rfl
      have r1 : W5.cell? ⟨w.heap.size + 1 + 1, 1, none⟩ = some (.int .u32 0) := row_cell G2.out 1 _ rfl
      have r2 : W5.cell? ⟨w.heap.size + 1 + 1, 2, none⟩ = some (.int .u32 0) := row_cell G2.out 2 _ rfl
      have r3 : W5.cell? ⟨w.heap.size + 1 + 1, 3, none⟩ = some (.int .u32 0) := row_cell G2.out 3 _ rfl
      have r4 : W5.cell? ⟨w.heap.size + 1 + 1, 4, none⟩ = some (.int .u32 0) := row_cell G2.out 4 _ rfl
      have fz : ∀ j, W5.frozen? ⟨w.heap.size + 1 + 1, j, none⟩ = false := fun j => frozen_of_row _ _ _ _ _ G2.out
      have MV := Lib.hid (fin5 h (stps (wd f) h 80))
      go_wp2
      refine bodyPost_ret (v := .agg #[.int .u32 (((h.a : Int) + ((stps (wd f) h 80).a : Int)) % 4294967296), .int .u32 (((h.b : Int) + ((stps (wd f) h 80).b : Int)) % 4294967296), .int .u32 (((h.c : Int) + ((stps (wd f) h 80).c : Int)) % 4294967296), .int .u32 (((h.d : Int) + ((stps (wd f) h 80).d : Int)) % 4294967296), .int .u32 (((h.e : Int) + ((stps (wd f) h 80).e : Int)) % 4294967296)]) (by simp [results, Tryz.results89, go_sem, r0, r1, r2, r3, r4]) rfl ⟨by rw [mixV_fin, MV.out], ?_⟩
      repeat (refine Below.setCell ?_ (by simp; omega) _)
      exact bel_drewN HB _
end Go.Proofs.YtldieebiicblbaaGreatDoor.sha

/-
  How far a digest has come, as memory: the seventy cells of sha's sum, what a step leaves of all other memory, and slices of bytes as they are read. No condition beside those in the statements.
-/
namespace Go.Proofs.YtldieebiicblbaaGreatDoor.sha
open Go.ChangeShapes Go.WideShapes Go.ChangeAt Go.RowKit
open sx
set_option linter.unusedVariables false
set_option maxRecDepth 100000

/-! arrays by a function -/
def ar (g : Nat → Value) (n : Nat) : Array Value := ((List.range n).map g).toArray
theorem ar_size (g : Nat → Value) (n : Nat) : (ar g n).size = n := by simp [ar]
theorem ar_get (g : Nat → Value) (n j : Nat) (h : j < n) : (ar g n)[j]? = some (g j) := by simp [ar, h]
theorem ar_none (g : Nat → Value) (n j : Nat) (h : ¬ j < n) : (ar g n)[j]? = none := Array.getElem?_eq_none (by rw [ar_size]; omega)
theorem ar_set (g g' : Nat → Value) (n i : Nat) (v : Value) (hv : g' i = v) (h : ∀ j, j < n → j ≠ i → g' j = g j) : (ar g n).setIfInBounds i v = ar g' n := by
  subst hv
  apply Array.ext_getElem?
  intro j
  rw [Array.getElem?_setIfInBounds]
  by_cases hj : j < n
  · rw [ar_get g' n j hj]
    by_cases e : i = j
    · subst e; simp [ar_size, hj]
    · rw [if_neg e, ar_get g n j hj, h j hj (fun k => e k.symm)]
  · rw [ar_none g n j hj, ar_none g' n j hj]
    by_cases e : i = j
    · subst e; simp [ar_size, hj]
    · rw [if_neg e]
theorem ar_splice (g g' : Nat → Value) (n o : Nat) (l : List Value) (ho : o + l.length ≤ n) (h1 : ∀ j (h : j < l.length), g' (o + j) = l[j]) (h2 : ∀ j, j < n → (j < o ∨ o + l.length ≤ j) → g' j = g j) :
    ((ar g n).toList.take o ++ l ++ (ar g n).toList.drop (o + l.length)).toArray = ar g' n := by
  have hl : (ar g n).toList.length = n := by rw [Array.length_toList, ar_size]
  apply Array.ext_getElem?
  intro j
  rw [List.getElem?_toArray]
  have hg : ∀ j, (ar g n).toList[j]? = (ar g n)[j]? := fun j => by rw [Array.getElem?_toList]
  by_cases ha : j < o
  · rw [List.append_assoc, List.getElem?_append_left (by rw [List.length_take, hl]; omega), List.getElem?_take_of_lt ha, hg, ar_get g n j (by omega), ar_get g' n j (by omega), h2 j (by omega) (Or.inl ha)]
  · by_cases hb : j < o + l.length
    · rw [List.getElem?_append_left (by rw [List.length_append, List.length_take, hl]; omega), List.getElem?_append_right (by rw [List.length_take, hl]; omega)]
      rw [List.length_take, hl, show j - min o n = j - o by omega, List.getElem?_eq_getElem (by omega), ar_get g' n j (by omega)]
      have := h1 (j - o) (by omega)
      rw [show o + (j - o) = j by omega] at this
      rw [this]
    · rw [List.getElem?_append_right (by rw [List.length_append, List.length_take, hl]; omega), List.length_append, List.length_take, hl, List.getElem?_drop, show o + l.length + (j - (min o n + l.length)) = j by omega, hg]
      by_cases hn : j < n
      · rw [ar_get g n j hn, ar_get g' n j hn, h2 j hn (Or.inr (by omega))]
      · rw [ar_none g n j hn, ar_none g' n j hn]

/-! the cells of a sum -/
def sg (V : V5) (bl : Nat → Nat) (fl : Nat) (j : Nat) : Value := if j < 5 then .int .u32 (V.at j : Nat) else if j < 69 then .int .u8 (bl (j - 5) : Nat) else .int .i64 (fl : Nat)
def sc (V : V5) (bl : Nat → Nat) (fl : Nat) : Array Value := ar (sg V bl fl) 70
theorem sg_w (V : V5) (bl : Nat → Nat) (fl j : Nat) (h : j < 5) : sg V bl fl j = .int .u32 (V.at j : Nat) := if_pos h
theorem sg_b (V : V5) (bl : Nat → Nat) (fl j : Nat) (h : j < 64) : sg V bl fl (5 + j) = .int .u8 (bl j : Nat) := by
  unfold sg; rw [if_neg (by omega), if_pos (by omega), show 5 + j - 5 = j by omega]
theorem sg_f (V : V5) (bl : Nat → Nat) (fl : Nat) : sg V bl fl 69 = .int .i64 (fl : Nat) := rfl
def put (bl : Nat → Nat) (fl : Nat) (l : List Nat) (j : Nat) : Nat := if fl ≤ j ∧ j < fl + l.length then l.getD (j - fl) 0 else bl j
def bc (l : List Nat) : List Value := l.map fun x => .int .u8 (x : Nat)
theorem bc_len (l : List Nat) : (bc l).length = l.length := by simp [bc]
theorem bc_one (l : List Nat) : ∀ u ∈ bc l, u.oneCell' = true := by
  intro u hu
  obtain ⟨x, _, rfl⟩ := List.mem_map.1 hu
  rfl
theorem sc_copy (V : V5) (bl : Nat → Nat) (fl k : Nat) (l : List Nat) (h : fl + l.length ≤ 64) :
    ((sc V bl k).toList.take (5 + fl) ++ (bc l ++ (sc V bl k).toList.drop (5 + fl + (bc l).length))).toArray = sc V (put bl fl l) k := by
  rw [← List.append_assoc]
  refine ar_splice _ _ _ _ _ (by rw [bc_len]; omega) (fun j hj => ?_) (fun j hj hh => ?_)
  · rw [bc_len] at hj
    rw [Nat.add_assoc, sg_b _ _ _ _ (by omega)]
    unfold put
    rw [if_pos (by omega), show fl + j - fl = j by omega]
    simp [bc, List.getD, List.getElem?_eq_getElem hj]
  · rw [bc_len] at hh
    unfold sg
    by_cases h5 : j < 5
    · rw [if_pos h5, if_pos h5]
    · rw [if_neg h5, if_neg h5]
      by_cases h69 : j < 69
      · rw [if_pos h69, if_pos h69]
        unfold put
        rw [if_neg (by omega)]
      · rw [if_neg h69, if_neg h69]
theorem sc_fill (V : V5) (bl : Nat → Nat) (fl k : Nat) : (sc V bl fl).setIfInBounds 69 (.int .i64 (k : Nat)) = sc V bl k :=
  ar_set _ _ _ _ _ rfl fun j hj hne => by
    unfold sg
    by_cases h5 : j < 5
    · rw [if_pos h5, if_pos h5]
    · rw [if_neg h5, if_neg h5, if_pos (by omega), if_pos (by omega)]

/-! what is kept -/
structure Keep (B : Nat) (W W' : World) : Prop where
  os : W'.os = W.os
  tape : W'.tape = W.tape
  output : W'.output = W.output
  size : W.heap.size ≤ W'.heap.size
  block : ∀ k, k < W.heap.size → k ≠ B → W'.heap[k]? = W.heap[k]?
theorem Keep.refl (B : Nat) (W : World) : Keep B W W := ⟨rfl, rfl, rfl, Nat.le_refl _, fun _ _ _ => rfl⟩
theorem Keep.trans {B : Nat} {a b c : World} (h : Keep B a b) (k : Keep B b c) : Keep B a c :=
  ⟨k.os.trans h.os, k.tape.trans h.tape, k.output.trans h.output, Nat.le_trans h.size k.size, fun i hi hn => (k.block i (Nat.lt_of_lt_of_le hi h.size) hn).trans (h.block i hi hn)⟩
theorem Keep.drewN {B : Nat} {a b : World} (h : Keep B a b) (n : Nat) : Keep B a (b.drewN n) := ⟨h.os, h.tape, h.output, h.size, h.block⟩
theorem Keep.drew {B : Nat} {a b : World} (h : Keep B a b) : Keep B a b.drew := ⟨h.os, h.tape, h.output, h.size, h.block⟩
theorem Keep.setRow {B : Nat} {a b : World} (h : Keep B a b) (c : Array Value) : Keep B a (b.setRow B c) :=
  h.trans ⟨rfl, rfl, rfl, by simp, fun k _ hn => setRow_other _ _ _ _ hn⟩
theorem Keep.setCell {B : Nat} {a b : World} (h : Keep B a b) (o : Nat) (v : Value) : Keep B a (b.setCell ⟨B, o, none⟩ v) :=
  h.trans ⟨rfl, rfl, rfl, by simp [World.setCell], fun k _ hn => Below.heap_setCell _ _ _ _ hn⟩
theorem Keep.below {B : Nat} {a b c : World} (h : Keep B a b) (k : Below b.heap.size b c) : Keep B a c :=
  h.trans ⟨k.os, k.tape, k.output, k.size, fun i hi _ => k.block i hi⟩
theorem Keep.to_below {B base : Nat} {w a b : World} (h : Keep B a b) (k : Below base w a) (hb : base ≤ B) (hs : base ≤ a.heap.size) : Below base w b :=
  k.trans ⟨h.os, h.tape, h.output, h.size, fun i hi => h.block i (by omega) (by omega)⟩
theorem Keep.cell {B : Nat} {a b : World} (h : Keep B a b) {p : Addr} {v : Value} (hp : p.block ≠ B) (hc : a.cell? p = some v) : b.cell? p = some v := by
  rw [World.cell?_of_block (w := a) (h.block p.block (World.block_lt_of_cell? a p hc) hp)]; exact hc

/-! a slice of bytes -/
def Rd (B : Nat) (W : World) (v : Value) (l : List Nat) : Prop :=
  ∃ A cap, v = .slice A l.length cap ∧ l.length ≤ cap ∧ (l ≠ [] → ∃ b o, A = some ⟨b, o, none⟩ ∧ b ≠ B ∧ ∀ k (h : k < l.length), W.cell? ⟨b, o + k, none⟩ = some (.int .u8 (l[k] : Nat)))
theorem Rd.keep {B : Nat} {W W' : World} {v : Value} {l : List Nat} (h : Rd B W v l) (k : Keep B W W') : Rd B W' v l := by
  obtain ⟨A, cap, e, hc, hr⟩ := h
  refine ⟨A, cap, e, hc, fun hl => ?_⟩
  obtain ⟨b, o, hA, hb, hcell⟩ := hr hl
  exact ⟨b, o, hA, hb, fun j hj => k.cell (p := ⟨b, o + j, none⟩) hb (hcell j hj)⟩

/-! how far it has come -/
def Rep (m : List Nat) (V : V5) (bl : Nat → Nat) (fl : Nat) : Prop :=
  V = hs m (m.length / 64) ∧ fl = m.length % 64 ∧ Byt bl 64 ∧ ∀ j, j < fl → bl j = m.getD (64 * (m.length / 64) + j) 0
theorem rep_start : Rep [] sx.start (fun _ => 0) 0 := ⟨rfl, rfl, fun _ _ => (by show 0 < 256; decide), fun j hj => by omega⟩
theorem put_byt {bl : Nat → Nat} {fl : Nat} {l : List Nat} (h : Byt bl 64) (hl : Bys l) : Byt (put bl fl l) 64 := by
  intro j hj
  unfold put
  split
  · exact getD_lt hl _
  · exact h j hj
theorem getD_app_left (m l : List Nat) (j : Nat) (h : j < m.length) : (m ++ l).getD j 0 = m.getD j 0 := by
  simp only [List.getD]; rw [List.getElem?_append_left h]
theorem getD_app_right (m l : List Nat) (j : Nat) (h : m.length ≤ j) : (m ++ l).getD j 0 = l.getD (j - m.length) 0 := by
  simp only [List.getD]; rw [List.getElem?_append_right h]
/-- some bytes more, and the block is not full. -/
theorem rep_more {m l : List Nat} {V : V5} {bl : Nat → Nat} {fl : Nat} (h : Rep m V bl fl) (hl : Bys l) (hn : fl + l.length < 64) : Rep (m ++ l) V (put bl fl l) (fl + l.length) := by
  obtain ⟨h1, h2, h3, h4⟩ := h
  have e1 : (m ++ l).length / 64 = m.length / 64 := by rw [List.length_append]; omega
  refine ⟨?_, by rw [List.length_append]; omega, put_byt h3 hl, fun j hj => ?_⟩
  · rw [e1, h1, hs_app m l _ (by omega)]
  · rw [e1]
    unfold put
    by_cases hj' : j < fl
    · rw [if_neg (by omega), h4 j hj', getD_app_left m l _ (by omega)]
    · rw [if_pos (by omega), getD_app_right m l _ (by omega), show 64 * (m.length / 64) + j - m.length = j - fl by omega]
/-- some bytes more, and the block is full. -/
theorem rep_full {m l : List Nat} {V : V5} {bl : Nat → Nat} {fl : Nat} (h : Rep m V bl fl) (hl : Bys l) (hn : fl + l.length = 64) : Rep (m ++ l) (mixV V (put bl fl l)) (put bl fl l) 0 := by
  obtain ⟨h1, h2, h3, h4⟩ := h
  have e1 : (m ++ l).length / 64 = m.length / 64 + 1 := by rw [List.length_append]; omega
  refine ⟨?_, by rw [List.length_append]; omega, put_byt h3 hl, fun j hj => by omega⟩
  rw [e1, hs, hs_app m l _ (by omega), h1]
  apply mixV_congr
  intro j hj
  unfold put at0
  by_cases hj' : j < fl
  · rw [if_neg (by omega), h4 j hj', getD_app_left m l _ (by omega)]
  · rw [if_pos (by omega), getD_app_right m l _ (by omega), show 64 * (m.length / 64) + j - m.length = j - fl by omega]

theorem add_at (B o j : Nat) : (⟨B, o, none⟩ : Addr).add j = ⟨B, o + j, none⟩ := by unfold Addr.add; split <;> simp_all
/-! an array out of the middle of a row -/
theorem loadVar_at (w : World) (B o n : Nat) (ty e : TypeId) (c : Array Value) (hu : Tryz.prog.underlying ty = some (.array n e)) (hi : (Tryz.prog.info? ty).map (·.size) = some c.size) (hc : ∀ j v, c[j]? = some v → w.cell? ⟨B, o + j, none⟩ = some v) :
    (loadVar ty ⟨B, o, none⟩).run Tryz.prog w = .ok (.agg c) w := by
  have hl : (loadCells ⟨B, o, none⟩ c.toList.length).run Tryz.prog w = .ok c.toList.toArray w :=
    run_loadCells_list (P := Tryz.prog) w ⟨B, o, none⟩ c.toList (fun j v hv => by
      have hadd : (⟨B, o, none⟩ : Addr).add j = ⟨B, o + j, none⟩ := add_at B o j
      rw [hadd]
      exact hc j v (by simpa using hv))
  cases hq : Tryz.prog.info? ty with
  | none => simp [hq] at hi
  | some i =>
    have hs : i.size = c.size := by simpa [hq] using hi
    have hagg : (isAgg ty).run Tryz.prog w = .ok true w := by
      unfold isAgg
      rw [Sem.run_bind, run_underlying hu w]
      rfl
    simp only [Array.length_toList, Array.toArray_toList] at hl
    simp [loadVar, Sem.run_bind, hagg, sizeOf, typeInfo, hq, hs, hl]
theorem wpStill_load {P : Program} {ops : Array Oper} {w : World} {Q : Act → Prop} {a : Act} {o : Oper} {rest : List Oper} (hgd : o.guard = none) (ty : TypeId) (x : Operand) (ho : o.op = .load ty x) (p : Addr) (hx : a.eval x = .pointer (some p)) (c : Array Value)
    (hl : (loadVar ty p).run P w = .ok (.agg c) w) (h : wpStill P ops w Q rest (a.put o.dst (.agg c))) : wpStill P ops w Q (o :: rest) a := by
  refine wpStill_step (fun K hK => ?_)
  rw [if_pos (by unfold Region.wanted; rw [hgd])]
  unfold Oper.still execOp
  simp only [ho, hx, Instr.loadAt, Instr.sureAddr, Sem.run_bind, Sem.run_pure, Result.andThen_ok, hl]
  exact ⟨rfl, hK _ h⟩
theorem seq_from {P : Program} {Q : Exit → Act → World → Prop} {l : List Oper} {listed : Array Bool} {a : Act} {w : World} {g : Nat} (n : Nat) (hg : (l.drop n).length = g) (hB : Region.seqB .any l.toArray g n listed = true) (h : wpList P l.toArray Q (l.drop n) a w) : wpAny P .any l.toArray Q g listed a w := by
  subst hg
  exact wpAny_of_seq (l.drop n) n listed a w (fun j => by rw [List.getElem?_drop, List.getElem?_toArray]) hB h
theorem wpOp_load {P : Program} {ops : Array Oper} {Q : Exit → Act → World → Prop} {i : Nat} {o : Oper} {K : Act → World → Prop} {a : Act} {w : World} (hi : ops[i]? = some o) (hgd : o.guard = none) (ty : TypeId) (x : Operand) (ho : o.op = .load ty x) (p : Addr) (hx : a.eval x = .pointer (some p)) (c : Array Value)
    (hl : (loadVar ty p).run P w = .ok (.agg c) w) (h : K (a.put o.dst (.agg c)) w) : wpOp P ops Q i K a w := by
  unfold wpOp
  simp only [hi]
  rw [if_pos (by unfold Region.wanted; rw [hgd])]
  unfold Oper.wp execOp
  simp only [ho, hx, Instr.loadAt, Instr.sureAddr, Sem.run_bind, Sem.run_pure, Result.andThen_ok, hl]
  exact Or.inl h
end Go.Proofs.YtldieebiicblbaaGreatDoor.sha
