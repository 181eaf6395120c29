/-
  What sha's add leaves: the digest has come as many bytes farther, and no other memory has turned. Conditions: the slice reads as bytes, and is no part of the digest's own memory.
-/
import Derived.Test.YtldieebiicblbaaGreatDoorG03
import Derived.Maps.AppendAt
import Derived.Laws.OwnMore
import Derived.Deep.AppendLies
namespace Go.Proofs.YtldieebiicblbaaGreatDoor.sha
open Go.ChangeShapes Go.WideShapes Go.ChangeAt Go.RowKit
open sx
set_option linter.unusedVariables false
set_option maxRecDepth 100000

theorem szb : (Tryz.prog.info? 5).map (·.size) = some 1 := by kernel_rfl
theorem sl_arr (B fl : Nat) (h : fl < 64) (W : World) : (Instr.sliceAt 104 (.pointer (some ⟨B, 5, none⟩)) (some (.int .i64 (fl : Nat))) none none).run Tryz.prog W = .ok (.slice (some ⟨B, 5 + fl, none⟩) (64 - fl) (64 - fl)) W := by
  have hz : ∀ w, (sizeOf 5).run Tryz.prog w = .ok 1 w := fun w => by
    cases hq : Tryz.prog.info? 5 with
    | none => have := szb; simp [hq] at this
    | some i => have := szb; simp [hq] at this; simp [sizeOf, typeInfo, hq, this]
  have h1 : ¬ 64 = fl := by omega
  have h2 : fl ≤ 64 := by omega
  simp [Instr.sliceAt, run_underlying Tryz.underlying104, Instr.sureAddr, Instr.sliceBounds, Instr.sliceBound, asIntOf, hz, h1, h2, add_at]
/-- the digest at block B has come as far as m. -/
def Came (B : Nat) (m : List Nat) (W : World) : Prop := ∃ V bl fl, Rep m V bl fl ∧ W.heap[B]? = some (.cells (sc V bl fl) 106)
def AHead (B : Nat) (m l : List Nat) (W0 : World) (v : Value) (W : World) : Prop :=
  ∃ m1 l1, m1 ++ l1 = m ++ l ∧ l1.length ≤ l.length ∧ Bys l1 ∧ Came B m1 W ∧ Rd B W v l1 ∧ Keep B W0 W
def lenOf : Value → Nat | .slice _ n _ => n | _ => 0
theorem loadAt_at (w : World) (B o n : Nat) (ty e : TypeId) (c : Array Value) (hu : Tryz.prog.underlying ty = some (.array n e)) (hi : (Tryz.prog.info? ty).map (·.size) = some c.size) (hc : ∀ j v, c[j]? = some v → w.cell? ⟨B, o + j, none⟩ = some v) :
    (Instr.loadAt ty (.pointer (some ⟨B, o, none⟩))).run Tryz.prog w = .ok (.agg c) w := by
  simp only [Instr.loadAt, Instr.sureAddr, Sem.run_bind, Sem.run_pure, Result.andThen]
  exact loadVar_at w B o n ty e c hu hi hc
theorem load_w {W : World} {B : Nat} {V : V5} {bl : Nat → Nat} {k : Nat} (h : W.heap[B]? = some (.cells (sc V bl k) 106)) (j : Nat) (v : Value) (hv : (cs .u32 V.at 5)[j]? = some v) : W.drew.cell? ⟨B, 0 + j, none⟩ = some v := by
  have hj : j < 5 := by have := (Array.getElem?_eq_some_iff.1 hv).1; rw [cs_size] at this; exact this
  rw [cs_get _ _ _ _ hj] at hv
  rw [Nat.zero_add, show W.drew.cell? ⟨B, j, none⟩ = W.cell? ⟨B, j, none⟩ from rfl, row_cell h j _ (ar_get _ _ _ (by omega)), sg_w _ _ _ _ hj, hv]
theorem load_b {W : World} {B : Nat} {V : V5} {bl : Nat → Nat} {k : Nat} (h : W.heap[B]? = some (.cells (sc V bl k) 106)) (j : Nat) (v : Value) (hv : (cs .u8 bl 64)[j]? = some v) : W.drew.cell? ⟨B, 5 + j, none⟩ = some v := by
  have hj : j < 64 := by have := (Array.getElem?_eq_some_iff.1 hv).1; rw [cs_size] at this; exact this
  rw [cs_get _ _ _ _ hj] at hv
  rw [show W.drew.cell? ⟨B, 5 + j, none⟩ = W.cell? ⟨B, 5 + j, none⟩ from rfl, row_cell h (5 + j) _ (ar_get _ _ _ (by omega)), sg_b _ _ _ _ hj, hv]
theorem facts4 {W3 w4 : World} {B : Nat} {V : V5} {bl : Nat → Nat} {k : Nat} (h : W3.heap[B]? = some (.cells (sc V bl k) 106)) (hb : Below W3.drew.heap.size W3.drew w4) :
    Hid (w4.heap[B]? = some (.cells (sc V bl k) 106)) ∧ Keep B W3 w4 ∧ w4.cell? ⟨B, 0, none⟩ = some (.int .u32 (V.a : Nat)) ∧ w4.cell? ⟨B, 1, none⟩ = some (.int .u32 (V.b : Nat)) ∧ w4.cell? ⟨B, 2, none⟩ = some (.int .u32 (V.c : Nat)) ∧ w4.cell? ⟨B, 3, none⟩ = some (.int .u32 (V.d : Nat)) ∧ w4.cell? ⟨B, 4, none⟩ = some (.int .u32 (V.e : Nat)) ∧
      w4.cell? ⟨B, 69, none⟩ = some (.int .i64 (k : Nat)) ∧ ∀ j, w4.frozen? ⟨B, j, none⟩ = false := by
  have hB : w4.heap[B]? = some (.cells (sc V bl k) 106) := by
    rw [hb.block B (Array.getElem?_eq_some_iff.1 h).1]; exact h
  exact ⟨hB, (Keep.refl _ _).drew.below hb, row_cell hB 0 _ rfl, row_cell hB 1 _ rfl, row_cell hB 2 _ rfl, row_cell hB 3 _ rfl, row_cell hB 4 _ rfl, row_cell hB 69 _ rfl, fun j => frozen_of_row _ _ _ _ _ hB⟩
def upd (g : Nat → Value) (i : Nat) (v : Value) (j : Nat) : Value := if j = i then v else g j
theorem ar_upd (g : Nat → Value) (n i : Nat) (v : Value) : (ar g n).setIfInBounds i v = ar (upd g i v) n := ar_set _ _ _ _ _ (if_pos rfl) fun j _ hj => if_neg hj
theorem ar_congr (g g' : Nat → Value) (n : Nat) (h : ∀ j, j < n → g j = g' j) : ar g n = ar g' n := by
  unfold ar; congr 1; exact List.map_congr_left fun j hj => h j (List.mem_range.1 hj)
theorem sc_words (V V' : V5) (bl : Nat → Nat) (k : Nat) :
    ((((((sc V bl k).setIfInBounds 0 (.int .u32 (V'.a : Nat))).setIfInBounds 1 (.int .u32 (V'.b : Nat))).setIfInBounds 2 (.int .u32 (V'.c : Nat))).setIfInBounds 3 (.int .u32 (V'.d : Nat))).setIfInBounds 4 (.int .u32 (V'.e : Nat))).setIfInBounds 69 (.int .i64 0) = sc V' bl 0 := by
  unfold sc
  rw [ar_upd, ar_upd, ar_upd, ar_upd, ar_upd, ar_upd]
  apply ar_congr
  intro j hj
  by_cases h69 : j = 69
  · subst h69; rfl
  by_cases h5 : j < 5
  · rcases (show j = 0 ∨ j = 1 ∨ j = 2 ∨ j = 3 ∨ j = 4 by omega) with rfl | rfl | rfl | rfl | rfl <;> rfl
  · unfold upd
    rw [if_neg h69, if_neg (by omega), if_neg (by omega), if_neg (by omega), if_neg (by omega), if_neg (by omega)]
    unfold sg
    rw [if_neg h5, if_neg h5, if_pos (by omega), if_pos (by omega)]
theorem row_set {w : World} {g i : Nat} {c : Array Value} {t : TypeId} {v : Value} (h : w.heap[g]? = some (.cells c t (0, 0))) : (w.setCell ⟨g, i, none⟩ v).heap[g]? = some (.cells (c.setIfInBounds i v) t (0, 0)) := heap_setCell_same w g i c t v h
/-- where the rest of a slice begins. -/
def nxA (b o cap c : Nat) : Option Addr := if cap = c then some ⟨b, o, none⟩ else some ⟨b, o + c, none⟩
theorem rd_drop {B : Nat} {W : World} {b o cap c : Nat} {l : List Nat} (hb : b ≠ B) (hc : ∀ k (h : k < l.length), W.cell? ⟨b, o + k, none⟩ = some (.int .u8 (l[k] : Nat))) (h1 : c ≤ l.length) (h2 : l.length ≤ cap) :
    Rd B W (.slice (nxA b o cap c) (l.length - c) (cap - c)) (l.drop c) := by
  refine ⟨_, _, by rw [List.length_drop], by rw [List.length_drop]; omega, fun hne => ?_⟩
  have hl : 0 < (l.drop c).length := List.length_pos_iff.2 hne
  rw [List.length_drop] at hl
  refine ⟨b, o + c, if_neg (by omega), hb, fun k hk => ?_⟩
  rw [List.length_drop] at hk
  rw [Nat.add_assoc, hc (c + k) (by omega)]
  simp
theorem came_more {B : Nat} {m l m1 l1 : List Nat} {W0 W2 : World} {V : V5} {bl : Nat → Nat} {fl c : Nat} {v : Value} (hml : m1 ++ l1 = m ++ l) (hle : l1.length ≤ l.length) (hl1 : Bys l1) (hrep : Rep m1 V bl fl) (hc : c ≤ l1.length)
    (hn : fl + c < 64) (HB : W2.heap[B]? = some (.cells (sc V (put bl fl (l1.take c)) fl) 106)) (hk : Keep B W0 W2) (hr : Rd B W2 v (l1.drop c)) : AHead B m l W0 v (W2.setCell ⟨B, 69, none⟩ (.int .i64 ((fl : Int) + (c : Int)))) := by
  have ht : (l1.take c).length = c := by rw [List.length_take]; omega
  have hb1 : Bys (l1.take c) := fun x hx => hl1 x (List.mem_of_mem_take hx)
  refine ⟨m1 ++ l1.take c, l1.drop c, by rw [List.append_assoc, List.take_append_drop]; exact hml, by rw [List.length_drop]; omega, fun x hx => hl1 x (List.mem_of_mem_drop hx), ⟨V, put bl fl (l1.take c), fl + c, ?_, ?_⟩, hr.keep ((Keep.refl _ _).setCell _ _), hk.setCell _ _⟩
  · have := rep_more hrep hb1 (by rw [ht]; exact hn)
    rw [ht] at this
    exact this
  · rw [row_set HB]
    exact congrArg (fun x => some (Obj.cells x 106 (0, 0))) (sc_fill V _ fl (fl + c))
theorem came_full {B : Nat} {m l m1 l1 : List Nat} {W0 W4 : World} {V : V5} {bl : Nat → Nat} {fl c k : Nat} {v : Value} (hml : m1 ++ l1 = m ++ l) (hle : l1.length ≤ l.length) (hl1 : Bys l1) (hrep : Rep m1 V bl fl) (hc : c ≤ l1.length)
    (hn : fl + c = 64) (HB : W4.heap[B]? = some (.cells (sc V (put bl fl (l1.take c)) k) 106)) (hk : Keep B W0 W4) (hr : Rd B W4 v (l1.drop c)) (V' : V5) (hV : V' = mixV V (put bl fl (l1.take c))) :
    AHead B m l W0 v ((((((W4.setCell ⟨B, 0, none⟩ (.int .u32 (V'.a : Nat))).setCell ⟨B, 1, none⟩ (.int .u32 (V'.b : Nat))).setCell ⟨B, 2, none⟩ (.int .u32 (V'.c : Nat))).setCell ⟨B, 3, none⟩ (.int .u32 (V'.d : Nat))).setCell ⟨B, 4, none⟩ (.int .u32 (V'.e : Nat))).setCell ⟨B, 69, none⟩ (.int .i64 0)) := by
  have ht : (l1.take c).length = c := by rw [List.length_take]; omega
  have hb1 : Bys (l1.take c) := fun x hx => hl1 x (List.mem_of_mem_take hx)
  refine ⟨m1 ++ l1.take c, l1.drop c, by rw [List.append_assoc, List.take_append_drop]; exact hml, by rw [List.length_drop]; omega, fun x hx => hl1 x (List.mem_of_mem_drop hx), ⟨V', put bl fl (l1.take c), 0, ?_, ?_⟩, hr.keep ((((((Keep.refl _ _).setCell _ _).setCell _ _).setCell _ _).setCell _ _).setCell _ _ |>.setCell _ _), (((((hk.setCell _ _).setCell _ _).setCell _ _).setCell _ _).setCell _ _).setCell _ _⟩
  · rw [hV]; exact rep_full hrep hb1 (by rw [ht]; exact hn)
  · rw [row_set (row_set (row_set (row_set (row_set (row_set HB)))))]
    exact congrArg (fun x => some (Obj.cells x 106 (0, 0))) (sc_words V V' _ k)
set_option maxHeartbeats 4000000 in
theorem add_walk (B : Nat) (m l : List Nat) (v : Value) (W0 : World) (hl : Bys l) (hc : Came B m W0) (hr : Rd B W0 v l) (hn : l.length ≤ 1000000) :
    Calls Tryz.prog 61 #[.pointer (some ⟨B, 0, none⟩), v] W0 fun e w' => e = .returned (.tuple #[]) ∧ Came B (m ++ l) w' ∧ Keep B W0 w' := by
  go_enter Tryz.func61, Tryz.ntmps61
  go_wp2
  go_loopw [1] (fun t W => AHead B m l W0 t W) (fun t _ => lenOf t)
  case atStart => exact ⟨m, l, rfl, Nat.le_refl _, hl, hc, hr, Keep.refl _ _⟩
  case round =>
    obtain ⟨m1, l1, hml, hle, hl1, ⟨V, bl, fl, hrep, hB⟩, ⟨A, cap, rfl, hcap, hrd⟩, hk⟩ := hrel
    by_cases h0 : l1 = []
    · subst h0
      go_wp2
      go_end0
      exact ⟨rfl, ⟨V, bl, fl, by rw [← hml, List.append_nil]; exact hrep, hB⟩, hk⟩
    · obtain ⟨b, o, rfl, hb, hcell⟩ := hrd h0
      have hpos : 0 < l1.length := List.length_pos_iff.2 h0
      have hfl : fl < 64 := by have := hrep.2.1; omega
      have f69 : wr.cell? ⟨B, 69, none⟩ = some (.int .i64 (fl : Nat)) := row_cell hB 69 _ (ar_get _ _ _ (by omega))
      have HB := Lib.hid hB
      have HC := Lib.hid hcell
      clear hcell hrd hB
      have HM := Lib.hid hml
      clear hml
      have SA := sl_arr B fl hfl
      obtain ⟨c, hc⟩ : ∃ c, c = Nat.min l1.length (64 - fl) := ⟨_, rfl⟩
      have hmin : Nat.min l1.length (64 - fl) = min l1.length (64 - fl) := rfl
      have hc1 : c ≤ l1.length := by omega
      have hc2 : fl + c ≤ 64 := by omega
      have hc3 : fl + c < 64 → c = l1.length := fun h => by omega
      have hc0 : 0 < c := by omega
      have HQ := Lib.hid hc
      have HQ3 := Lib.hid hc3
      clear hc hmin hc3
      go_wp2
      refine tail_region 9 (by kernel_rfl) (by kernel_rfl) ?_
      simp only [List.take_succ_cons, List.take_zero, List.drop_succ_cons, List.drop_zero]
      repeat still_step
      refine wpStill_nil ?_
      refine wpList_copy_own rfl (.tmp 15) (.tmp 16) 62 62 rfl 5 Tryz.underlying62 szb B (5 + fl) (64 - fl) (64 - fl) ⟨b, o, none⟩ l1.length cap rfl rfl (sc V bl fl) 106 HB.out (bc (l1.take c)) (by rw [bc_len, List.length_take, ← HQ.out]; omega) ?_ ?_ (bc_one _) ?_
      · intro j x hx
        rw [add_at]
        have hj : j < c := by
          have := (List.getElem?_eq_some_iff.1 hx).1
          rw [bc_len, List.length_take] at this
          omega
        rw [show wr.drew.cell? ⟨b, o + j, none⟩ = wr.cell? ⟨b, o + j, none⟩ from rfl, HC.out j (by omega), ← hx]
        simp [bc, hj, List.getElem?_eq_getElem (show j < l1.length by omega)]
      · rw [bc_len, List.length_take, show (sc V bl fl).size = 70 from ar_size _ _]
        omega
      rw [sc_copy V bl fl fl _ (by rw [List.length_take]; omega), bc_len, List.length_take, show min c l1.length = c by omega, show goInt ((c : Nat) : Int) = .int .i64 (c : Nat) from rfl]
      obtain ⟨W2, HW2⟩ : ∃ W2, W2 = wr.drew.setRow B (sc V (put bl fl (l1.take c)) fl) := ⟨_, rfl⟩
      rw [← HW2]
      have B2 : W2.heap[B]? = some (.cells (sc V (put bl fl (l1.take c)) fl) 106) := by rw [HW2]; exact setRow_heap _ _ _ _ _ _ HB.out
      have K1 : Keep B wr W2 := by rw [HW2]; exact (Keep.refl _ _).drew.setRow _
      have K2 := hk.trans K1
      have C2 := fun j hj => K1.cell (p := ⟨b, o + j, none⟩) hb (HC.out j hj)
      have g69 : W2.cell? ⟨B, 69, none⟩ = some (.int .i64 (fl : Nat)) := row_cell B2 69 _ (ar_get _ _ _ (by omega))
      have z69 : W2.frozen? ⟨B, 69, none⟩ = false := frozen_of_row _ _ _ _ _ B2
      have R2 := Lib.hid (rd_drop (W := W2) (cap := cap) hb C2 hc1 hcap)
      have HB2 := Lib.hid B2
      clear HW2 f69 B2 C2 HB HC HQ SA
      by_cases hfull : fl + c = 64
      · have t64 : ((fl : Int) + (c : Int) == 64) = true := by simp; omega
        have hsplit : cap = c ∨ ¬ cap = c := by omega
        obtain ⟨V', hV'⟩ : ∃ V', V' = mixV V (put bl fl (l1.take c)) := ⟨_, rfl⟩
        have MX := Lib.hid (fun W => mixed_any V (put bl fl (l1.take c)) W (by rw [hrep.1]; exact hs_ok _ _) (put_byt hrep.2.2.1 (fun x hx => hl1 x (List.mem_of_mem_take hx))))
        rw [← hV', cs5s V'] at MX
        have HV := Lib.hid hV'
        clear hV'
        have hsz : B < W2.heap.size := (Array.getElem?_eq_some_iff.1 HB2.out).1
        have hsplit2 : (cap = c ∧ Hid (Rd B W2 (.slice (some ⟨b, o, none⟩) (l1.length - c) 0) (l1.drop c))) ∨ (¬ cap = c ∧ Hid (Rd B W2 (.slice (some ⟨b, o + c, none⟩) (l1.length - c) (cap - c)) (l1.drop c))) := by
          rcases hsplit with hcc | hcc
          · refine Or.inl ⟨hcc, ?_⟩
            have := R2.out; unfold nxA at this; rw [if_pos hcc, show cap - c = 0 by omega] at this; exact this
          · refine Or.inr ⟨hcc, ?_⟩
            have := R2.out; unfold nxA at this; rw [if_neg hcc] at this; exact this
        clear hsplit
        rcases hsplit2 with ⟨hcc, R2'⟩ | ⟨hcc, R2'⟩
        all_goals
          clear R2
          go_wp2
          obtain ⟨W3, HW3⟩ : ∃ W3, W3 = W2.setCell ⟨B, 69, none⟩ (.int .i64 ((fl : Int) + (c : Int))) := ⟨_, rfl⟩
          rw [← HW3]
          have B3 : W3.heap[B]? = some (.cells (sc V (put bl fl (l1.take c)) (fl + c)) 106) := by
            rw [HW3, row_set HB2.out]; exact congrArg (fun x => some (Obj.cells x 106 (0, 0))) (sc_fill V _ fl (fl + c))
          have K3 : Keep B W2 W3 := by rw [HW3]; exact (Keep.refl _ _).setCell _ _
          have HB3 := Lib.hid B3
          have R3 := Lib.hid (R2'.out.keep K3)
          have hsz3 := Nat.lt_of_lt_of_le hsz K3.size
          have K03 := K2.trans K3
          clear HW3 B3 g69 z69 K1 K2 K3 R2' HB2 hsz
          have L5 : (loadVar 43 ⟨B, 0, none⟩).run Tryz.prog W3.drew = .ok (.agg (cs .u32 V.at 5)) W3.drew := loadVar_at _ _ _ _ _ _ _ Tryz.underlying43 (szc sz5 _ _) (fun j v hv => load_w HB3.out j v hv)
          have L64 : (loadVar 104 ⟨B, 5, none⟩).run Tryz.prog W3.drew = .ok (.agg (cs .u8 (put bl fl (l1.take c)) 64)) W3.drew := loadVar_at _ _ _ _ _ _ _ Tryz.underlying104 (szc sz64 _ _) (fun j v hv => load_b HB3.out j v hv)
          have L5' := Lib.hid L5
          have L64' := Lib.hid L64
          clear L5 L64
          refine wp_region_any (by kernel_rfl) ?_
          change wpAny _ _ _ _ _ _ _ W3.drew
          refine wpAny_take (i := 0) (v := ?_) rfl (by kernel_rfl) (by kernel_rfl) (by kernel_rfl) (fun _ _ _ h => h) (Or.inl ⟨by rfl, by (intro w; go_simp; try with_reducible rfl)⟩) ?_
          simp only [List.getElem_toArray, List.getElem_cons_zero]
          refine wpAny_take (i := 1) (v := ?_) rfl (by kernel_rfl) (by kernel_rfl) (by kernel_rfl) (fun _ _ _ h => h) (Or.inl ⟨by rfl, by (intro w; go_simp; try with_reducible rfl)⟩) ?_
          simp only [List.getElem_toArray, List.getElem_cons_zero, List.getElem_cons_succ]
          refine wpAny_take (i := 2) (v := ?_) rfl (by kernel_rfl) (by kernel_rfl) (by kernel_rfl) (fun _ _ _ h => h) (Or.inl ⟨by rfl, by (intro w; go_simp; try with_reducible rfl)⟩) ?_
          simp only [List.getElem_toArray, List.getElem_cons_zero, List.getElem_cons_succ]
          refine wpAny_take (i := 3) (v := ?_) rfl (by kernel_rfl) (by kernel_rfl) (by kernel_rfl) (fun _ _ _ h => h) (Or.inl ⟨by rfl, by (intro w; go_simp; try with_reducible rfl)⟩) ?_
          simp only [List.getElem_toArray, List.getElem_cons_zero, List.getElem_cons_succ]
          refine wpAny_take (i := 5) (v := ?_) rfl (by kernel_rfl) (by kernel_rfl) (by kernel_rfl) (fun _ _ _ h => h) (Or.inl ⟨by rfl, by (intro w; go_simp; try with_reducible rfl)⟩) ?_
          simp only [List.getElem_toArray, List.getElem_cons_zero, List.getElem_cons_succ]
          refine wpAny_take (i := 6) (v := ?_) rfl (by kernel_rfl) (by kernel_rfl) (by kernel_rfl) (fun _ _ _ h => h) (Or.inl ⟨by rfl, by (intro w; go_simp; try with_reducible rfl)⟩) ?_
          simp only [List.getElem_toArray, List.getElem_cons_zero, List.getElem_cons_succ]
          refine wpAny_take (i := 7) (v := ?_) rfl (by kernel_rfl) (by kernel_rfl) (by kernel_rfl) (fun _ _ _ h => h) (Or.inl ⟨by rfl, by (intro w; go_simp; try with_reducible rfl)⟩) ?_
          simp only [List.getElem_toArray, List.getElem_cons_zero, List.getElem_cons_succ]
          refine wpAny_all (rs := [4, 8]) (by kernel_rfl) (by simp) (fun i hi => ?_)
          rcases (show i = 4 ∨ i = 8 by simpa using hi) with rfl | rfl
          · refine wpOp_load rfl rfl 43 (.tmp 37) rfl ⟨B, 0, none⟩ (by go_simp) _ L5'.out ?_
            refine wpAny_all (rs := [8]) (by kernel_rfl) (by simp) (fun i hi => ?_)
            obtain rfl : i = 8 := by simpa using hi
            refine wpOp_load rfl rfl 104 (.tmp 41) rfl ⟨B, 5, none⟩ (by go_simp) _ L64'.out ?_
            refine seq_from 9 rfl (by kernel_rfl) ?_
            simp only [List.drop_succ_cons, List.drop_zero]
            go_wp2_with (go_at_call 89; (with_reducible refine (MX.out _).mono ?_); rintro e w4 ⟨rfl, hb4⟩; obtain ⟨B4, k4, d0, d1, d2, d3, d4, d69, fz⟩ := facts4 HB3.out hb4)
            exact ⟨came_full HM.out hle hl1 hrep hc1 hfull B4.out (K03.trans k4) (R3.out.keep k4) V' HV.out, by simp [lenOf]; omega⟩
          · refine wpOp_load rfl rfl 104 (.tmp 41) rfl ⟨B, 5, none⟩ (by go_simp) _ L64'.out ?_
            refine wpAny_all (rs := [4]) (by kernel_rfl) (by simp) (fun i hi => ?_)
            obtain rfl : i = 4 := by simpa using hi
            refine wpOp_load rfl rfl 43 (.tmp 37) rfl ⟨B, 0, none⟩ (by go_simp) _ L5'.out ?_
            refine seq_from 9 rfl (by kernel_rfl) ?_
            simp only [List.drop_succ_cons, List.drop_zero]
            go_wp2_with (go_at_call 89; (with_reducible refine (MX.out _).mono ?_); rintro e w4 ⟨rfl, hb4⟩; obtain ⟨B4, k4, d0, d1, d2, d3, d4, d69, fz⟩ := facts4 HB3.out hb4)
            exact ⟨came_full HM.out hle hl1 hrep hc1 hfull B4.out (K03.trans k4) (R3.out.keep k4) V' HV.out, by simp [lenOf]; omega⟩
      · have t64 : ((fl : Int) + (c : Int) == 64) = false := by simp; omega
        have FIN := Lib.hid (came_more HM.out hle hl1 hrep hc1 (by omega) HB2.out K2 R2.out)
        go_wp2
        exact ⟨FIN.out, by simp [lenOf]; omega⟩
end Go.Proofs.YtldieebiicblbaaGreatDoor.sha

/-
  What sha.padding answers: what stands behind so many bytes, in new memory. Condition: the number is from 0 to 2^40.
-/
namespace Go.Proofs.YtldieebiicblbaaGreatDoor.sha
open Go.ChangeShapes Go.WideShapes Go.ChangeAt Go.RowKit
open sx
set_option linter.unusedVariables false
set_option maxRecDepth 100000

theorem infoB : (Tryz.prog.info? 5).map (fun i => (i.zero, i.size, i.bytes)) = some (some (.int .u8 0), 1, 1) := by kernel_rfl
/-- the call owns a row of bytes. -/
def Own (base : Nat) (W : World) (v : Value) (l : List Nat) : Prop := W.ownsRow base 5 1 v l.length (bc l)
/-- 'out = append(out, c)', out a row of bytes of the call's own. -/
theorem app_byte {ops : Array Oper} {rest : List Oper} {o : Oper} {a : Act} {Q : Exit → Act → World → Prop} (hgd : o.guard = none) (s x : Operand)
    (ho : o.op = .call { callee := .builtin .append, args := #[s, x], argTypes := #[62, 62] }) (base : Nat) (W : World) (v : Value) (l : List Nat) (c : Nat) (z : Int) (hz : z = (c : Nat))
    (hs : a.eval s = v) (hx : a.eval x = .slice (some ⟨W.heap.size, 0, none⟩) 1 1) (hown : Own base W v l) (hn : l.length < 8000000000000) (hbase : base ≤ W.heap.size)
    (h : ∀ g cap w', Own base w' (.slice (some ⟨g, 0, none⟩) (l ++ [c]).length cap) (l ++ [c]) → W.grownBy w' v.ownBlock → wpList Tryz.prog ops Q rest (a.put o.dst (.slice (some ⟨g, 0, none⟩) (l ++ [c]).length cap)) w') :
    wpList Tryz.prog ops Q (o :: rest) a (W.alloc (.cells #[.int .u8 z] 5)) := by
  subst hz
  obtain ⟨i0, hi, hz0, hz1, hz2⟩ := info_parts infoB
  refine wpList_append_own _ hgd s x 62 ho base 5 i0 _ 1 1 Tryz.underlying62 hi hz0 hz1 hz2 rfl (by decide) v l.length (bc l) hs (World.ownsRow.alloc hown _) ⟨W.heap.size, 0, none⟩ 1 1 (bc [c]) hx rfl (cell_one_new _ _ _) (bc_one [c]) ?_ (by omega) (by simp; omega) ?_
  · unfold maxLen; omega
  · intro v' w' h1 h2 _
    have e : bc (l ++ [c]) = bc l ++ bc [c] := by unfold bc; simp
    have h1' : Own base w' v' (l ++ [c]) := by
      unfold Own
      rw [e, List.length_append]
      exact h1
    obtain ⟨g, cap, rfl⟩ : ∃ g cap, v' = .slice (some ⟨g, 0, none⟩) (l ++ [c]).length cap := by
      rcases h1'.2 with ⟨_, k⟩ | ⟨g, cap, cur, k, _⟩
      · simp at k
      · exact ⟨g, cap, k⟩
    exact h g cap w' h1' ((World.grownBy_alloc W _ _).trans h2)
theorem own_below {base : Nat} {w W W' : World} {v : Value} {l : List Nat} (ho : Own base W v l) (hb : Below base w W) (hbs : base ≤ W.heap.size) (hg : W.grownBy W' v.ownBlock) : Below base w W' :=
  hb.grown hg hbs (fun k hk => (World.ownsRow.lt ho k hk).1)
theorem own_new (w : World) (c : Nat) : Own w.heap.size (w.alloc (.cells #[.int .u8 (c : Nat)] 5)) (.slice (some ⟨w.heap.size, 0, none⟩) 1 1) [c] :=
  ⟨rfl, Or.inr ⟨w.heap.size, 1, #[.int .u8 (c : Nat)], rfl, Nat.le_refl _, hp_new w _, Nat.le_refl _, by unfold maxLen; omega, rfl, rfl⟩⟩
theorem own_rd {base B : Nat} {W : World} {v : Value} {l : List Nat} (h : Own base W v l) (hB : B < base) : Rd B W v l := by
  rcases h.2 with ⟨rfl, hn⟩ | ⟨g, cap, cur, rfl, hb, hh, hnc, _⟩
  · exact ⟨none, 0, by rw [hn], by omega, fun hl => absurd (List.eq_nil_of_length_eq_zero hn) hl⟩
  · refine ⟨_, cap, rfl, hnc, fun hl => ⟨g, 0, rfl, by omega, fun k hk => ?_⟩⟩
    rw [Nat.zero_add, World.ownsRow.cellAt h k (by omega)]
    simp [bc, hk]

def PHead (n : Nat) (w : World) (t : Value) (W : World) : Prop :=
  ∃ z g cap, z ≤ zz n ∧ t = .slice (some ⟨g, 0, none⟩) (z + 1) cap ∧ Own w.heap.size W t (128 :: List.replicate z 0) ∧ Below w.heap.size w W
def QHead (n : Nat) (w : World) (t i : Value) (W : World) : Prop :=
  ∃ k g cap, k ≤ 8 ∧ i = .int .i64 (k : Nat) ∧ t = .slice (some ⟨g, 0, none⟩) (zz n + 1 + k) cap ∧ Own w.heap.size W t (128 :: (List.replicate (zz n) 0 ++ (eight n).take k)) ∧ Below w.heap.size w W
def PadTold (n : Nat) (w : World) (e : Ending) (w' : World) : Prop := ∃ v, e = .returned v ∧ Own w.heap.size w' v (pad n) ∧ Below w.heap.size w w'
theorem eight_take (n k : Nat) (h : k < 8) : (eight n).take (k + 1) = (eight n).take k ++ [n * 8 / 2 ^ (8 * (7 - k)) % 256] := by
  have hl : (eight n).length = 8 := by simp [eight]
  rw [List.take_succ_eq_append_getElem (by omega)]
  congr 1
  simp [eight]
theorem eight_len (n k : Nat) (h : k ≤ 8) : ((eight n).take k).length = k := by simp [eight]; omega
set_option maxHeartbeats 2000000 in
theorem padding_any (n : Nat) (w : World) (hn : n ≤ 1099511627776) : Calls Tryz.prog 62 #[.int .i64 (n : Nat)] w (PadTold n w) := by
  have hzz : zz n < 64 := Nat.mod_lt _ (by decide)
  go_enter Tryz.func62, Tryz.ntmps62
  go_wp2
  go_loopw [3] (fun t W => PHead n w t W) (fun t _ => 65 - lenOf t)
  case atStart => exact ⟨0, _, _, by omega, rfl, own_new w 128, (Below.refl _ _).alloc (Nat.le_refl _) _⟩
  case round =>
    obtain ⟨z, g, cap, hz, rfl, ho, hb⟩ := hrel
    have HO := Lib.hid ho
    have hbs := hb.size
    by_cases hlt : z < zz n
    · have t1 : (((n : Int) + ((z : Int) + 1) + 8) % 64 != 0) = true := by unfold zz at hlt; simp; omega
      clear ho
      go_wp2_with (at_builtin; refine app_byte rfl _ _ rfl w.heap.size wr (.slice (some ⟨g, 0, none⟩) (z + 1) cap) (128 :: List.replicate z 0) 0 0 rfl rfl rfl HO.out (by simp; omega) hbs ?_; intro g' cap' w1 ho' hg)
      go_roundw
      case rel =>
        refine ⟨z + 1, g', cap', by omega, by simp, ?_, own_below HO.out hb hbs hg⟩
        have e : (128 :: List.replicate z 0 ++ [0] : List Nat) = 128 :: List.replicate (z + 1) 0 := by rw [List.replicate_succ', List.cons_append]
        rw [e] at ho'
        have e2 : (128 :: List.replicate z 0 ++ [0] : List Nat).length = z + 1 + 1 := by simp
        first | exact ho' | (simpa using ho')
      case measure => simp [lenOf]; omega
    · obtain rfl : z = zz n := by omega
      have t1 : (((n : Int) + (((zz n : Nat) : Int) + 1) + 8) % 64 != 0) = false := by
        have := pad_mult n
        rw [pad_len] at this
        simp; omega
      go_wp2
      go_loopw [3, 20] (fun t i W => QHead n w t i W) (fun _ i _ => 8 - (intOf i).toNat)
      case atStart => exact ⟨0, g, cap, by omega, rfl, rfl, by simpa using ho, hb⟩
      case round =>
        obtain ⟨k, g, cap, hk, rfl, rfl, ho, hb⟩ := hrel
        have HO := Lib.hid ho
        have hbs := hb.size
        by_cases hlt : k < 8
        · have hd : ((n : Int) * 8) / 2 ^ (8 * (7 - k)) % 256 = ((n * 8 / 2 ^ (8 * (7 - k)) % 256 : Nat) : Int) := by rw [Int.natCast_emod, Int.natCast_ediv, Int.natCast_pow, Int.natCast_mul]; rfl
          have ET := Lib.hid (eight_take n k hlt)
          generalize n * 8 / 2 ^ (8 * (7 - k)) % 256 = c at *
          clear ho
          go_wp2_with (at_builtin; refine app_byte rfl _ _ rfl w.heap.size wr (.slice (some ⟨g, 0, none⟩) (zz n + 1 + k) cap) (128 :: (List.replicate (zz n) 0 ++ (eight n).take k)) c (c : Nat) rfl rfl rfl HO.out (by have := eight_len n k (by omega); simp only [List.length_cons, List.length_append, List.length_replicate]; omega) hbs ?_; intro g' cap' w1 ho' hg)
          go_roundw
          case rel =>
            have e2 : (128 :: (List.replicate (zz n) 0 ++ (eight n).take k) ++ [c] : List Nat).length = zz n + 1 + (k + 1) := by
              have := eight_len n k (by omega)
              simp only [List.length_cons, List.length_append, List.length_replicate, List.length_nil]; omega
            have e3 : zz n + (min k (eight n).length + 1) + 1 = zz n + 1 + (k + 1) := by
              rw [show (eight n).length = 8 by simp [eight]]; omega
            rw [e2] at ho'
            rw [e3]
            refine ⟨k + 1, g', cap', by omega, by go_num, rfl, ?_, own_below HO.out hb hbs hg⟩
            rw [ET.out, ← List.append_assoc, ← List.cons_append]
            exact ho'
          case measure => simp [intOf]; omega
        · obtain rfl : k = 8 := by omega
          go_wp2
          go_ret
          refine ⟨_, rfl, ?_, hb⟩
          have e : (eight n).take 8 = eight n := List.take_of_length_le (by simp [eight])
          rw [e] at ho
          exact ho
end Go.Proofs.YtldieebiicblbaaGreatDoor.sha
