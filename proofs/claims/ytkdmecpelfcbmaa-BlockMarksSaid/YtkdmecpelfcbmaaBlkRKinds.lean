/-
  What readKinds and giveNames answer. Conditions: the bytes that are asked for are there.
-/
import Derived.Test.YtkdmecpelfcbmaaBlkRead
import Derived.Test.YtkdmecpelfcbmaaBlkAre
import Derived.Test.YtkdmecpelfcbmaaAbbrAt
import Derived.BigRegion
namespace Go.Proofs.Ytkdmecpelfcbmaa.blk
open Go.ChangeShapes Go.WideShapes Go.ChangeAt Go.RowKit
open om mem oct bk
set_option linter.unusedVariables false
set_option maxRecDepth 100000

def ug {α : Type} (z : α) (a : Nat → α) (k : Nat) : Nat → α := fun j => if j < k then a j else z
theorem ug_at {α : Type} (z : α) (a : Nat → α) (k : Nat) : ug z a (k + 1) k = a k := if_pos (by omega)
theorem ug_ne {α : Type} (z : α) (a : Nat → α) {k j : Nat} (h : j ≠ k) : ug z a (k + 1) j = ug z a k j := by
  unfold ug
  by_cases e : j < k
  · rw [if_pos e, if_pos (by omega)]
  · rw [if_neg e, if_neg (by omega)]
theorem ug_all {α : Type} (z : α) (a : Nat → α) {n j : Nat} (h : j < n) : ug z a n j = a j := if_pos h
def tyF (o : Nat → Int) (d : Nat → Bool) (a : Nat → ByteArray) : Nat → Value := fun i => if i % 3 = 0 then .int .i64 (o (i / 3)) else if i % 3 = 1 then .bool (d (i / 3)) else .string (a (i / 3))
theorem tyF0 (o : Nat → Int) (d : Nat → Bool) (a : Nat → ByteArray) (k : Nat) : tyF o d a (k * 3) = .int .i64 (o k) := by
  unfold tyF
  rw [if_pos (by omega), show k * 3 / 3 = k by omega]
theorem tyF1 (o : Nat → Int) (d : Nat → Bool) (a : Nat → ByteArray) (k : Nat) : tyF o d a (k * 3 + 1) = .bool (d k) := by
  unfold tyF
  rw [if_neg (by omega), if_pos (by omega), show (k * 3 + 1) / 3 = k by omega]
theorem tyF2 (o : Nat → Int) (d : Nat → Bool) (a : Nat → ByteArray) (k : Nat) : tyF o d a (k * 3 + 2) = .string (a k) := by
  unfold tyF
  rw [if_neg (by omega), if_neg (by omega), show (k * 3 + 2) / 3 = k by omega]
theorem tset0 (o : Nat → Int) (d : Nat → Bool) (a : Nat → ByteArray) (k i : Nat) : (if i = k * 3 then Value.int .i64 (o k) else tyF (ug 0 o k) d a i) = tyF (ug 0 o (k + 1)) d a i := by
  by_cases e : i = k * 3
  · rw [if_pos e, e, tyF0, ug_at]
  · rw [if_neg e]
    unfold tyF
    by_cases h : i % 3 = 0
    · rw [if_pos h, if_pos h, ug_ne _ _ (by omega)]
    · rw [if_neg h, if_neg h]
theorem tset1 (o : Nat → Int) (d : Nat → Bool) (a : Nat → ByteArray) (k i : Nat) : (if i = k * 3 + 1 then Value.bool (d k) else tyF o (ug false d k) a i) = tyF o (ug false d (k + 1)) a i := by
  by_cases e : i = k * 3 + 1
  · rw [if_pos e, e, tyF1, ug_at]
  · rw [if_neg e]
    unfold tyF
    by_cases h : i % 3 = 0
    · rw [if_pos h, if_pos h]
    · rw [if_neg h, if_neg h]
      by_cases h1 : i % 3 = 1
      · rw [if_pos h1, if_pos h1, ug_ne _ _ (by omega)]
      · rw [if_neg h1, if_neg h1]
theorem tset2 (o : Nat → Int) (d : Nat → Bool) (a : Nat → ByteArray) (k i : Nat) : (if i = k * 3 + 2 then Value.string (a k) else tyF o d (ug ⟨#[]⟩ a k) i) = tyF o d (ug ⟨#[]⟩ a (k + 1)) i := by
  by_cases e : i = k * 3 + 2
  · rw [if_pos e, e, tyF2, ug_at]
  · rw [if_neg e]
    unfold tyF
    by_cases h : i % 3 = 0
    · rw [if_pos h, if_pos h]
    · rw [if_neg h, if_neg h]
      by_cases h1 : i % 3 = 1
      · rw [if_pos h1, if_pos h1]
      · rw [if_neg h1, if_neg h1, ug_ne _ _ (by omega)]
theorem pset (a : Nat → Int) (k i : Nat) : (if i = k then Value.int .i64 (a k) else .int .i64 (ug 0 a k i)) = .int .i64 (ug 0 a (k + 1) i) := by
  by_cases e : i = k
  · rw [if_pos e, e, ug_at]
  · rw [if_neg e, ug_ne _ _ e]
theorem tys_row {W : World} {m : Nat} {t : TypeId} {n : Nat} {o : Nat → Int} {d : Nat → Bool} {a : Nat → ByteArray} (h : Row W m t (n * 3) (tyF o d a)) : Tys W (some ⟨m, 0, none⟩) ((List.range n).map fun k => ⟨o k, d k, a k⟩) := by
  intro _
  refine ⟨m, 0, rfl, h.lt, fun k hk => ?_⟩
  have hk' : k < n := by simpa using hk
  rw [Nat.zero_add, h.cell (by omega), h.cell (by omega), h.cell (by omega), tyF0, tyF1, tyF2, List.getElem_map, List.getElem_range]
  exact ⟨rfl, rfl, rfl⟩
theorem infoK : (Try.prog.info? 46).map (fun i => (i.zero, i.size, i.bytes)) = some (some (.agg #[.int .i64 0, .bool false, .string ⟨#[]⟩]), 3, 32) := by kernel_rfl
theorem infoI : (Try.prog.info? 3).map (fun i => (i.zero, i.size, i.bytes)) = some (some (.int .i64 0), 1, 8) := by kernel_rfl
theorem makeK (W : World) (n : Nat) (hn : n < 100000000) : (Instr.makeSlice 22 (.int .i64 (n : Nat)) (.int .i64 (n : Nat))).run Try.prog W = .ok (.slice (some ⟨W.heap.size, 0, none⟩) n n) (W.alloc (.cells (madeCells #[.int .i64 0, .bool false, .string ⟨#[]⟩] (n * 3)) 46)) := by
  obtain ⟨i0, hi, hz0, hz1, hz2⟩ := info_parts infoK
  have := run_make (P := Try.prog) W 22 46 i0 _ Try.underlying22 hi hz0 .i64 .i64 (n : Int) (n : Int) (by omega) (by omega) (by rw [hz2]; omega) (by omega)
  rw [hz1] at this
  exact this
theorem makeI (W : World) (n : Nat) (hn : n < 100000000) : (Instr.makeSlice 51 (.int .i64 (n : Nat)) (.int .i64 (n : Nat))).run Try.prog W = .ok (.slice (some ⟨W.heap.size, 0, none⟩) n n) (W.alloc (.cells (madeCells #[.int .i64 0] n) 3)) := by
  obtain ⟨i0, hi, hz0, hz1, hz2⟩ := info_parts infoI
  have := run_make (P := Try.prog) W 51 3 i0 _ Try.underlying51 hi hz0 .i64 .i64 (n : Int) (n : Int) (by omega) (by omega) (by rw [hz2]; omega) (by omega)
  rw [hz1, Nat.mul_one] at this
  exact this
theorem madeK (W : World) (n : Nat) (t : TypeId) (o : Nat → Int) (d : Nat → Bool) : Row (W.alloc (.cells (madeCells #[.int .i64 0, .bool false, .string ⟨#[]⟩] (n * 3)) t)) W.heap.size t (n * 3) (tyF (ug 0 o 0) (ug false d 0) (fun _ => ⟨#[]⟩)) := by
  refine ⟨_, hp_new _ _, size_madeCells _ _, fun i hi => ?_⟩
  have : i % 3 = 0 ∨ i % 3 = 1 ∨ i % 3 = 2 := by omega
  unfold tyF ug
  rcases this with h | h | h <;> simp [madeCells, hi, h]
theorem madeI (W : World) (n : Nat) (t : TypeId) (a : Nat → Int) : Row (W.alloc (.cells (madeCells #[.int .i64 0] n) t)) W.heap.size t n (fun i => .int .i64 (ug 0 a 0 i)) := by
  refine (World.rowIs_made W _ n t).congr fun i _ => ?_
  unfold ug
  simp
def dOf (l : List Nat) (p k : Nat) : Bool := decide (gMk l p k = 1)
/-- how far kinds are read. -/
structure KS (p lo hi g : Nat) (l : List Nat) (n mk mp : Nat) (W0 : World) (ja jb jc pos : Nat) (W : World) : Prop where
  at' : At lo hi W g l pos
  rk : Row W mk 46 (n * 3) (tyF (ug 0 (gOf l p) ja) (ug false (dOf l p) jb) (fun _ => ⟨#[]⟩))
  rp : Row W mp 3 n (fun i => .int .i64 (ug 0 (gPl l p) jc i))
  keep : Keep g W0 W
structure KC (hi g mk mp : Nat) (W0 : World) : Prop where
  hhi : hi ≤ W0.heap.size
  hg : g < W0.heap.size
  k : W0.heap.size ≤ mk
  p : W0.heap.size ≤ mp
  ne : mk ≠ mp
theorem KS.num {p lo hi g : Nat} {l : List Nat} {n mk mp : Nat} {W0 : World} {ja jb jc pos pos' : Nat} {W w1 : World} (h : KS p lo hi g l n mk mp W0 ja jb jc pos W) (c : KC hi g mk mp W0) (h1 : At lo hi w1 g l pos') (h2 : Keep g W w1) : KS p lo hi g l n mk mp W0 ja jb jc pos' w1 :=
  ⟨h1, row_keep h.rk h2 (by have := c.k; have := c.hg; omega), row_keep h.rp h2 (by have := c.p; have := c.hg; omega), h.keep.trans h2⟩
theorem KS.set0 {p lo hi g : Nat} {l : List Nat} {n mk mp : Nat} {W0 : World} {ja jb jc pos : Nat} {W : World} (h : KS p lo hi g l n mk mp W0 ja jb jc pos W) (c : KC hi g mk mp W0) : KS p lo hi g l n mk mp W0 (ja + 1) jb jc pos (W.setCell ⟨mk, ja * 3, none⟩ (.int .i64 (gOf l p ja))) :=
  ⟨at_new h.at' (Nat.le_trans c.hhi c.k) _ _, (h.rk.set _ _).congr (fun i _ => tset0 _ _ _ _ i), h.rp.setOther (fun e => c.ne e.symm) _, keep_new h.keep c.k _ _⟩
theorem KS.set1 {p lo hi g : Nat} {l : List Nat} {n mk mp : Nat} {W0 : World} {ja jb jc pos : Nat} {W : World} (h : KS p lo hi g l n mk mp W0 ja jb jc pos W) (c : KC hi g mk mp W0) : KS p lo hi g l n mk mp W0 ja (jb + 1) jc pos (W.setCell ⟨mk, jb * 3 + 1, none⟩ (.bool (dOf l p jb))) :=
  ⟨at_new h.at' (Nat.le_trans c.hhi c.k) _ _, (h.rk.set _ _).congr (fun i _ => tset1 _ _ _ _ i), h.rp.setOther (fun e => c.ne e.symm) _, keep_new h.keep c.k _ _⟩
theorem KS.setP {p lo hi g : Nat} {l : List Nat} {n mk mp : Nat} {W0 : World} {ja jb jc pos : Nat} {W : World} (h : KS p lo hi g l n mk mp W0 ja jb jc pos W) (c : KC hi g mk mp W0) : KS p lo hi g l n mk mp W0 ja jb (jc + 1) pos (W.setCell ⟨mp, jc, none⟩ (.int .i64 (gPl l p jc))) :=
  ⟨at_new h.at' (Nat.le_trans c.hhi c.p) _ _, h.rk.setOther c.ne _, (h.rp.set _ _).congr (fun i _ => pset _ _ i), keep_new h.keep c.p _ _⟩
def mkAll (l : List Nat) (p j : Nat) : Bool := (List.range j).all fun k => mkB (gMk l p k)
theorem mkAll_succ (l : List Nat) (p j : Nat) : mkAll l p (j + 1) = (mkAll l p j && mkB (gMk l p j)) := by
  unfold mkAll; rw [List.range_succ, List.all_append]; simp
def KHead (p lo hi g : Nat) (l : List Nat) (n mk mp : Nat) (W0 : World) (v i : Value) (W : World) : Prop :=
  ∃ (j : Nat) (b : Bool), j ≤ n ∧ v = .bool b ∧ i = .int .i64 (j : Nat) ∧ b = mkAll l p j ∧ KS p lo hi g l n mk mp W0 j j j (p + 6 * j) W
def KTold (p lo hi g : Nat) (l : List Nat) (n : Nat) (W0 : World) (e : Ending) (w' : World) : Prop :=
  ∃ mk mp, e = .returned (.tuple #[.slice (some ⟨mk, 0, none⟩) n n, .slice (some ⟨mp, 0, none⟩) n n, .bool (mkAll l p n)]) ∧ KC hi g mk mp W0 ∧ Row w' mk 46 (n * 3) (tyF (gOf l p) (dOf l p) (fun _ => ⟨#[]⟩)) ∧ Row w' mp 3 n (fun i => .int .i64 (gPl l p i)) ∧ At lo hi w' g l (p + 6 * n) ∧ Keep g W0 w'
set_option maxHeartbeats 4000000 in
theorem rkinds_at (p lo hi : Nat) (W0 : World) (g : Nat) (l : List Nat) (n : Nat) (hb : Bys l) (hl : l.length < 100000000) (h : At lo hi W0 g l p) (hhi : hi ≤ W0.heap.size) (hg : g < W0.heap.size) (hp : p + 6 * n ≤ l.length) :
    Calls Try.prog 30 #[.pointer (some ⟨g, 0, none⟩), .int .i64 (n : Nat)] W0 (KTold p lo hi g l n W0) := by
  have hn : n < 100000000 := by omega
  have hmk := fun W => makeK W n hn
  have hmi := fun W => makeI W n hn
  have S1 : Hid (KS p lo hi g l n W0.heap.size (W0.heap.size + 1) W0 0 0 0 (p + 6 * 0) ((W0.alloc (.cells (madeCells #[.int .i64 0, .bool false, .string ⟨#[]⟩] (n * 3)) 46)).alloc (.cells (madeCells #[.int .i64 0] n) 3)).drew) := Lib.hid ⟨Rdr.drew (Rdr.below (Rdr.below h (bal (Below.refl _ _) (.cells (madeCells #[.int .i64 0, .bool false, .string ⟨#[]⟩] (n * 3)) 46))) (bal (Below.refl _ _) (.cells (madeCells #[.int .i64 0] n) 3))) 1, row_below (madeK W0 n _ _ _) (bel_drewN (bal (Below.refl _ _) (.cells (madeCells #[.int .i64 0] n) 3)) 1), row_below (by have := madeI (W0.alloc (.cells (madeCells #[.int .i64 0, .bool false, .string ⟨#[]⟩] (n * 3)) 46)) n 3 (gPl l p); rw [World.size_alloc] at this; exact this) (bel_drewN (Below.refl _ _) 1), Below.keep (bel_drewN (bal (bal (Below.refl _ _) (.cells (madeCells #[.int .i64 0, .bool false, .string ⟨#[]⟩] (n * 3)) 46)) (.cells (madeCells #[.int .i64 0] n) 3)) 1)⟩
  have C1 : Hid (KC hi g W0.heap.size (W0.heap.size + 1) W0) := Lib.hid ⟨hhi, hg, Nat.le_refl _, Nat.le_succ _, by omega⟩
  have S2 : Hid (KS p lo hi g l n (W0.heap.size + 1) W0.heap.size W0 0 0 0 (p + 6 * 0) ((W0.alloc (.cells (madeCells #[.int .i64 0] n) 3)).alloc (.cells (madeCells #[.int .i64 0, .bool false, .string ⟨#[]⟩] (n * 3)) 46)).drew) := Lib.hid ⟨Rdr.drew (Rdr.below (Rdr.below h (bal (Below.refl _ _) (.cells (madeCells #[.int .i64 0] n) 3))) (bal (Below.refl _ _) (.cells (madeCells #[.int .i64 0, .bool false, .string ⟨#[]⟩] (n * 3)) 46))) 1, row_below (by have := madeK (W0.alloc (.cells (madeCells #[.int .i64 0] n) 3)) n 46 (gOf l p) (dOf l p); rw [World.size_alloc] at this; exact this) (bel_drewN (Below.refl _ _) 1), row_below (madeI W0 n _ _) (bel_drewN (bal (Below.refl _ _) (.cells (madeCells #[.int .i64 0, .bool false, .string ⟨#[]⟩] (n * 3)) 46)) 1), Below.keep (bel_drewN (bal (bal (Below.refl _ _) (.cells (madeCells #[.int .i64 0] n) 3)) (.cells (madeCells #[.int .i64 0, .bool false, .string ⟨#[]⟩] (n * 3)) 46)) 1)⟩
  have C2 : Hid (KC hi g (W0.heap.size + 1) W0.heap.size W0) := Lib.hid ⟨hhi, hg, Nat.le_succ _, Nat.le_refl _, by omega⟩
  have IM := Lib.hid (fun n W => ismark_at n W)
  clear h hhi hg
  go_enter Try.func30, Try.ntmps30
  go_wp2
  go_region
  have S0 := S1
  have C0 := C1
  clear S1 S2 C1 C2 hmk hmi
  generalize ((W0.alloc (.cells (madeCells #[.int .i64 0, .bool false, .string ⟨#[]⟩] (n * 3)) 46)).alloc (.cells (madeCells #[.int .i64 0] n) 3)).drew = W1 at *
  generalize W0.heap.size + 1 = mp at *
  generalize W0.heap.size = mk at *
  rotate_left
  have S0 := S2
  have C0 := C2
  clear S1 S2 C1 C2 hmk hmi
  generalize ((W0.alloc (.cells (madeCells #[.int .i64 0] n) 3)).alloc (.cells (madeCells #[.int .i64 0, .bool false, .string ⟨#[]⟩] (n * 3)) 46)).drew = W1 at *
  generalize W0.heap.size + 1 = mk at *
  generalize W0.heap.size = mp at *
  rotate_left
  all_goals
    go_wp2
    go_loopw [9, 17] (fun v i W => KHead p lo hi g l n mk mp W0 v i W) (fun _ i _ => n - (intOf i).toNat)
    case atStart => exact ⟨0, true, Nat.zero_le _, rfl, rfl, rfl, S0.out⟩
    case round =>
      obtain ⟨j, b, hj, rfl, rfl, hok, ks⟩ := hrel
      by_cases hlt : j < n
      · have N1 : Hid (Calls Try.prog 53 #[.pointer (some ⟨g, 0, none⟩), .int .i64 4] wr fun e w' => e = .returned (.int .i64 (gOf l p j)) ∧ At lo hi w' g l (p + 6 * j + 4) ∧ Keep g wr w') := Lib.hid (at_num ks.at' 4 (Or.inr (Or.inl rfl)) hb (by omega) (by omega))
        have N2 : Hid (∀ W, At lo hi W g l (p + 6 * j + 4) → Calls Try.prog 53 #[.pointer (some ⟨g, 0, none⟩), .int .i64 1] W fun e w' => e = .returned (.int .i64 (gMk l p j)) ∧ At lo hi w' g l (p + 6 * j + 5) ∧ Keep g W w') := Lib.hid fun W hW => at_num hW 1 (Or.inl rfl) hb (by omega) (by omega)
        have N3 : Hid (∀ W, At lo hi W g l (p + 6 * j + 5) → Calls Try.prog 53 #[.pointer (some ⟨g, 0, none⟩), .int .i64 1] W fun e w' => e = .returned (.int .i64 (gPl l p j)) ∧ At lo hi w' g l (p + 6 * (j + 1)) ∧ Keep g W w') := Lib.hid fun W hW => at_num hW 1 (Or.inl rfl) hb (by omega) (by omega)
        have K1 := Lib.hid (fun w1 h1 h2 => ks.num C0.out (w1 := w1) (pos' := p + 6 * j + 4) h1 h2)
        have Z1 := Lib.hid (fun w1 (h : KS p lo hi g l n mk mp W0 j j j (p + 6 * j + 4) w1) => (⟨h.rk.cell (i := j * 3) (by omega), h.rk.frozen (j * 3), h.set0 C0.out⟩ : w1.cell? ⟨mk, j * 3, none⟩ = some _ ∧ w1.frozen? ⟨mk, j * 3, none⟩ = false ∧ KS p lo hi g l n mk mp W0 (j + 1) j j (p + 6 * j + 4) (w1.setCell ⟨mk, j * 3, none⟩ (.int .i64 (gOf l p j)))))
        have K2 := Lib.hid (fun wa w1 (h : KS p lo hi g l n mk mp W0 (j + 1) j j (p + 6 * j + 4) wa) h1 h2 => h.num C0.out (w1 := w1) (pos' := p + 6 * j + 5) h1 h2)
        have Z2 := Lib.hid (fun w1 (h : KS p lo hi g l n mk mp W0 (j + 1) j j (p + 6 * j + 5) w1) => (⟨h.rk.cell (i := j * 3 + 1) (by omega), h.rk.frozen (j * 3 + 1), h.set1 C0.out⟩ : w1.cell? ⟨mk, j * 3 + 1, none⟩ = some _ ∧ w1.frozen? ⟨mk, j * 3 + 1, none⟩ = false ∧ KS p lo hi g l n mk mp W0 (j + 1) (j + 1) j (p + 6 * j + 5) (w1.setCell ⟨mk, j * 3 + 1, none⟩ (.bool (dOf l p j)))))
        have K3 := Lib.hid (fun wa w1 (h : KS p lo hi g l n mk mp W0 (j + 1) (j + 1) j (p + 6 * j + 5) wa) h1 h2 => h.num C0.out (w1 := w1) (pos' := p + 6 * (j + 1)) h1 h2)
        have Z3 := Lib.hid (fun w1 (h : KS p lo hi g l n mk mp W0 (j + 1) (j + 1) j (p + 6 * (j + 1)) w1) => (⟨h.rp.cell (i := j) (by omega), h.rp.frozen j, h.setP C0.out⟩ : w1.cell? ⟨mp, j, none⟩ = some _ ∧ w1.frozen? ⟨mp, j, none⟩ = false ∧ KS p lo hi g l n mk mp W0 (j + 1) (j + 1) (j + 1) (p + 6 * (j + 1)) (w1.setCell ⟨mp, j, none⟩ (.int .i64 (gPl l p j)))))
        have q1 : (gMk l p j == 1) = dOf l p j := rfl
        have IM1 := Lib.hid (IM.out (gMk l p j))
        have E := Lib.hid (fun b' W' (hb' : b' = mkAll l p (j + 1)) (h : KS p lo hi g l n mk mp W0 (j + 1) (j + 1) (j + 1) (p + 6 * (j + 1)) W') => (⟨j + 1, b', hlt, rfl, rfl, hb', h⟩ : KHead p lo hi g l n mk mp W0 (.bool b') (.int .i64 ((j : Int) + 1)) W'))
        rw [mkAll_succ, ← hok] at E
        clear hok ks hb IM
        generalize gOf l p j = x1 at *
        generalize dOf l p j = x2 at *
        generalize gPl l p j = x3 at *
        generalize mkB (gMk l p j) = m at *
        generalize gMk l p j = x4 at *
        cases b <;> cases m
        all_goals (go_wp2_with (first
          | (go_at_call 53; (with_reducible refine N1.out.mono ?_); rintro e w1 ⟨rfl, h1, h2⟩; obtain ⟨c0, f0, s⟩ := Z1.out _ (K1.out _ h1 h2); have A1 := Lib.hid s; clear h1 h2 s)
          | (go_at_call 53; (with_reducible refine (N2.out _ A1.out.at').mono ?_); rintro e w2 ⟨rfl, h1, h2⟩; clear c0 f0; obtain ⟨c0, f0, s⟩ := Z2.out _ (K2.out _ _ A1.out h1 h2); have A2 := Lib.hid s; clear h1 h2 s)
          | (go_at_call 54; (with_reducible refine (IM1.out _).mono ?_); rintro e w' ⟨rfl, rfl⟩)
          | (go_at_call 53; (with_reducible refine (N3.out _ A2.out.at').mono ?_); rintro e w3 ⟨rfl, h1, h2⟩; clear c0 f0; obtain ⟨c0, f0, s⟩ := Z3.out _ (K3.out _ _ A2.out h1 h2); have A3 := Lib.hid s; clear h1 h2 s)))
        all_goals go_roundw
        case rel => exact E.out _ _ rfl A3.out
        case measure => simp [intOf]; omega
        case rel => exact E.out _ _ rfl A3.out
        case measure => simp [intOf]; omega
        case rel => exact E.out _ _ rfl A3.out
        case measure => simp [intOf]; omega
        case rel => exact E.out _ _ rfl A3.out
        case measure => simp [intOf]; omega
      · obtain rfl : j = n := by omega
        have E : Hid (KTold p lo hi g l j W0 (.returned (.tuple #[.slice (some ⟨mk, 0, none⟩) j j, .slice (some ⟨mp, 0, none⟩) j j, .bool b])) wr) := Lib.hid ⟨mk, mp, by rw [hok], C0.out, ks.rk.congr (fun i hi => by unfold tyF; rw [ug_all _ _ (by omega), ug_all _ _ (by omega)]), ks.rp.congr (fun i hi => by rw [ug_all _ _ hi]), ks.at', ks.keep⟩
        clear hok ks hb IM
        go_wp2
        go_ret3
        exact E.out
end Go.Proofs.Ytkdmecpelfcbmaa.blk
