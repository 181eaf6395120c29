/-
  Heads compared; and the small case that each statement of layer 15 begins with comes out true. No condition.
-/
import Derived.Test.YtkbpmopnphcfjaaHeadDec
import Derived.Test.YtkbpmopnphcfjaaOctApp
namespace Go.Proofs.Ytkbpmopnphcfjaa.head
open Go.ChangeShapes Go.WideShapes Go.ChangeAt Go.RowKit
open om mem oct hd
set_option linter.unusedVariables false
set_option maxRecDepth 100000

/-- are two heads the same? -/
def hdB (a b : Hd) : Bool := a.v == b.v && (a.ut == b.ut && (a.sd == b.sd && (a.lp == b.lp && (a.tm == b.tm && (a.ty == b.ty && a.ch == b.ch)))))
theorem hdb_iff {a b : Hd} : hdB a b = true ↔ a = b := by
  unfold hdB
  simp only [Bool.and_eq_true, beq_iff_eq]
  constructor
  · rintro ⟨h1, h2, h3, h4, h5, h6, h7⟩
    exact Hd.ext7 h1 h2 h3 h4 h5 h6 h7
  · rintro rfl
    exact ⟨rfl, rfl, rfl, rfl, rfl, rfl, rfl⟩
theorem hdb_self (a : Hd) : hdB a a = true := hdb_iff.2 rfl
set_option maxHeartbeats 4000000 in
theorem eqH (a b : Hd) (W : World) : (Op.equalIn 10000 23 (.agg #[.int .i64 a.v, .int .i64 a.ut, .int .i64 a.sd, .int .i64 a.lp, .int .i64 a.tm, .int .i64 a.ty, .int .i64 a.ch]) (.agg #[.int .i64 b.v, .int .i64 b.ut, .int .i64 b.sd, .int .i64 b.lp, .int .i64 b.tm, .int .i64 b.ty, .int .i64 b.ch])).run Try.prog W = .ok (hdB a b) W := by
  obtain ⟨a0, a1, a2, a3, a4, a5, a6⟩ := a
  obtain ⟨b0, b1, b2, b3, b4, b5, b6⟩ := b
  unfold hdB
  simp only
  rw [run_equalIn_struct W 9999 23 _ _ (by kernel_rfl) (by kernel_rfl)]
  have hf : Try.prog.fieldsOf 23 = (match Try.prog.underlying 23 with | some (.struct fs) => fs | _ => #[]) := by kernel_rfl
  rw [Try.underlying23] at hf
  simp only at hf
  rw [hf]
  have p0 : ∀ x0 x1 x2 x3 x4 x5 x6 : Int, (part 3 #[.int .i64 x0, .int .i64 x1, .int .i64 x2, .int .i64 x3, .int .i64 x4, .int .i64 x5, .int .i64 x6] 0).run Try.prog W = .ok (.int .i64 x0) W := fun x0 x1 x2 x3 x4 x5 x6 => by simp [part, isAgg, run_underlying Try.underlying3]
  have p1 : ∀ x0 x1 x2 x3 x4 x5 x6 : Int, (part 3 #[.int .i64 x0, .int .i64 x1, .int .i64 x2, .int .i64 x3, .int .i64 x4, .int .i64 x5, .int .i64 x6] 1).run Try.prog W = .ok (.int .i64 x1) W := fun x0 x1 x2 x3 x4 x5 x6 => by simp [part, isAgg, run_underlying Try.underlying3]
  have p2 : ∀ x0 x1 x2 x3 x4 x5 x6 : Int, (part 3 #[.int .i64 x0, .int .i64 x1, .int .i64 x2, .int .i64 x3, .int .i64 x4, .int .i64 x5, .int .i64 x6] 2).run Try.prog W = .ok (.int .i64 x2) W := fun x0 x1 x2 x3 x4 x5 x6 => by simp [part, isAgg, run_underlying Try.underlying3]
  have p3 : ∀ x0 x1 x2 x3 x4 x5 x6 : Int, (part 3 #[.int .i64 x0, .int .i64 x1, .int .i64 x2, .int .i64 x3, .int .i64 x4, .int .i64 x5, .int .i64 x6] 3).run Try.prog W = .ok (.int .i64 x3) W := fun x0 x1 x2 x3 x4 x5 x6 => by simp [part, isAgg, run_underlying Try.underlying3]
  have p4 : ∀ x0 x1 x2 x3 x4 x5 x6 : Int, (part 3 #[.int .i64 x0, .int .i64 x1, .int .i64 x2, .int .i64 x3, .int .i64 x4, .int .i64 x5, .int .i64 x6] 4).run Try.prog W = .ok (.int .i64 x4) W := fun x0 x1 x2 x3 x4 x5 x6 => by simp [part, isAgg, run_underlying Try.underlying3]
  have p5 : ∀ x0 x1 x2 x3 x4 x5 x6 : Int, (part 3 #[.int .i64 x0, .int .i64 x1, .int .i64 x2, .int .i64 x3, .int .i64 x4, .int .i64 x5, .int .i64 x6] 5).run Try.prog W = .ok (.int .i64 x5) W := fun x0 x1 x2 x3 x4 x5 x6 => by simp [part, isAgg, run_underlying Try.underlying3]
  have p6 : ∀ x0 x1 x2 x3 x4 x5 x6 : Int, (part 3 #[.int .i64 x0, .int .i64 x1, .int .i64 x2, .int .i64 x3, .int .i64 x4, .int .i64 x5, .int .i64 x6] 6).run Try.prog W = .ok (.int .i64 x6) W := fun x0 x1 x2 x3 x4 x5 x6 => by simp [part, isAgg, run_underlying Try.underlying3]
  have e3 : ∀ x y : Int, (Op.equalIn 9999 3 (.int .i64 x) (.int .i64 y)).run Try.prog W = .ok (x == y) W := fun x y => run_equalIn_int W 9998 3 .i64 .i64 x y Try.underlying3
  by_cases h0 : a0 = b0
  rotate_left
  · simp [Op.eqFields, Sem.run_bind, p0, e3, h0]
  by_cases h1 : a1 = b1
  rotate_left
  · simp [Op.eqFields, Sem.run_bind, p0, p1, e3, h0, h1]
  by_cases h2 : a2 = b2
  rotate_left
  · simp [Op.eqFields, Sem.run_bind, p0, p1, p2, e3, h0, h1, h2]
  by_cases h3 : a3 = b3
  rotate_left
  · simp [Op.eqFields, Sem.run_bind, p0, p1, p2, p3, e3, h0, h1, h2, h3]
  by_cases h4 : a4 = b4
  rotate_left
  · simp [Op.eqFields, Sem.run_bind, p0, p1, p2, p3, p4, e3, h0, h1, h2, h3, h4]
  by_cases h5 : a5 = b5
  rotate_left
  · simp [Op.eqFields, Sem.run_bind, p0, p1, p2, p3, p4, p5, e3, h0, h1, h2, h3, h4, h5]
  by_cases h6 : a6 = b6
  · simp [Op.eqFields, Sem.run_bind, p0, p1, p2, p3, p4, p5, p6, e3, h0, h1, h2, h3, h4, h5, h6]
  · simp [Op.eqFields, Sem.run_bind, p0, p1, p2, p3, p4, p5, p6, e3, h0, h1, h2, h3, h4, h5, h6]
def H1 : Hd := ⟨2, 0, 1, 0, 3, 1, 4⟩
def H2 : Hd := ⟨5, 0, 0, 0, 0, 1, 4⟩
def H3 : Hd := ⟨1, 0, 0, 0, 0, 1, 4⟩
theorem byts1 : byts H1 = [84, 90, 105, 102, 50, 0, 0, 0, 0, 0, 0, 0, 0, 0, 0, 0, 0, 0, 0, 0, 0, 0, 0, 0, 0, 0, 0, 1, 0, 0, 0, 0, 0, 0, 0, 3, 0, 0, 0, 1, 0, 0, 0, 4] := by decide +kernel
theorem ok1 : hd.okB H1 = true := by decide +kernel
theorem ok2 : hd.okB H2 = false := by decide +kernel
theorem ok3 : hd.okB H3 = true := by decide +kernel
def L1 : List Nat := [84, 90, 105, 102, 50, 0, 0, 0, 0, 0, 0, 0, 0, 0, 0, 0, 0, 0, 0, 0, 0, 0, 0, 0, 0, 0, 0, 1, 0, 0, 0, 0, 0, 0, 0, 3, 0, 0, 0, 1, 0, 0, 0, 4]
def L3 : List Nat := [84, 90, 105, 102, 0, 0, 0, 0, 0, 0, 0, 0, 0, 0, 0, 0, 0, 0, 0, 0, 0, 0, 0, 0, 0, 0, 0, 0, 0, 0, 0, 0, 0, 0, 0, 0, 0, 0, 0, 1, 0, 0, 0, 4]
theorem byts1' : byts H1 = L1 := by decide +kernel
theorem byts3' : byts H3 = L3 := by decide +kernel
theorem bys1 : Bys L1 := bys_lit (by decide +kernel)
theorem own44 {base : Nat} {W : World} {v : Value} {l : List Nat} (h : Own base W v l) (hl : l.length = 44) : ∃ g c, v = .slice (some ⟨g, 0, none⟩) 44 c ∧ 44 ≤ c := by
  rcases h.2 with ⟨rfl, hn⟩ | ⟨g, cap, cur, rfl, hb, hh, hnc, _⟩
  · omega
  · exact ⟨g, cap, by rw [hl], by omega⟩
theorem old_cells {W : World} {g c : Nat} {l : List Nat} (h : Old W (.slice (some ⟨g, 0, none⟩) 44 c) l) (hl : l.length = 44) (k : Nat) (hk : k < 44) : W.cell? ⟨g, k, none⟩ = some (.int .u8 (l[k]'(by omega) : Nat)) := by
  rcases h with ⟨e, _⟩ | ⟨b, o, cap, e, hc, hp, hr⟩
  · cases e
  · injection e with e1 e2 e3
    injection e1 with e1
    injection e1 with e1 e4
    subst e1 e4
    have := hr k (by omega)
    rw [Nat.zero_add] at this
    exact this
theorem old_rd44 {W : World} {g c : Nat} {l : List Nat} (h : Old W (.slice (some ⟨g, 0, none⟩) 44 c) l) (hl : l.length = 44) (f : Nat) (hf : f ≤ 44) : RdW W (.slice (some ⟨g, 0, none⟩) f c) (l.take f) := by
  refine RdW.head (l := l) ?_ f (by omega)
  rw [hl]
  exact h.rd
theorem str6 : strN (L1.take 6) = ⟨#[84, 90, 105, 102, 50, 0]⟩ := by decide +kernel
set_option maxHeartbeats 8000000 in
theorem small_at (w : World) : Calls Try.prog 8 #[] w fun e w' => e = .returned (.bool true) ∧ Below w.heap.size w w' := by
  have EN1 : Hid (∀ W, Calls Try.prog 9 #[.agg #[.int .i64 2, .int .i64 0, .int .i64 1, .int .i64 0, .int .i64 3, .int .i64 1, .int .i64 4]] W fun e w' => ∃ g c, e = .returned (.tuple #[.slice (some ⟨g, 0, none⟩) 44 c, .bool true]) ∧ 44 ≤ c ∧ Own W.heap.size w' (.slice (some ⟨g, 0, none⟩) 44 c) L1 ∧ Below W.heap.size W w') := Lib.hid fun W => (encode_at H1 W).mono fun e w' ⟨v', he, ho, hb⟩ => by
    rw [enc_yes ok1, byts1'] at ho
    rw [ok1] at he
    obtain ⟨g, c, rfl, hc⟩ := own44 ho rfl
    exact ⟨g, c, he, hc, ho, hb⟩
  have EN2 : Hid (∀ W, Calls Try.prog 9 #[.agg #[.int .i64 5, .int .i64 0, .int .i64 0, .int .i64 0, .int .i64 0, .int .i64 1, .int .i64 4]] W fun e w' => ∃ v', e = .returned (.tuple #[v', .bool false]) ∧ Below W.heap.size W w') := Lib.hid fun W => (encode_at H2 W).mono fun e w' ⟨v', he, ho, hb⟩ => ⟨v', by rw [he, ok2], hb⟩
  have EN3 : Hid (∀ W, Calls Try.prog 9 #[.agg #[.int .i64 1, .int .i64 0, .int .i64 0, .int .i64 0, .int .i64 0, .int .i64 1, .int .i64 4]] W fun e w' => ∃ g c, e = .returned (.tuple #[.slice (some ⟨g, 0, none⟩) 44 c, .bool true]) ∧ 44 ≤ c ∧ w'.cell? ⟨g, 4, none⟩ = some (.int .u8 0) ∧ Below W.heap.size W w') := Lib.hid fun W => (encode_at H3 W).mono fun e w' ⟨v', he, ho, hb⟩ => by
    rw [enc_yes ok3, byts3'] at ho
    rw [ok3] at he
    obtain ⟨g, c, rfl, hc⟩ := own44 ho rfl
    exact ⟨g, c, he, hc, old_cells (own_old ho) rfl 4 (by decide), hb⟩
  have DE1 : Hid (∀ W v, RdW W v (L1 ++ [9]) → Calls Try.prog 11 #[v] W fun e w' => e = .returned (.tuple #[.agg #[.int .i64 2, .int .i64 0, .int .i64 1, .int .i64 0, .int .i64 3, .int .i64 1, .int .i64 4], .bool true]) ∧ Below W.heap.size W w') := Lib.hid fun W v h => (decode_at _ v W h (bys1.app (bys_lit (by decide))) (by decide)).mono fun e w' ⟨he, hb⟩ => by
    rw [← byts1', (is_byts ok1 [9]).1, (is_byts ok1 [9]).2] at he
    exact ⟨he, hb⟩
  have DE2 : Hid (∀ W v, RdW W v (L1.take 43) → Calls Try.prog 11 #[v] W fun e w' => e = .returned (.tuple #[.agg #[.int .i64 0, .int .i64 0, .int .i64 0, .int .i64 0, .int .i64 0, .int .i64 0, .int .i64 0], .bool false]) ∧ Below W.heap.size W w') := Lib.hid fun W v h => (decode_at _ v W h (bys1.take 43) (by decide)).mono fun e w' ⟨he, hb⟩ => by
    rw [is_short (by decide), dec_no (is_short (by decide))] at he
    exact ⟨he, hb⟩
  have S8 : Hid (∀ W, Calls Try.prog 15 #[.agg #[.int .i64 2, .int .i64 0, .int .i64 1, .int .i64 0, .int .i64 3, .int .i64 1, .int .i64 4], .int .i64 8] W fun e w' => e = .returned (.int .i64 38) ∧ Below W.heap.size W w') := Lib.hid fun W => size_at H1 8 W
  have S4 : Hid (∀ W, Calls Try.prog 15 #[.agg #[.int .i64 2, .int .i64 0, .int .i64 1, .int .i64 0, .int .i64 3, .int .i64 1, .int .i64 4], .int .i64 4] W fun e w' => e = .returned (.int .i64 26) ∧ Below W.heap.size W w') := Lib.hid fun W => size_at H1 4 W
  have S5 : Hid (∀ W, Calls Try.prog 15 #[.agg #[.int .i64 2, .int .i64 0, .int .i64 1, .int .i64 0, .int .i64 3, .int .i64 1, .int .i64 4], .int .i64 5] W fun e w' => e = .returned (.int .i64 0) ∧ Below W.heap.size W w') := Lib.hid fun W => size_at H1 5 W
  have R1 : Hid (∀ W, Calls Try.prog 13 #[.agg #[.int .i64 2, .int .i64 0, .int .i64 1, .int .i64 0, .int .i64 3, .int .i64 1, .int .i64 4]] W fun e w' => e = .returned (.bool true) ∧ Below W.heap.size W w') := Lib.hid fun W => right_at H1 W
  have R0 : Hid (∀ W, Calls Try.prog 13 #[.agg #[.int .i64 0, .int .i64 0, .int .i64 0, .int .i64 0, .int .i64 0, .int .i64 0, .int .i64 0]] W fun e w' => e = .returned (.bool false) ∧ Below W.heap.size W w') := Lib.hid fun W => right_at zero W
  have TC : Hid (∀ W, Below (w.alloc (.cells #[.int .i64 2, .int .i64 0, .int .i64 1, .int .i64 0, .int .i64 3, .int .i64 1, .int .i64 4] 23)).heap.size (w.alloc (.cells #[.int .i64 2, .int .i64 0, .int .i64 1, .int .i64 0, .int .i64 3, .int .i64 1, .int .i64 4] 23)) W → W.cell? ⟨w.heap.size, 0, none⟩ = some (.int .i64 2) ∧ W.cell? ⟨w.heap.size, 1, none⟩ = some (.int .i64 0) ∧ W.cell? ⟨w.heap.size, 2, none⟩ = some (.int .i64 1) ∧ W.cell? ⟨w.heap.size, 3, none⟩ = some (.int .i64 0) ∧ W.cell? ⟨w.heap.size, 4, none⟩ = some (.int .i64 3) ∧ W.cell? ⟨w.heap.size, 5, none⟩ = some (.int .i64 1) ∧ W.cell? ⟨w.heap.size, 6, none⟩ = some (.int .i64 4)) := Lib.hid fun W hb => ⟨row_cell (kept (hp_new w _) hb) 0, row_cell (kept (hp_new w _) hb) 1, row_cell (kept (hp_new w _) hb) 2, row_cell (kept (hp_new w _) hb) 3, row_cell (kept (hp_new w _) hb) 4, row_cell (kept (hp_new w _) hb) 5, row_cell (kept (hp_new w _) hb) 6⟩
  have EX : Hid (∀ W, Below (w.alloc (.cells #[.int .i64 2, .int .i64 0, .int .i64 1, .int .i64 0, .int .i64 3, .int .i64 1, .int .i64 4] 23)).heap.size (w.alloc (.cells #[.int .i64 2, .int .i64 0, .int .i64 1, .int .i64 0, .int .i64 3, .int .i64 1, .int .i64 4] 23)) W → Below w.heap.size w W) := Lib.hid fun W hb => btr (bal (Below.refl _ _) _) hb
  have EQ : ∀ W, (Op.equalIn 10000 23 (.agg #[.int .i64 2, .int .i64 0, .int .i64 1, .int .i64 0, .int .i64 3, .int .i64 1, .int .i64 4]) (.agg #[.int .i64 2, .int .i64 0, .int .i64 1, .int .i64 0, .int .i64 3, .int .i64 1, .int .i64 4])).run Try.prog W = .ok true W := fun W => by have := eqH H1 H1 W; rw [hdb_self] at this; exact this
  have SL : Hid (∀ (g c n : Nat) (z : Int), z = (n : Nat) → n ≤ c → ∀ W, (Instr.slice 24 (.slice (some ⟨g, 0, none⟩) 44 c) none (some (.int .i64 z)) none).run Try.prog W = .ok (.slice (some ⟨g, 0, none⟩) n c) W) := Lib.hid fun g c n z hz hc W => cutH _ 44 c n z hz hc W
  have CV : Hid (∀ W g c, Old W (.slice (some ⟨g, 0, none⟩) 44 c) L1 → (convert 24 9 (.slice (some ⟨g, 0, none⟩) 6 c)).run Try.prog W = .ok (.string ⟨#[84, 90, 105, 102, 50, 0]⟩) W) := Lib.hid fun W g c h => by rw [← str6]; exact str_of (old_rd44 h rfl 6 (by decide))
  have AE : Hid (∀ {W W' : World}, Below (w.alloc (.cells #[.int .i64 2, .int .i64 0, .int .i64 1, .int .i64 0, .int .i64 3, .int .i64 1, .int .i64 4] 23)).heap.size (w.alloc (.cells #[.int .i64 2, .int .i64 0, .int .i64 1, .int .i64 0, .int .i64 3, .int .i64 1, .int .i64 4] 23)) W → Below W.heap.size W W' → Below (w.alloc (.cells #[.int .i64 2, .int .i64 0, .int .i64 1, .int .i64 0, .int .i64 3, .int .i64 1, .int .i64 4] 23)).heap.size (w.alloc (.cells #[.int .i64 2, .int .i64 0, .int .i64 1, .int .i64 0, .int .i64 3, .int .i64 1, .int .i64 4] 23)) W') := Lib.hid fun h k => btr h k
  go_enter Try.func8, Try.ntmps8
  go_wp2_with (first
    | (go_at_call 9; first
        | ((with_reducible refine (EN1.out _).mono ?_); rintro e w1 ⟨g, c, rfl, hc, ho, hb⟩; have O1 := Lib.hid ho; have HA1 := Lib.hid hb; have q43 := SL.out g c 43 43 rfl (by omega); have q6 := SL.out g c 6 6 rfl (by omega); clear ho hb hc EN1 SL)
        | ((with_reducible refine (EN2.out _).mono ?_); rintro e w4 ⟨v4, rfl, hb⟩; have HA4 := Lib.hid (btr (bal HA3.out _) hb); have OL4 := Lib.hid ((OL3.out.below (bal (Below.refl _ _) _)).below hb); have B4 := Lib.hid (kept (hp_new w3 _) hb); clear hb HA3 OL3)
        | ((with_reducible refine (EN3.out _).mono ?_); rintro e w6 ⟨g6, c6, rfl, hc6, y4, hb⟩; have HA6 := Lib.hid (btr (bal HA5.out _) hb); have OL6 := Lib.hid ((OL5.out.below (bal (Below.refl _ _) _)).below hb); have B6 := Lib.hid (kept (hp_old B5.out _) hb); have x27 := old_cells OL6.out rfl 27 (by decide); have x43 := old_cells OL6.out rfl 43 (by decide); have qs := CV.out _ _ _ OL6.out; obtain ⟨t0, t1, t2, t3, t4, t5, t6⟩ := TC.out _ HA6.out; have d0 := row_cell B6.out 0; have d1 := row_cell B6.out 1; have d2 := row_cell B6.out 2; have d3 := row_cell B6.out 3; have d4 := row_cell B6.out 4; have d5 := row_cell B6.out 5; have d6 := row_cell B6.out 6; clear hb HA5 OL5 B5 hc6))
    | (go_at_call 11; first
        | ((with_reducible refine (DE1.out _ _ (own_by O2.out).rd).mono ?_); rintro e w3 ⟨rfl, hb⟩; have HA3 := Lib.hid (btr HA2.out hb); have OL3 := Lib.hid (OL2.out.below hb); clear hb O2 HA2 OL2)
        | ((with_reducible refine (DE2.out _ _ (old_rd44 OL4.out rfl 43 (by decide))).mono ?_); rintro e w5 ⟨rfl, hb⟩; have HA5 := Lib.hid (btr HA4.out hb); have OL5 := Lib.hid (OL4.out.below hb); have B5 := Lib.hid (kept B4.out hb); clear hb HA4 OL4 B4))
    | (at_builtin; refine app_lit2 rfl _ _ rfl (w.alloc (.cells #[.int .i64 2, .int .i64 0, .int .i64 1, .int .i64 0, .int .i64 3, .int .i64 1, .int .i64 4] 23)).heap.size w1 (.slice (some ⟨g, 0, none⟩) 44 c) L1 [9] #[.int .u8 9] 1 rfl rfl rfl rfl O1.out (by decide) HA1.out.size ?_; intro v2 w2 ho2 hg2 hl2; have O2 := Lib.hid ho2; have OL2 := Lib.hid hl2; have HA2 := Lib.hid (own_below O1.out HA1.out HA1.out.size hg2); clear ho2 hg2 hl2 O1 HA1)
    | (go_at_call 15; first
        | ((with_reducible refine (S8.out _).mono ?_); rintro e w7 ⟨rfl, hb⟩; have HA7 := Lib.hid (btr HA6.out hb); clear t0 t1 t2 t3 t4 t5 t6 hb HA6; obtain ⟨t0, t1, t2, t3, t4, t5, t6⟩ := TC.out _ HA7.out)
        | ((with_reducible refine (S4.out _).mono ?_); rintro e w8 ⟨rfl, hb⟩; have HA8 := Lib.hid (btr HA7.out hb); clear t0 t1 t2 t3 t4 t5 t6 hb HA7; obtain ⟨t0, t1, t2, t3, t4, t5, t6⟩ := TC.out _ HA8.out)
        | ((with_reducible refine (S5.out _).mono ?_); rintro e w9 ⟨rfl, hb⟩; have HA9 := Lib.hid (btr HA8.out hb); clear t0 t1 t2 t3 t4 t5 t6 hb HA8; obtain ⟨t0, t1, t2, t3, t4, t5, t6⟩ := TC.out _ HA9.out))
    | (go_at_call 13; first
        | ((with_reducible refine (R1.out _).mono ?_); rintro e w10 ⟨rfl, hb⟩; have HA10 := Lib.hid (btr HA9.out hb); clear hb HA9)
        | ((with_reducible refine (R0.out _).mono ?_); rintro e w11 ⟨rfl, hb⟩; have HA11 := Lib.hid (btr HA10.out hb); clear hb HA10)))
  go_ret
  exact ⟨rfl, EX.out _ HA11.out⟩
end Go.Proofs.Ytkbpmopnphcfjaa.head
