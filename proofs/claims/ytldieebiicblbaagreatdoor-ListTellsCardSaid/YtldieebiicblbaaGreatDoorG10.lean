/-
  What ntp's digit and Word answer: what a sign is worth in base 16, and the number that a text is. Condition: the text is no longer than an int can tell.
-/
import Derived.Test.YtldieebiicblbaaGreatDoorG06
import Derived.Test.YtldieebiicblbaaGreatDoorG09
import Derived.Lib.OthersKept
import Derived.Test.YtldieebiicblbaaGreatDoorG04
import Derived.Test.YtldieebiicblbaaGreatDoorG05
import Derived.ChangeKeysEq
import Derived.BigFrame
namespace Go.Proofs.YtldieebiicblbaaGreatDoor.ntp
open Go.ChangeShapes Go.WideShapes Go.ChangeAt Go.RowKit
open lx nx
set_option linter.unusedVariables false
set_option maxRecDepth 100000

theorem digit_yes (c d : Nat) (W : World) (h : dv c = some d) : Calls Tryz.prog 117 #[.int .i32 (c : Nat)] W fun e w' => e = .returned (.tuple #[.int .u32 (d : Nat), .bool true]) ∧ W = w' := by
  rcases dv_cases h with ⟨h1, h2, h3⟩ | ⟨h1, h2, h3⟩ | ⟨h1, h2, h3⟩
  · have e : (d : Int) = (c : Int) - 48 := by omega
    rw [e]
    clear h h3 e
    go_enter Tryz.func117, Tryz.ntmps117
    go_wp2
    go_ret2
    exact ⟨rfl, rfl⟩
  · have e : (d : Int) = (c : Int) - 97 + 10 := by omega
    rw [e]
    clear h h3 e
    go_enter Tryz.func117, Tryz.ntmps117
    go_wp2
    go_ret2
    exact ⟨rfl, rfl⟩
  · have e : (d : Int) = (c : Int) - 65 + 10 := by omega
    rw [e]
    clear h h3 e
    go_enter Tryz.func117, Tryz.ntmps117
    go_wp2
    go_ret2
    exact ⟨rfl, rfl⟩
theorem digit_no (c : Nat) (W : World) (hc : c ≤ 2147483647) (h : dv c = none) : Calls Tryz.prog 117 #[.int .i32 (c : Nat)] W fun e w' => e = .returned (.tuple #[.int .u32 0, .bool false]) ∧ W = w' := by
  obtain ⟨h1, h2, h3⟩ := dv_none h
  clear h
  rcases (show c < 48 ∨ (58 ≤ c ∧ c < 65) ∨ (71 ≤ c ∧ c < 97) ∨ 103 ≤ c by omega) with k | ⟨k, l⟩ | ⟨k, l⟩ | k
  all_goals
    clear h1 h2 h3
    go_enter Tryz.func117, Tryz.ntmps117
    go_wp2
    go_ret2
    exact ⟨rfl, rfl⟩
/-- what Word tells. -/
def WTold (s : ByteArray) (w : World) (e : Ending) (w' : World) : Prop := e = .returned (.tuple #[.int .u32 (wN (L s) : Nat), .bool (wT (L s))]) ∧ Below w.heap.size w w'
theorem wtold_yes {s : ByteArray} {w W : World} {n : Nat} (h : wrd (L s) = some n) (hb : Below w.heap.size w W) : WTold s w (.returned (.tuple #[.int .u32 (n : Nat), .bool true])) W := by
  obtain ⟨e1, e2⟩ := w_yes h
  exact ⟨by rw [e1, e2], hb⟩
theorem wtold_no {s : ByteArray} {w W : World} (h : wrd (L s) = none) (hb : Below w.heap.size w W) : WTold s w (.returned (.tuple #[.int .u32 0, .bool false])) W := by
  obtain ⟨e1, e2⟩ := w_no h
  exact ⟨by rw [e1, e2]; rfl, hb⟩
def WHead (s : ByteArray) (w : World) (t : Value) (W : World) : Prop :=
  ∃ p n : Nat, t = .int .u32 n ∧ W.heap[w.heap.size]? = some (.stringIter s p) ∧ p ≤ s.size ∧ n < 16 ^ p ∧ wg n ((L s).drop p) = wrd (L s) ∧ Below w.heap.size w W
theorem pos_of {W : World} {N p : Nat} {s : ByteArray} (h : W.heap[N]? = some (.stringIter s p)) : W.iterPos N = p := by unfold World.iterPos; rw [h]
theorem whead_next {s : ByteArray} {w W : World} {p n d : Nat} (hi : W.heap[w.heap.size]? = some (.stringIter s p)) (hp : p < s.size) (hn : n < 16 ^ p) (e : wg n ((L s).drop p) = wrd (L s)) (hb : Below w.heap.size w W) (hd : dv (bt s p) = some d) :
    WHead s w (.int .u32 ((16 * n + d : Nat) : Int)) (W.iterAt w.heap.size s (p + 1)) ∧ s.size - (W.iterAt w.heap.size s (p + 1)).iterPos w.heap.size < s.size - W.iterPos w.heap.size := by
  have i2 := Lib.iterAt_heap W w.heap.size s p (p + 1) hi
  refine ⟨⟨p + 1, _, rfl, i2, by omega, ?_, by rw [← wg_go s p n d hp hd]; exact e, Lib.below_iterAt hb (Nat.le_refl _) _ _⟩, by rw [pos_of hi, pos_of i2]; omega⟩
  have := dv_lt hd
  rw [Nat.pow_succ]
  omega
set_option maxHeartbeats 1000000 in
theorem word_at (s : ByteArray) (w : World) (hs : s.size ≤ 9223372036854775807) : Calls Tryz.prog 94 #[.string s] w (WTold s w) := by
  by_cases h0 : s.size = 0
  · obtain rfl : s = ⟨#[]⟩ := L_inj ((L_nil s).2 h0)
    have R := Lib.hid (wtold_no (s := ⟨#[]⟩) (w := w) (W := w) rfl (Below.refl _ _))
    clear h0 hs
    go_enter Tryz.func94, Tryz.ntmps94
    go_wp2
    go_ret2
    exact R.out
  have t0 : (s.toList == []) = false := by
    rw [ByteArray.toList_eq, beq_eq_false_iff_ne]
    intro k
    exact h0 ((L_nil s).1 k)
  by_cases h8 : 8 < s.size
  · have R := Lib.hid (wtold_no (w := w) (W := w) (wrd_long (l := L s) h8) (Below.refl _ _))
    clear h0
    go_enter Tryz.func94, Tryz.ntmps94
    go_wp2
    go_ret2
    exact R.out
  have N0 := Lib.hid (wrd_in (l := L s) (fun e => h0 ((L_nil s).1 e)) (by rw [L_len]; omega))
  go_enter Tryz.func94, Tryz.ntmps94
  go_wp2
  go_loopw [4] (fun t W => WHead s w t W) (fun _ W => s.size - W.iterPos w.heap.size)
  case atStart => exact ⟨0, 0, rfl, heap_alloc_new _ _, by omega, by decide, N0.out.symm, (Below.refl _ _).alloc (Nat.le_refl _) _⟩
  case round =>
    obtain ⟨p, n, rfl, hi, hp, hn, e, hb⟩ := hrel
    by_cases hlt : p < s.size
    · have hn7 : n < 268435456 := Nat.lt_of_lt_of_le hn (Nat.pow_le_pow_right (n := 16) (by decide) (show p ≤ 7 by omega))
      cases hd : dv (bt s p) with
      | some d =>
        have D := Lib.hid (fun W => digit_yes (bt s p) d W hd)
        have ha := dv_small hd
        have R := Lib.hid (whead_next hi hlt hn e hb hd)
        have ho := or_digit n d hn7 (dv_lt hd)
        have hnx := fun ty => Lib.run_next_ascii_at (P := Tryz.prog) wr w.heap.size s p ty hi hlt (by rw [bt_at]; exact ha)
        rw [bt_at] at hnx
        have dl := dv_lt hd
        clear hn e hi hd
        go_wp2_with (first
          | (go_at_call 117; (with_reducible refine (D.out _).mono ?_; rintro e w' ⟨rfl, rfl⟩)))
        go_roundw
        case rel => exact R.out.1
        case measure => exact R.out.2
      | none =>
        have R := Lib.hid (fun W' hb' => wtold_no (w := w) (W := W') (e.symm.trans (wg_stop s p n hlt hd)) hb')
        by_cases ha : bt s p < 128
        · have D := Lib.hid (fun W => digit_no (bt s p) W (by omega) hd)
          have hnx := fun ty => Lib.run_next_ascii_at (P := Tryz.prog) wr w.heap.size s p ty hi hlt (by rw [bt_at]; exact ha)
          rw [bt_at] at hnx
          have HB := Lib.hid (Lib.below_iterAt hb (Nat.le_refl _) s (p + 1))
          clear hn e hi hd
          go_wp2_with (first
            | (go_at_call 117; (with_reducible refine (D.out _).mono ?_; rintro e w' ⟨rfl, rfl⟩)))
          go_ret2
          exact R.out _ HB.out
        · obtain ⟨d1, d2, d3, d4⟩ := decode_far s p hlt (by omega)
          have hnx := fun ty => Lib.run_next_any_at (P := Tryz.prog) wr w.heap.size s p ty hi hlt
          have dl := decode_le s p
          have HB := Lib.hid (Lib.below_iterAt hb (Nat.le_refl _) s (p + (Utf8.decode s p).2))
          clear hn e hi hd d4
          generalize Utf8.decode s p = D at *
          obtain ⟨r, d⟩ := D
          simp only at hnx d1 d2 d3 dl HB
          have D := Lib.hid (fun W => digit_no r W dl (dv_far d1))
          go_wp2_with (first
            | (go_at_call 117; (with_reducible refine (D.out _).mono ?_; rintro e w' ⟨rfl, rfl⟩)))
          go_ret2
          exact R.out _ HB.out
    · have R := Lib.hid (wtold_yes (w := w) (W := wr) (e.symm.trans (wg_done s p n (by omega))) hb)
      have hnx := fun ty => Lib.run_next_end_at (P := Tryz.prog) wr w.heap.size s p ty hi (by omega)
      clear hn e hi
      go_wp2
      go_ret2
      exact R.out
theorem word_on {w : World} (W : World) (hb : Below w.heap.size w W) (s : ByteArray) (hs : s.size ≤ 9223372036854775807) : Calls Tryz.prog 94 #[.string s] W fun e w' => e = .returned (.tuple #[.int .u32 (wN (L s) : Nat), .bool (wT (L s))]) ∧ Below w.heap.size w w' :=
  (word_at s W hs).mono fun e w' ⟨he, hw⟩ => ⟨he, hb.trans (hw.mono hb.size)⟩
end Go.Proofs.YtldieebiicblbaaGreatDoor.ntp

/-
  What sha.Sum answers: the digest of all bytes of the parts, one part behind the other. Conditions: the parts read as bytes, at most 1000000 of them together in at most 1000 parts; package sha's variable start holds what its initialiser lays.
-/
namespace Go.Proofs.YtldieebiicblbaaGreatDoor.sha
open Go.ChangeShapes Go.WideShapes Go.ChangeAt Go.RowKit
open sx
set_option linter.unusedVariables false
set_option maxRecDepth 100000

/-- what package sha's variable holds. -/
def St (w : World) : Prop := ∀ j v, ([.int .u32 1732584193, .int .u32 4023233417, .int .u32 2562383102, .int .u32 271733878, .int .u32 3285377520] : List Value)[j]? = some v → w.cell? ⟨0, j, none⟩ = some v
theorem St.below {w W : World} (h : St w) (hb : Below w.heap.size w W) : St W := fun j v hv => by
  have := h j v hv
  exact (hb.cell (World.block_lt_of_cell? w _ this)).trans this

/-- a slice of bytes, wherever it lies. -/
def RdW (W : World) (v : Value) (l : List Nat) : Prop :=
  ∃ A cap, v = .slice A l.length cap ∧ l.length ≤ cap ∧ (A = none → cap = 0) ∧ (l ≠ [] → ∃ b o, A = some ⟨b, o, none⟩ ∧ ∀ k (h : k < l.length), W.cell? ⟨b, o + k, none⟩ = some (.int .u8 (l[k] : Nat)))
theorem RdW.at {W : World} {v : Value} {l : List Nat} (h : RdW W v l) {B : Nat} (hB : W.heap.size ≤ B) {W' : World} (hb : Below W.heap.size W W') : Rd B W' v l := by
  obtain ⟨A, cap, e, hc, hz, hr⟩ := h
  refine ⟨A, cap, e, hc, fun hl => ?_⟩
  obtain ⟨b, o, hA, hcell⟩ := hr hl
  have hlt : b < W.heap.size := World.block_lt_of_cell? W _ (hcell 0 (List.length_pos_iff.2 hl))
  exact ⟨b, o, hA, by omega, fun k hk => (hb.cell (p := ⟨b, o + k, none⟩) hlt).trans (hcell k hk)⟩
theorem RdW.below {W W' : World} {v : Value} {l : List Nat} (h : RdW W v l) (hb : Below W.heap.size W W') : RdW W' v l := by
  obtain ⟨A, cap, e, hc, hz, hr⟩ := h
  refine ⟨A, cap, e, hc, hz, fun hl => ?_⟩
  obtain ⟨b, o, hA, hcell⟩ := hr hl
  have hlt : b < W.heap.size := World.block_lt_of_cell? W _ (hcell 0 (List.length_pos_iff.2 hl))
  exact ⟨b, o, hA, fun k hk => (hb.cell (p := ⟨b, o + k, none⟩) hlt).trans (hcell k hk)⟩
theorem own_rdW {base : Nat} {W : World} {v : Value} {l : List Nat} (h : Own base W v l) : RdW W v l := by
  rcases h.2 with ⟨rfl, hn⟩ | ⟨g, cap, cur, rfl, hb, hh, hnc, _⟩
  · exact ⟨none, 0, by rw [hn], by omega, fun _ => rfl, fun hl => absurd (List.eq_nil_of_length_eq_zero hn) hl⟩
  · refine ⟨_, cap, rfl, hnc, (fun h => by cases h), fun hl => ⟨g, 0, rfl, fun k hk => ?_⟩⟩
    rw [Nat.zero_add, World.ownsRow.cellAt h k (by omega)]
    simp [bc, hk]
/-- parts, as they are read. -/
def Pts (W : World) (v : Value) (ls : List (List Nat)) : Prop :=
  ∃ A cap, v = .slice A ls.length cap ∧ (ls ≠ [] → ∃ b o, A = some ⟨b, o, none⟩ ∧ ∀ k (h : k < ls.length), ∃ x, W.cell? ⟨b, o + k, none⟩ = some x ∧ RdW W x ls[k])
def flat (ls : List (List Nat)) : List Nat := ls.flatten
theorem flat_take (ls : List (List Nat)) (k : Nat) (h : k < ls.length) : flat (ls.take (k + 1)) = flat (ls.take k) ++ ls[k] := by
  unfold flat; rw [List.take_succ_eq_append_getElem h, List.flatten_append]; simp
theorem flat_len (ls : List (List Nat)) : ∀ k, (flat (ls.take k)).length ≤ (flat ls).length := fun k => by
  unfold flat
  have : ls.flatten = (ls.take k).flatten ++ (ls.drop k).flatten := by rw [← List.flatten_append, List.take_append_drop]
  rw [this, List.length_append]; omega

theorem wpList_load_at {P : Program} {ops : Array Oper} {rest : List Oper} {o : Oper} {a : Act} {w : World} {Q : Exit → Act → World → Prop} (hgd : o.guard = none) (ty : TypeId) (x : Operand) (ho : o.op = .load ty x) (p : Addr) (hx : a.eval x = .pointer (some p)) (c : Array Value)
    (hl : (loadVar ty p).run P w = .ok (.agg c) w) (h : wpList P ops Q rest (a.put o.dst (.agg c)) w) : wpList P ops Q (o :: rest) a w :=
  wpList_plain hgd fun K hK => by
    unfold Oper.wp execOp
    simp only [ho, hx, Instr.loadAt, Instr.sureAddr, Sem.run_bind, Sem.run_pure, Result.andThen_ok, hl]
    exact hK _ _ h

def zero70 : Array Value := sc ⟨0, 0, 0, 0, 0⟩ (fun _ => 0) 0
theorem zv70 : ∀ w, (zeroValue 106).run Tryz.prog w = .ok (.agg zero70) w :=
  (zero_of_info (P := Tryz.prog) (t := 106) (v := .agg zero70) (n := 70) (by kernel_rfl)).1
theorem built70 : Tryz.prog.built 106 [(0, .agg #[.int .u32 1732584193, .int .u32 4023233417, .int .u32 2562383102, .int .u32 271733878, .int .u32 3285377520])] = some (sc sx.start (fun _ => 0) 0) := by kernel_rfl
theorem build70 {ops : Array Oper} {rest : List Oper} {o : Oper} {a : Act} {w : World} {Q : Exit → Act → World → Prop} (hgd : o.guard = none) (ho : o.op = .build 106 #[(0, .tmp 7)]) (h7 : a.eval (.tmp 7) = .agg #[.int .u32 1732584193, .int .u32 4023233417, .int .u32 2562383102, .int .u32 271733878, .int .u32 3285377520])
    (h : wpList Tryz.prog ops Q rest (a.put o.dst (.agg (sc sx.start (fun _ => 0) 0))) w) : wpList Tryz.prog ops Q (o :: rest) a w := by
  have e : Tryz.prog.built 106 ((#[((0 : Nat), Operand.tmp 7)]).map fun (i, x) => (i, a.eval x)).toList = some (sc sx.start (fun _ => 0) 0) := by
    have e1 : ((#[((0 : Nat), Operand.tmp 7)]).map fun (i, x) => (i, a.eval x)).toList = [(0, a.eval (.tmp 7))] := by simp
    rw [e1, h7]; exact built70
  refine wpList_build hgd 106 _ ho (by rw [e]; rfl) ?_
  rw [e]
  exact h
theorem sc_size (V : V5) (bl : Nat → Nat) (fl : Nat) : (sc V bl fl).size = 70 := ar_size _ _
theorem sc_one (V : V5) (bl : Nat → Nat) (fl : Nat) : (sc V bl fl).all (·.oneCell') = true := by
  rw [Array.all_eq_true_iff_forall_mem]
  intro x hx
  obtain ⟨j, hj, rfl⟩ := List.mem_map.1 (by simpa [sc, ar] using hx : x ∈ (List.range 70).map (sg V bl fl))
  unfold sg
  split
  · rfl
  split
  · rfl
  · rfl
theorem add_pad {B : Nat} {m : List Nat} {W W5 : World} {v : Value} (hc : Came B m W) (ho : Own W.heap.size W5 v (pad m.length)) (hb : Below W.heap.size W W5) (hB : B < W.heap.size) :
    Calls Tryz.prog 61 #[.pointer (some ⟨B, 0, none⟩), v] W5 fun e w' => e = .returned (.tuple #[]) ∧ Came B (m ++ pad m.length) w' ∧ Keep B W5 w' := by
  obtain ⟨V, bl, fl, hr, hB5⟩ := hc
  refine add_walk B m (pad m.length) v W5 (pad_bys _) ⟨V, bl, fl, hr, ?_⟩ (own_rd ho hB) ?_
  · rw [hb.block B hB]; exact hB5
  · rw [pad_len]; have : zz m.length < 64 := Nat.mod_lt _ (by decide); omega
theorem load_w' {W : World} {B : Nat} {V : V5} {bl : Nat → Nat} {k : Nat} (h : W.heap[B]? = some (.cells (sc V bl k) 106)) (j : Nat) (v : Value) (hv : (cs .u32 V.at 5)[j]? = some v) : W.cell? ⟨B, 0 + j, none⟩ = some v := load_w h j v hv
theorem kept_z {B g : Nat} {W1 W W5 W6 W7 : World} {o : Obj} (h1 : Keep B W1 W) (h5 : Below W.heap.size W W5) (h6 : Keep B W5 W6) (h7 : Below W6.heap.size W6 W7) (hg : g < B) (hB : B < W.heap.size) (h : W1.heap[g]? = some o) : W7.heap[g]? = some o := by
  have s1 : g < W1.heap.size := (Array.getElem?_eq_some_iff.1 h).1
  have e5 := h5.size
  have e6 := h6.size
  have e1 := h1.size
  rw [h7.block g (by omega), h6.block g (by omega) (by omega), h5.block g (by omega), h1.block g s1 (by omega)]
  exact h
def SHead (ls : List (List Nat)) (B : Nat) (W1 : World) (c t : Value) (W : World) : Prop :=
  ∃ k, k ≤ ls.length ∧ t = .int .i64 (k : Nat) ∧ c = .int .i64 ((flat (ls.take k)).length : Nat) ∧ Came B (flat (ls.take k)) W ∧ Keep B W1 W
set_option maxHeartbeats 4000000 in
theorem sum_walk (ls : List (List Nat)) (v : Value) (w : World) (T : St w) (hv : Pts w v ls) (hb : ∀ l ∈ ls, Bys l) (hn : (flat ls).length ≤ 1000000) (hk : ls.length ≤ 1000) :
    Calls Tryz.prog 36 #[v] w fun e w' => e = .returned (.agg (cs .u8 (dig (sumV (flat ls))) 20)) ∧ Below w.heap.size w w' := by
  obtain ⟨A, cap, rfl, hv⟩ := hv
  have hz := zv70
  have s0 := T 0 _ rfl
  have s1 := T 1 _ rfl
  have s2 := T 2 _ rfl
  have s3 := T 3 _ rfl
  have s4 := T 4 _ rfl
  have hg0 : 0 < w.heap.size := World.block_lt_of_cell? w _ s0
  go_enter Tryz.func36, Tryz.ntmps36
  go_wp2_with (first
    | (refine build70 rfl rfl rfl ?_)
    | (refine wpList_store_row rfl 106 (.tmp 3) (.tmp 8) rfl (w.heap.size + 1) _ rfl rfl _ _ (hp_new1 w _ _) (by rw [sc_size]; exact sz70) (by rw [sc_size]; exact sc_size _ _ _) (sc_one _ _ _) ?_))
  obtain ⟨W1, HW1⟩ : ∃ W1, W1 = ((w.alloc (.cells z20 35)).alloc (.cells zero70 106)).setRow (w.heap.size + 1) (sc sx.start (fun _ => 0) 0) := ⟨_, rfl⟩
  unfold z20 at HW1
  rw [← HW1]
  have C1 : Came (w.heap.size + 1) [] W1 := ⟨sx.start, fun _ => 0, 0, rep_start, by rw [HW1]; exact setRow_heap _ _ _ _ _ _ (hp_new1 w _ _)⟩
  have G1 : W1.heap[w.heap.size]? = some (.cells z20 35) := by
    rw [HW1, setRow_other _ _ _ _ (by omega)]; exact hp_old (hp_new w _) _
  have B1 : Below w.heap.size w W1 := by
    rw [HW1]; exact bel_setRow (((Below.refl _ _).alloc (Nat.le_refl _) _).alloc (by simp) _) (by omega) _
  have Z1 : W1.heap.size = w.heap.size + 2 := by rw [HW1]; simp
  have HC1 := Lib.hid C1
  have HG1 := Lib.hid G1
  have HZ1 := Lib.hid Z1
  clear HW1 hz s0 s1 s2 s3 s4 C1 G1 Z1
  generalize hBd : w.heap.size + 1 = B at *
  have HBd := Lib.hid hBd
  clear hBd
  go_loopw [4, 11] (fun c t W => SHead ls B W1 c t W) (fun _ t _ => ls.length - (intOf t).toNat)
  case atStart => exact ⟨0, by omega, rfl, rfl, HC1.out, Keep.refl _ _⟩
  case round =>
    obtain ⟨k, hkk, rfl, rfl, hcm, hkp⟩ := hrel
    have hfl := flat_len ls k
    have hB1 : w.heap.size < B := by have := HBd.out; omega
    by_cases hlt : k < ls.length
    · obtain ⟨b, o, rfl, hcell⟩ := hv (fun e => by rw [e] at hlt; simp at hlt)
      obtain ⟨x, hx, hrd⟩ := hcell k hlt
      have hbl : b < w.heap.size := World.block_lt_of_cell? w _ hx
      have hx2 : wr.cell? ⟨b, o + k, none⟩ = some x := hkp.cell (p := ⟨b, o + k, none⟩) (by show b ≠ B; omega) ((B1.cell (p := ⟨b, o + k, none⟩) hbl).trans hx)
      have hrd1 : Rd B wr x ls[k] := (hrd.at (by omega) B1).keep hkp
      have ft := flat_take ls k hlt
      have fl1 := flat_len ls (k + 1)
      have hlk : (ls[k]).length ≤ 1000000 := by
        have := congrArg List.length ft
        rw [List.length_append] at this
        omega
      have AD := Lib.hid (add_walk B (flat (ls.take k)) ls[k] x wr (hb _ (List.getElem_mem _)) hcm hrd1 hlk)
      have hsum : (flat (ls.take k)).length + (ls[k]).length = (flat (ls.take (k + 1))).length := by rw [ft, List.length_append]
      rw [← ft] at AD
      obtain ⟨A2, cap2, rfl, _⟩ := hrd1
      have HS := Lib.hid hsum
      clear hcell hx hrd ft hsum
      go_wp2_with (go_at_call 61; (with_reducible refine AD.out.mono ?_); rintro e w4 ⟨rfl, hcm4, hkp4⟩)
      go_roundw
      case rel => exact ⟨k + 1, by omega, by go_num, by rw [← HS.out]; go_num, hcm4, hkp.trans hkp4⟩
      case measure => simp [intOf]; omega
    · obtain rfl : k = ls.length := by omega
      rw [List.take_of_length_le (Nat.le_refl _)] at hcm
      rw [List.take_of_length_le (Nat.le_refl _)]
      have hsz := hkp.size
      have PD := Lib.hid (padding_any (flat ls).length wr (by omega))
      have HBwr : B < wr.heap.size := by have := HZ1.out; have := HBd.out; omega
      go_wp2_with (first
        | (go_at_call 62; (with_reducible refine PD.out.mono ?_); rintro e w5 ⟨v5, rfl, ho5, hb5⟩; have AD := Lib.hid (add_pad hcm ho5 hb5 HBwr))
        | (go_at_call 61; (with_reducible refine AD.out.mono ?_); rintro e w6 ⟨rfl, hcm6, hkp6⟩; obtain ⟨V, bl, fl, hrep6, hB6⟩ := hcm6; have HB6 := Lib.hid hB6; clear hB6)
        | (refine wpList_load_at rfl 43 (.tmp 25) rfl ⟨B, 0, none⟩ rfl (cs .u32 V.at 5) (loadVar_at _ _ _ _ _ _ _ Tryz.underlying43 (szc sz5 _ _) (fun j v hv => load_w' HB6.out j v hv)) ?_; have PK := Lib.hid (packed_any V w6 (by rw [hrep6.1]; exact hs_ok _ _)))
        | (go_at_call 63; (with_reducible refine PK.out.mono ?_); rintro e w7 ⟨rfl, hb7⟩; have G7 := Lib.hid (kept_z hkp hb5 hkp6 hb7 (by omega) HBwr HG1.out))
        | (refine wpList_store_row rfl 35 (.tmp 2) (.tmp 27) rfl w.heap.size _ rfl rfl _ _ G7.out (szc sz20 _ _) (by rw [cs_size]; rfl) (cs_one _ _ _) ?_))
      refine end_row rfl _ _ w.heap.size _ _ _ _ rfl (setRow_heap _ _ _ _ _ _ G7.out) Tryz.underlying35 (szc sz20 _ _) rfl ⟨?_, ?_⟩
      · have e : V = sumV (flat ls) := by
          rw [hrep6.1, List.length_append, pad_len]; rfl
        rw [e]
      · have h5 := hb5.size
        have h6 := hkp6.size
        have h1 := B1.size
        have b1 : Below w.heap.size w wr := hkp.to_below B1 (by omega) (by omega)
        have b5 : Below w.heap.size w w5 := b1.trans (hb5.mono (by omega))
        have b6 : Below w.heap.size w w6 := hkp6.to_below b5 (by omega) (by omega)
        have b7 : Below w.heap.size w w7 := b6.trans (hb7.mono (by omega))
        exact bel_setRow b7 (Nat.le_refl _) _
end Go.Proofs.YtldieebiicblbaaGreatDoor.sha

/-
  The small case of layer 6 comes out true. Condition: package sha's variable start holds what its initialiser lays.
-/
namespace Go.Proofs.YtldieebiicblbaaGreatDoor.sha
open Go.ChangeShapes Go.WideShapes Go.ChangeAt Go.RowKit
open sx
set_option linter.unusedVariables false
set_option maxRecDepth 100000

/-! arrays compared -/
def same (f g : Nat → Nat) (n : Nat) : Bool := (List.range n).all fun i => f i == g i
theorem same_self (f : Nat → Nat) (n : Nat) : same f f n = true := by simp [same]
theorem same_iff (f g : Nat → Nat) (n : Nat) : same f g n = true ↔ ∀ j, j < n → f j = g j := by simp [same]
theorem items (K : IntKind) (e : TypeId) (d : Nat) (f g : Nat → Nat) (n : Nat) (W : World) (hu : Tryz.prog.underlying e = some (.int K)) (hc : Tryz.prog.cellsOf e = 1) : ∀ is : List Nat, (∀ i ∈ is, i < n) →
    (Op.eqItems (d + 1) e (Tryz.prog.cellsOf e) (cs K f n) (cs K g n) is).run Tryz.prog W = .ok (is.all fun i => f i == g i) W
  | [], _ => by simp [Op.eqItems]
  | i :: is, h => by
    have hi := h i (List.mem_cons_self ..)
    have ih := items K e d f g n W hu hc is (fun j hj => h j (List.mem_cons_of_mem _ hj))
    have p : ∀ g : Nat → Nat, (part e (cs K g n) (i * Tryz.prog.cellsOf e)).run Tryz.prog W = .ok (.int K (g i : Nat)) W := fun g => by
      rw [hc, Nat.mul_one]
      simp [part, isAgg, run_underlying hu, cs_get K g n i hi]
    simp only [Op.eqItems, Sem.run_bind, p, Result.andThen_ok, run_equalIn_int (P := Tryz.prog) W d e K K _ _ hu]
    by_cases hfg : f i = g i
    · simp only [hfg, beq_self_eq_true, Bool.not_true, Bool.false_eq_true, if_false, List.all_cons, Bool.true_and]
      exact ih
    · have h1 : ((f i : Int) == (g i : Int)) = false := by simp; omega
      have h2 : (f i == g i) = false := by simp [hfg]
      simp [h1, h2]
theorem cB : Tryz.prog.cellsOf 5 = 1 := by kernel_rfl
theorem cW : Tryz.prog.cellsOf 42 = 1 := by kernel_rfl
theorem eq20 (f g : Nat → Nat) (W : World) : (Op.equalIn 10000 35 (.agg (cs .u8 f 20)) (.agg (cs .u8 g 20))).run Tryz.prog W = .ok (same f g 20) W := by
  obtain ⟨i0, hi, _⟩ := Option.map_eq_some_iff.1 szb
  rw [run_equalIn_array W 9999 (cs .u8 f 20) (cs .u8 g 20) Tryz.underlying35 hi]
  exact items .u8 5 9998 f g 20 W Tryz.underlying5 cB (List.range 20) (fun i hi => List.mem_range.1 hi)
theorem szw : (Tryz.prog.info? 42).map (·.size) = some 1 := by kernel_rfl
theorem eq5 (f g : Nat → Nat) (W : World) : (Op.equalIn 10000 43 (.agg (cs .u32 f 5)) (.agg (cs .u32 g 5))).run Tryz.prog W = .ok (same f g 5) W := by
  obtain ⟨i0, hi, _⟩ := Option.map_eq_some_iff.1 szw
  rw [run_equalIn_array W 9999 (cs .u32 f 5) (cs .u32 g 5) Tryz.underlying43 hi]
  exact items .u32 42 9998 f g 5 W Tryz.underlying42 cW (List.range 5) (fun i hi => List.mem_range.1 hi)

/-! what the small case asks -/
def sABC : ByteArray := ⟨#[97, 57, 57, 57, 51, 101, 51, 54, 52, 55, 48, 54, 56, 49, 54, 97, 98, 97, 51, 101, 50, 53, 55, 49, 55, 56, 53, 48, 99, 50, 54, 99, 57, 99, 100, 48, 100, 56, 57, 100]⟩
def sNil : ByteArray := ⟨#[100, 97, 51, 57, 97, 51, 101, 101, 53, 101, 54, 98, 52, 98, 48, 100, 51, 50, 53, 53, 98, 102, 101, 102, 57, 53, 54, 48, 49, 56, 57, 48, 97, 102, 100, 56, 48, 55, 48, 57]⟩
theorem dig_byt (s : V5) (n : Nat) : Byt (dig s) n := fun j _ => dig_lt s j

theorem bal {w W : World} (hb : Below w.heap.size w W) (o : Obj) : Below w.heap.size w (W.alloc o) := hb.alloc hb.size o
theorem btr {w W W' : World} (hb : Below w.heap.size w W) (h : Below W.heap.size W W') : Below w.heap.size w W' := hb.trans (h.mono hb.size)
theorem kept {W W' : World} {g : Nat} {o : Obj} (h : W.heap[g]? = some o) (hb : Below W.heap.size W W') : W'.heap[g]? = some o := by
  rw [hb.block g (Array.getElem?_eq_some_iff.1 h).1]; exact h
/-- one part. -/
theorem pts_one {W : World} {v : Value} {l : List Nat} (h : RdW W v l) : Pts (W.alloc (.cells #[v] 62)) (.slice (some ⟨W.heap.size, 0, none⟩) 1 1) [l] := by
  have hb : Below W.heap.size W (W.alloc (.cells #[v] 62)) := (Below.refl _ _).alloc (Nat.le_refl _) _
  refine ⟨_, _, rfl, fun _ => ⟨W.heap.size, 0, rfl, fun k hk => ?_⟩⟩
  obtain rfl : k = 0 := by simpa using hk
  exact ⟨v, row_cell (hp_new _ _) 0 _ rfl, h.below hb⟩
theorem rd_lit (W : World) (l : List Nat) (c : Array Value) (fr : Nat × Nat) (hc : c = (bc l).toArray) : RdW (W.alloc (.cells c 5 fr)) (.slice (some ⟨W.heap.size, 0, none⟩) l.length l.length) l := by
  subst hc
  refine ⟨_, _, rfl, Nat.le_refl _, (fun h => by cases h), fun _ => ⟨W.heap.size, 0, rfl, fun k hk => ?_⟩⟩
  rw [Nat.zero_add]
  exact row_cell (hp_new _ _) k _ (by simp [bc, hk])
theorem gload {P : Program} {ops : Array Oper} {rest : List Oper} {o : Oper} {a : Act} {w : World} {Q : Exit → Act → World → Prop} (hw : Region.wanted o (yielded ops a.tmps) = true) (ty : TypeId) (x : Operand) (ho : o.op = .load ty x) (g : Nat) (hx : a.eval x = .pointer (some ⟨g, 0, none⟩)) (t : TypeId) (c : Array Value)
    (hg : w.heap[g]? = some (.cells c t (0, 0))) (n : Nat) (e : TypeId) (hu : P.underlying ty = some (.array n e)) (hi : (P.info? ty).map (·.size) = some c.size) (h : wpList P ops Q rest (a.put o.dst (.agg c)) w) : wpList P ops Q (o :: rest) a w :=
  BigFrame.wpList_want hw fun K hK => wp_load_row ty x ho g hx t c (0, 0) _ hg hu rfl hi (hK _ _ h)
theorem sload {P : Program} {ops : Array Oper} {w : World} {Q : Act → Prop} {a : Act} {o : Oper} {rest : List Oper} (hw : Region.wanted o (yielded ops a.tmps) = true) (ty : TypeId) (x : Operand) (ho : o.op = .load ty x) (p : Addr) (hx : a.eval x = .pointer (some p)) (c : Array Value)
    (hl : (loadVar ty p).run P w = .ok (.agg c) w) (h : wpStill P ops w Q rest (a.put o.dst (.agg c))) : wpStill P ops w Q (o :: rest) a := by
  refine wpStill_step (fun K hK => ?_)
  rw [if_pos hw]
  unfold Oper.still execOp
  simp only [ho, hx, Instr.loadAt, Instr.sureAddr, Sem.run_bind, Sem.run_pure, Result.andThen_ok, hl]
  exact ⟨rfl, hK _ h⟩
theorem load20 {W : World} {g : Nat} {f : Nat → Nat} (h : W.heap[g]? = some (.cells (cs .u8 f 20) 35)) : (loadVar 35 ⟨g, 0, none⟩).run Tryz.prog W = .ok (.agg (cs .u8 f 20)) W :=
  run_loadVar_row W g 35 35 (cs .u8 f 20) (0, 0) _ h Tryz.underlying35 rfl (szc sz20 _ _)
end Go.Proofs.YtldieebiicblbaaGreatDoor.sha
