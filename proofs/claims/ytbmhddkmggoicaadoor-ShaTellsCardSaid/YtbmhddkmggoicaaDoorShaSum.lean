/-
  What sha.Sum answers: the digest of all bytes of the parts, one part behind the other. Conditions: the parts read as bytes, at most 1000000 of them together in at most 1000 parts; package sha's variable start holds what its initialiser lays.
-/
import Derived.Test.YtbmhddkmggoicaaDoorShaPad
namespace Go.Proofs.YtbmhddkmggoicaaDoor.sha
open Go.ChangeShapes Go.WideShapes Go.ChangeAt Go.RowKit
open sx
set_option linter.unusedVariables false

/-- what package sha's variable holds. -/
def St (w : World) : Prop := ∀ j v, ([.int .u32 1732584193, .int .u32 4023233417, .int .u32 2562383102, .int .u32 271733878, .int .u32 3285377520] : List Value)[j]? = some v → w.cell? ⟨0, j, none⟩ = some v
theorem St.below {w W : World} (h : St w) (hb : Below w.heap.size w W) : St W := fun j v hv => by
  have := h j v hv
  exact (hb.cell (World.block_lt_of_cell? w _ this)).trans this

/-- a slice of bytes, wherever it lies. -/
def RdW (W : World) (v : Value) (l : List Nat) : Prop :=
  ∃ A cap, v = .slice A l.length cap ∧ l.length ≤ cap ∧ (A = none → cap = 0) ∧ (l ≠ [] → ∃ b o, A = some ⟨b, o, none⟩ ∧ ∀ k (h : k < l.length), W.cell? ⟨b, o + k, none⟩ = some (.int .u8 (l[k] : Nat)))
theorem RdW.at {W : World} {v : Value} {l : List Nat} (h : RdW W v l) {B : Nat} (hB : W.heap.size ≤ B) {W' : World} (hb : Below W.heap.size W W') : Rd B W' v l := by
  obtain ⟨A, cap, e, hc, hz, hr⟩ := h
  refine ⟨A, cap, e, hc, fun hl => ?_⟩
  obtain ⟨b, o, hA, hcell⟩ := hr hl
  have hlt : b < W.heap.size := World.block_lt_of_cell? W _ (hcell 0 (List.length_pos_iff.2 hl))
  exact ⟨b, o, hA, by omega, fun k hk => (hb.cell (p := ⟨b, o + k, none⟩) hlt).trans (hcell k hk)⟩
theorem RdW.below {W W' : World} {v : Value} {l : List Nat} (h : RdW W v l) (hb : Below W.heap.size W W') : RdW W' v l := by
  obtain ⟨A, cap, e, hc, hz, hr⟩ := h
  refine ⟨A, cap, e, hc, hz, fun hl => ?_⟩
  obtain ⟨b, o, hA, hcell⟩ := hr hl
  have hlt : b < W.heap.size := World.block_lt_of_cell? W _ (hcell 0 (List.length_pos_iff.2 hl))
  exact ⟨b, o, hA, fun k hk => (hb.cell (p := ⟨b, o + k, none⟩) hlt).trans (hcell k hk)⟩
theorem own_rdW {base : Nat} {W : World} {v : Value} {l : List Nat} (h : Own base W v l) : RdW W v l := by
  rcases h.2 with ⟨rfl, hn⟩ | ⟨g, cap, cur, rfl, hb, hh, hnc, _⟩
  · exact ⟨none, 0, by rw [hn], by omega, fun _ => rfl, fun hl => absurd (List.eq_nil_of_length_eq_zero hn) hl⟩
  · refine ⟨_, cap, rfl, hnc, (fun h => by cases h), fun hl => ⟨g, 0, rfl, fun k hk => ?_⟩⟩
    rw [Nat.zero_add, World.ownsRow.cellAt h k (by omega)]
    simp [bc, hk]
/-- parts, as they are read. -/
def Pts (W : World) (v : Value) (ls : List (List Nat)) : Prop :=
  ∃ A cap, v = .slice A ls.length cap ∧ (ls ≠ [] → ∃ b o, A = some ⟨b, o, none⟩ ∧ ∀ k (h : k < ls.length), ∃ x, W.cell? ⟨b, o + k, none⟩ = some x ∧ RdW W x ls[k])
def flat (ls : List (List Nat)) : List Nat := ls.flatten
theorem flat_take (ls : List (List Nat)) (k : Nat) (h : k < ls.length) : flat (ls.take (k + 1)) = flat (ls.take k) ++ ls[k] := by
  unfold flat; rw [List.take_succ_eq_append_getElem h, List.flatten_append]; simp
theorem flat_len (ls : List (List Nat)) : ∀ k, (flat (ls.take k)).length ≤ (flat ls).length := fun k => by
  unfold flat
  have : ls.flatten = (ls.take k).flatten ++ (ls.drop k).flatten := by rw [← List.flatten_append, List.take_append_drop]
  rw [this, List.length_append]; omega

theorem wpList_load_at {P : Program} {ops : Array Oper} {rest : List Oper} {o : Oper} {a : Act} {w : World} {Q : Exit → Act → World → Prop} (hgd : o.guard = none) (ty : TypeId) (x : Operand) (ho : o.op = .load ty x) (p : Addr) (hx : a.eval x = .pointer (some p)) (c : Array Value)
    (hl : (loadVar ty p).run P w = .ok (.agg c) w) (h : wpList P ops Q rest (a.put o.dst (.agg c)) w) : wpList P ops Q (o :: rest) a w :=
  wpList_plain hgd fun K hK => by
    unfold Oper.wp execOp
    simp only [ho, hx, Instr.loadAt, Instr.sureAddr, Sem.run_bind, Sem.run_pure, Result.andThen_ok, hl]
    exact hK _ _ h

def zero70 : Array Value := sc ⟨0, 0, 0, 0, 0⟩ (fun _ => 0) 0
theorem zv70 : ∀ w, (zeroValue 38).run Tryd.prog w = .ok (.agg zero70) w :=
  (zero_of_info (P := Tryd.prog) (t := 38) (v := .agg zero70) (n := 70) (by kernel_rfl)).1
theorem built70 : Tryd.prog.built 38 [(0, .agg #[.int .u32 1732584193, .int .u32 4023233417, .int .u32 2562383102, .int .u32 271733878, .int .u32 3285377520])] = some (sc sx.start (fun _ => 0) 0) := by kernel_rfl
theorem build70 {ops : Array Oper} {rest : List Oper} {o : Oper} {a : Act} {w : World} {Q : Exit → Act → World → Prop} (hgd : o.guard = none) (ho : o.op = .build 38 #[(0, .tmp 7)]) (h7 : a.eval (.tmp 7) = .agg #[.int .u32 1732584193, .int .u32 4023233417, .int .u32 2562383102, .int .u32 271733878, .int .u32 3285377520])
    (h : wpList Tryd.prog ops Q rest (a.put o.dst (.agg (sc sx.start (fun _ => 0) 0))) w) : wpList Tryd.prog ops Q (o :: rest) a w := by
  have e : Tryd.prog.built 38 ((#[((0 : Nat), Operand.tmp 7)]).map fun (i, x) => (i, a.eval x)).toList = some (sc sx.start (fun _ => 0) 0) := by
    have e1 : ((#[((0 : Nat), Operand.tmp 7)]).map fun (i, x) => (i, a.eval x)).toList = [(0, a.eval (.tmp 7))] := by simp
    rw [e1, h7]; exact built70
  refine wpList_build hgd 38 _ ho (by rw [e]; rfl) ?_
  rw [e]
  exact h
theorem sc_size (V : V5) (bl : Nat → Nat) (fl : Nat) : (sc V bl fl).size = 70 := ar_size _ _
theorem sc_one (V : V5) (bl : Nat → Nat) (fl : Nat) : (sc V bl fl).all (·.oneCell') = true := by
  rw [Array.all_eq_true_iff_forall_mem]
  intro x hx
  obtain ⟨j, hj, rfl⟩ := List.mem_map.1 (by simpa [sc, ar] using hx : x ∈ (List.range 70).map (sg V bl fl))
  unfold sg
  split
  · rfl
  split
  · rfl
  · rfl
theorem add_pad {B : Nat} {m : List Nat} {W W5 : World} {v : Value} (hc : Came B m W) (ho : Own W.heap.size W5 v (pad m.length)) (hb : Below W.heap.size W W5) (hB : B < W.heap.size) :
    Calls Tryd.prog 14 #[.pointer (some ⟨B, 0, none⟩), v] W5 fun e w' => e = .returned (.tuple #[]) ∧ Came B (m ++ pad m.length) w' ∧ Keep B W5 w' := by
  obtain ⟨V, bl, fl, hr, hB5⟩ := hc
  refine add_walk B m (pad m.length) v W5 (pad_bys _) ⟨V, bl, fl, hr, ?_⟩ (own_rd ho hB) ?_
  · rw [hb.block B hB]; exact hB5
  · rw [pad_len]; have : zz m.length < 64 := Nat.mod_lt _ (by decide); omega
theorem load_w' {W : World} {B : Nat} {V : V5} {bl : Nat → Nat} {k : Nat} (h : W.heap[B]? = some (.cells (sc V bl k) 38)) (j : Nat) (v : Value) (hv : (cs .u32 V.at 5)[j]? = some v) : W.cell? ⟨B, 0 + j, none⟩ = some v := load_w h j v hv
theorem kept_z {B g : Nat} {W1 W W5 W6 W7 : World} {o : Obj} (h1 : Keep B W1 W) (h5 : Below W.heap.size W W5) (h6 : Keep B W5 W6) (h7 : Below W6.heap.size W6 W7) (hg : g < B) (hB : B < W.heap.size) (h : W1.heap[g]? = some o) : W7.heap[g]? = some o := by
  have s1 : g < W1.heap.size := (Array.getElem?_eq_some_iff.1 h).1
  have e5 := h5.size
  have e6 := h6.size
  have e1 := h1.size
  rw [h7.block g (by omega), h6.block g (by omega) (by omega), h5.block g (by omega), h1.block g s1 (by omega)]
  exact h
def SHead (ls : List (List Nat)) (B : Nat) (W1 : World) (c t : Value) (W : World) : Prop :=
  ∃ k, k ≤ ls.length ∧ t = .int .i64 (k : Nat) ∧ c = .int .i64 ((flat (ls.take k)).length : Nat) ∧ Came B (flat (ls.take k)) W ∧ Keep B W1 W
set_option maxHeartbeats 4000000 in
theorem sum_walk (ls : List (List Nat)) (v : Value) (w : World) (T : St w) (hv : Pts w v ls) (hb : ∀ l ∈ ls, Bys l) (hn : (flat ls).length ≤ 1000000) (hk : ls.length ≤ 1000) :
    Calls Tryd.prog 8 #[v] w fun e w' => e = .returned (.agg (cs .u8 (dig (sumV (flat ls))) 20)) ∧ Below w.heap.size w w' := by
  obtain ⟨A, cap, rfl, hv⟩ := hv
  have hz := zv70
  have s0 := T 0 _ rfl
  have s1 := T 1 _ rfl
  have s2 := T 2 _ rfl
  have s3 := T 3 _ rfl
  have s4 := T 4 _ rfl
  have hg0 : 0 < w.heap.size := World.block_lt_of_cell? w _ s0
  go_enter Tryd.func8, Tryd.ntmps8
  go_wp2_with (first
    | (refine build70 rfl rfl rfl ?_)
    | (refine wpList_store_row rfl 38 (.tmp 3) (.tmp 8) rfl (w.heap.size + 1) _ rfl rfl _ _ (hp_new1 w _ _) (by rw [sc_size]; exact sz70) (by rw [sc_size]; exact sc_size _ _ _) (sc_one _ _ _) ?_))
  obtain ⟨W1, HW1⟩ : ∃ W1, W1 = ((w.alloc (.cells z20 23)).alloc (.cells zero70 38)).setRow (w.heap.size + 1) (sc sx.start (fun _ => 0) 0) := ⟨_, rfl⟩
  unfold z20 at HW1
  rw [← HW1]
  have C1 : Came (w.heap.size + 1) [] W1 := ⟨sx.start, fun _ => 0, 0, rep_start, by rw [HW1]; exact setRow_heap _ _ _ _ _ _ (hp_new1 w _ _)⟩
  have G1 : W1.heap[w.heap.size]? = some (.cells z20 23) := by
    rw [HW1, setRow_other _ _ _ _ (by omega)]; exact hp_old (hp_new w _) _
  have B1 : Below w.heap.size w W1 := by
    rw [HW1]; exact bel_setRow (((Below.refl _ _).alloc (Nat.le_refl _) _).alloc (by simp) _) (by omega) _
  have Z1 : W1.heap.size = w.heap.size + 2 := by rw [HW1]; simp
  have HC1 := Lib.hid C1
  have HG1 := Lib.hid G1
  have HZ1 := Lib.hid Z1
  clear HW1 hz s0 s1 s2 s3 s4 C1 G1 Z1
  generalize hBd : w.heap.size + 1 = B at *
  have HBd := Lib.hid hBd
  clear hBd
  go_loopw [4, 11] (fun c t W => SHead ls B W1 c t W) (fun _ t _ => ls.length - (intOf t).toNat)
  case atStart => exact ⟨0, by omega, rfl, rfl, HC1.out, Keep.refl _ _⟩
  case round =>
    obtain ⟨k, hkk, rfl, rfl, hcm, hkp⟩ := hrel
    have hfl := flat_len ls k
    have hB1 : w.heap.size < B := by have := HBd.out; omega
    by_cases hlt : k < ls.length
    · obtain ⟨b, o, rfl, hcell⟩ := hv (fun e => by rw [e] at hlt; simp at hlt)
      obtain ⟨x, hx, hrd⟩ := hcell k hlt
      have hbl : b < w.heap.size := World.block_lt_of_cell? w _ hx
      have hx2 : wr.cell? ⟨b, o + k, none⟩ = some x := hkp.cell (p := ⟨b, o + k, none⟩) (by show b ≠ B; omega) ((B1.cell (p := ⟨b, o + k, none⟩) hbl).trans hx)
      have hrd1 : Rd B wr x ls[k] := (hrd.at (by omega) B1).keep hkp
      have ft := flat_take ls k hlt
      have fl1 := flat_len ls (k + 1)
      have hlk : (ls[k]).length ≤ 1000000 := by
        have := congrArg List.length ft
        rw [List.length_append] at this
        omega
      have AD := Lib.hid (add_walk B (flat (ls.take k)) ls[k] x wr (hb _ (List.getElem_mem _)) hcm hrd1 hlk)
      have hsum : (flat (ls.take k)).length + (ls[k]).length = (flat (ls.take (k + 1))).length := by rw [ft, List.length_append]
      rw [← ft] at AD
      obtain ⟨A2, cap2, rfl, _⟩ := hrd1
      have HS := Lib.hid hsum
      clear hcell hx hrd ft hsum
      go_wp2_with (go_at_call 14; (with_reducible refine AD.out.mono ?_); rintro e w4 ⟨rfl, hcm4, hkp4⟩)
      go_roundw
      case rel => exact ⟨k + 1, by omega, by go_num, by rw [← HS.out]; go_num, hcm4, hkp.trans hkp4⟩
      case measure => simp [intOf]; omega
    · obtain rfl : k = ls.length := by omega
      rw [List.take_of_length_le (Nat.le_refl _)] at hcm
      rw [List.take_of_length_le (Nat.le_refl _)]
      have hsz := hkp.size
      have PD := Lib.hid (padding_any (flat ls).length wr (by omega))
      have HBwr : B < wr.heap.size := by have := HZ1.out; have := HBd.out; omega
      go_wp2_with (first
        | (go_at_call 15; (with_reducible refine PD.out.mono ?_); rintro e w5 ⟨v5, rfl, ho5, hb5⟩; have AD := Lib.hid (add_pad hcm ho5 hb5 HBwr))
        | (go_at_call 14; (with_reducible refine AD.out.mono ?_); rintro e w6 ⟨rfl, hcm6, hkp6⟩; obtain ⟨V, bl, fl, hrep6, hB6⟩ := hcm6; have HB6 := Lib.hid hB6; clear hB6)
        | (refine wpList_load_at rfl 28 (.tmp 25) rfl ⟨B, 0, none⟩ rfl (cs .u32 V.at 5) (loadVar_at _ _ _ _ _ _ _ Tryd.underlying28 (szc sz5 _ _) (fun j v hv => load_w' HB6.out j v hv)) ?_; have PK := Lib.hid (packed_any V w6 (by rw [hrep6.1]; exact hs_ok _ _)))
        | (go_at_call 16; (with_reducible refine PK.out.mono ?_); rintro e w7 ⟨rfl, hb7⟩; have G7 := Lib.hid (kept_z hkp hb5 hkp6 hb7 (by omega) HBwr HG1.out))
        | (refine wpList_store_row rfl 23 (.tmp 2) (.tmp 27) rfl w.heap.size _ rfl rfl _ _ G7.out (szc sz20 _ _) (by rw [cs_size]; rfl) (cs_one _ _ _) ?_))
      refine end_row rfl _ _ w.heap.size _ _ _ _ rfl (setRow_heap _ _ _ _ _ _ G7.out) Tryd.underlying23 (szc sz20 _ _) rfl ⟨?_, ?_⟩
      · have e : V = sumV (flat ls) := by
          rw [hrep6.1, List.length_append, pad_len]; rfl
        rw [e]
      · have h5 := hb5.size
        have h6 := hkp6.size
        have h1 := B1.size
        have b1 : Below w.heap.size w wr := hkp.to_below B1 (by omega) (by omega)
        have b5 : Below w.heap.size w w5 := b1.trans (hb5.mono (by omega))
        have b6 : Below w.heap.size w w6 := hkp6.to_below b5 (by omega) (by omega)
        have b7 : Below w.heap.size w w7 := b6.trans (hb7.mono (by omega))
        exact bel_setRow b7 (Nat.le_refl _) _
end Go.Proofs.YtbmhddkmggoicaaDoor.sha
