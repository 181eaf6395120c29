/-
  What package octet's readers answer, call by call. Conditions: the slices that are handed in read as bytes; readers are such as Open made.
-/
import Derived.Test.YtllficloadncfaaG05
namespace Go.Proofs.Ytllficloadncfaa.oct
open Go.ChangeShapes Go.WideShapes Go.ChangeAt Go.RowKit
open om mem
set_option linter.unusedVariables false
set_option maxRecDepth 100000

/-! number -/
/-- the number as far as a place. -/
def cur (s : Int) (l : List Nat) (k : Nat) : Int := IntKind.i64.wrap (s * 256 ^ k + (val (l.take k) 0 : Nat))
theorem cur_bd (s : Int) (l : List Nat) (k : Nat) : -9223372036854775808 ≤ cur s l k ∧ cur s l k ≤ 9223372036854775807 := by unfold cur; rw [IntKind.wrap_i64]; omega
theorem wrap_step (X b : Int) : IntKind.i64.wrap (IntKind.i64.wrap X * 256 + b) = IntKind.i64.wrap (X * 256 + b) := by
  rw [IntKind.wrap_i64, IntKind.wrap_i64, IntKind.wrap_i64]; omega
theorem cur_succ (s : Int) (l : List Nat) (k : Nat) (hk : k < l.length) : IntKind.i64.wrap (cur s l k * 256 + (l[k] : Nat)) = cur s l (k + 1) := by
  unfold cur
  rw [wrap_step, List.take_succ_eq_append_getElem hk, val_snoc, Int.pow_succ, Int.add_mul, Int.mul_assoc, Int.natCast_add, Int.natCast_mul, Int.add_assoc]
  rfl
theorem cur_zero (s : Int) (hs : s = 0 ∨ s = -1) (l : List Nat) : cur s l 0 = s := by
  unfold cur
  rw [IntKind.wrap_i64]
  simp only [Int.pow_zero, List.take_zero, val]
  omega
theorem val_head (x : Nat) (l : List Nat) : val (x :: l) 0 = x * 256 ^ l.length + val l 0 := by rw [val, val_split]; simp
/-- at the end, the sign ahead as the first byte says. -/
theorem cur_end (l : List Nat) (hl : Bys l) (s : Int) (h : l.length = 1 ∧ s = 0 ∨ (l.length = 4 ∨ l.length = 8) ∧ (s = 0 ∧ l.getD 0 0 < 128 ∨ s = -1 ∧ 128 ≤ l.getD 0 0)) : cur s l l.length = rd l := by
  unfold cur rd
  rw [List.take_length, IntKind.wrap_i64]
  have lt := val_lt l hl
  rcases h with ⟨e, rfl⟩ | ⟨e | e, h⟩
  · rw [e] at lt ⊢
    rw [if_neg (by decide), if_neg (by decide), if_pos rfl]
    omega
  · rw [e] at lt ⊢
    rw [if_neg (by decide), if_pos rfl]
    obtain ⟨x, r, rfl⟩ : ∃ x r, l = x :: r := by cases l with
      | nil => simp at e
      | cons x r => exact ⟨x, r, rfl⟩
    have hr := val_lt r (fun y hy => hl y (List.mem_cons_of_mem _ hy))
    have e3 : r.length = 3 := by simpa using e
    rw [e3] at hr
    have hx := hl x (List.mem_cons_self ..)
    rw [val_head, e3]
    simp only [List.getD_cons_zero, Int.reducePow] at h ⊢
    omega
  · rw [e, if_pos rfl]
    simp only [Int.reducePow]
    omega
theorem ret_i {a b : Int} (h : a = b) : Ending.returned (.int .i64 a) = .returned (.int .i64 b) := by rw [h]
def NHead (s : Int) (l : List Nat) (t i : Value) : Prop := ∃ k : Nat, k ≤ l.length ∧ t = .int .i64 (cur s l k) ∧ i = .int .i64 (k : Nat)
theorem or_step (c x : Int) (h0 : 0 ≤ x) (h1 : x < 256) : bits .or .i64 (wrap64 (c * 256)) x = IntKind.i64.wrap (c * 256 + x) := by
  rw [← or_i64 c x h0 h1]
  congr 1
  rw [IntKind.wrap_i64]; unfold wrap64; rfl
theorem getD_zero (l : List Nat) (h : 0 < l.length) : l.getD 0 0 = l[0] := by simp [List.getD, h]
set_option maxHeartbeats 1000000 in
theorem number1 (l : List Nat) (v : Value) (w : World) (h : RdW w v l) (hl : Bys l) (hn : l.length = 1) : Calls Try.prog 58 #[v] w fun e w' => e = .returned (.int .i64 (rd l)) ∧ w = w' := by
  obtain ⟨A, cap, rfl, hc, hA, hr⟩ := h
  obtain ⟨b, o, rfl, hcell⟩ := hr (List.ne_nil_of_length_pos (by omega))
  have HC := Lib.hid hcell
  have HE := Lib.hid (cur_end l hl (0) (Or.inl ⟨hn, rfl⟩))
  have H0 := cur_zero (0) (Or.inl rfl) l
  have HB := Lib.hid hl
  rw [hn] at hc ⊢
  have HN := Lib.hid hn
  have H00 := Lib.hid H0
  clear hcell hr hA hl hn H0
  go_enter Try.func58, Try.ntmps58
  go_wp2
  go_loop [3, 19] (fun t i => NHead (0) l t i) (fun _ i => 1 - (intOf i).toNat)
  case atStart => exact ⟨0, Nat.zero_le _, by rw [H00.out], rfl⟩
  case round =>
    obtain ⟨k, hk, rfl, rfl⟩ := hrel
    rw [HN.out] at hk
    by_cases hlt : k < 1
    · have hlt' : k < l.length := by rw [HN.out]; exact hlt
      have hcell := HC.out k hlt'
      have hx1 := HB.out _ (List.getElem_mem hlt')
      have CS := Lib.hid (cur_succ (0) l k hlt')
      have OR := or_step (cur (0) l k) (l[k] : Nat) (by omega) (by omega)
      rw [CS.out] at OR
      have CB := cur_bd (0) l k
      have CN : Hid (cur (0) l (k + 1) = cur (0) l (k + 1)) := Lib.hid rfl
      generalize (l[k] : Nat) = x at *
      generalize hc' : cur (0) l (k + 1) = c' at *
      have HC' := Lib.hid hc'
      clear hc' CN CS
      generalize cur (0) l k = c at *
      go_wp2
      go_round
      case rel => exact ⟨k + 1, by rw [HN.out]; omega, by rw [HC'.out], by go_num⟩
      case measure => simp [intOf]; omega
    · obtain rfl : k = 1 := by omega
      have HE2 : Hid (cur (0) l 1 = rd l) := by have := HE.out; rw [HN.out] at this; exact Lib.hid this
      generalize cur (0) l 1 = c at *
      go_wp2
      go_ret
      exact ⟨ret_i HE2.out, rfl⟩
set_option maxHeartbeats 1000000 in
theorem number4 (l : List Nat) (v : Value) (w : World) (h : RdW w v l) (hl : Bys l) (hn : l.length = 4) (hs : l.getD 0 0 < 128) : Calls Try.prog 58 #[v] w fun e w' => e = .returned (.int .i64 (rd l)) ∧ w = w' := by
  obtain ⟨A, cap, rfl, hc, hA, hr⟩ := h
  obtain ⟨b, o, rfl, hcell⟩ := hr (List.ne_nil_of_length_pos (by omega))
  have HC := Lib.hid hcell
  have HE := Lib.hid (cur_end l hl (0) (Or.inr ⟨Or.inl hn, Or.inl ⟨rfl, hs⟩⟩))
  have H0 := cur_zero (0) (Or.inl rfl) l
  have HB := Lib.hid hl
  have c0 : w.cell? ⟨b, o, none⟩ = some (.int .u8 (l.getD 0 0 : Nat)) := by rw [getD_zero l (by omega)]; exact hcell 0 (by omega)
  have hx := (show l.getD 0 0 < 256 by rw [getD_zero l (by omega)]; exact hl _ (List.getElem_mem _))
  generalize l.getD 0 0 = x0 at *
  rw [hn] at hc ⊢
  have HN := Lib.hid hn
  have H00 := Lib.hid H0
  clear hcell hr hA hl hn H0
  go_enter Try.func58, Try.ntmps58
  go_wp2
  go_loop [3, 19] (fun t i => NHead (0) l t i) (fun _ i => 4 - (intOf i).toNat)
  case atStart => exact ⟨0, Nat.zero_le _, by rw [H00.out], rfl⟩
  case round =>
    obtain ⟨k, hk, rfl, rfl⟩ := hrel
    rw [HN.out] at hk
    by_cases hlt : k < 4
    · have hlt' : k < l.length := by rw [HN.out]; exact hlt
      have hcell := HC.out k hlt'
      have hx1 := HB.out _ (List.getElem_mem hlt')
      have CS := Lib.hid (cur_succ (0) l k hlt')
      have OR := or_step (cur (0) l k) (l[k] : Nat) (by omega) (by omega)
      rw [CS.out] at OR
      have CB := cur_bd (0) l k
      have CN : Hid (cur (0) l (k + 1) = cur (0) l (k + 1)) := Lib.hid rfl
      generalize (l[k] : Nat) = x at *
      generalize hc' : cur (0) l (k + 1) = c' at *
      have HC' := Lib.hid hc'
      clear hc' CN CS
      generalize cur (0) l k = c at *
      go_wp2
      go_round
      case rel => exact ⟨k + 1, by rw [HN.out]; omega, by rw [HC'.out], by go_num⟩
      case measure => simp [intOf]; omega
    · obtain rfl : k = 4 := by omega
      have HE2 : Hid (cur (0) l 4 = rd l) := by have := HE.out; rw [HN.out] at this; exact Lib.hid this
      generalize cur (0) l 4 = c at *
      go_wp2
      go_ret
      exact ⟨ret_i HE2.out, rfl⟩
set_option maxHeartbeats 1000000 in
theorem number4n (l : List Nat) (v : Value) (w : World) (h : RdW w v l) (hl : Bys l) (hn : l.length = 4) (hs : l.getD 0 0 ≥ 128) : Calls Try.prog 58 #[v] w fun e w' => e = .returned (.int .i64 (rd l)) ∧ w = w' := by
  obtain ⟨A, cap, rfl, hc, hA, hr⟩ := h
  obtain ⟨b, o, rfl, hcell⟩ := hr (List.ne_nil_of_length_pos (by omega))
  have HC := Lib.hid hcell
  have HE := Lib.hid (cur_end l hl (-1) (Or.inr ⟨Or.inl hn, Or.inr ⟨rfl, hs⟩⟩))
  have H0 := cur_zero (-1) (Or.inr rfl) l
  have HB := Lib.hid hl
  have c0 : w.cell? ⟨b, o, none⟩ = some (.int .u8 (l.getD 0 0 : Nat)) := by rw [getD_zero l (by omega)]; exact hcell 0 (by omega)
  have hx := (show l.getD 0 0 < 256 by rw [getD_zero l (by omega)]; exact hl _ (List.getElem_mem _))
  generalize l.getD 0 0 = x0 at *
  rw [hn] at hc ⊢
  have HN := Lib.hid hn
  have H00 := Lib.hid H0
  clear hcell hr hA hl hn H0
  go_enter Try.func58, Try.ntmps58
  go_wp2
  go_loop [3, 19] (fun t i => NHead (-1) l t i) (fun _ i => 4 - (intOf i).toNat)
  case atStart => exact ⟨0, Nat.zero_le _, by rw [H00.out], rfl⟩
  case round =>
    obtain ⟨k, hk, rfl, rfl⟩ := hrel
    rw [HN.out] at hk
    by_cases hlt : k < 4
    · have hlt' : k < l.length := by rw [HN.out]; exact hlt
      have hcell := HC.out k hlt'
      have hx1 := HB.out _ (List.getElem_mem hlt')
      have CS := Lib.hid (cur_succ (-1) l k hlt')
      have OR := or_step (cur (-1) l k) (l[k] : Nat) (by omega) (by omega)
      rw [CS.out] at OR
      have CB := cur_bd (-1) l k
      have CN : Hid (cur (-1) l (k + 1) = cur (-1) l (k + 1)) := Lib.hid rfl
      generalize (l[k] : Nat) = x at *
      generalize hc' : cur (-1) l (k + 1) = c' at *
      have HC' := Lib.hid hc'
      clear hc' CN CS
      generalize cur (-1) l k = c at *
      go_wp2
      go_round
      case rel => exact ⟨k + 1, by rw [HN.out]; omega, by rw [HC'.out], by go_num⟩
      case measure => simp [intOf]; omega
    · obtain rfl : k = 4 := by omega
      have HE2 : Hid (cur (-1) l 4 = rd l) := by have := HE.out; rw [HN.out] at this; exact Lib.hid this
      generalize cur (-1) l 4 = c at *
      go_wp2
      go_ret
      exact ⟨ret_i HE2.out, rfl⟩
set_option maxHeartbeats 1000000 in
theorem number8 (l : List Nat) (v : Value) (w : World) (h : RdW w v l) (hl : Bys l) (hn : l.length = 8) (hs : l.getD 0 0 < 128) : Calls Try.prog 58 #[v] w fun e w' => e = .returned (.int .i64 (rd l)) ∧ w = w' := by
  obtain ⟨A, cap, rfl, hc, hA, hr⟩ := h
  obtain ⟨b, o, rfl, hcell⟩ := hr (List.ne_nil_of_length_pos (by omega))
  have HC := Lib.hid hcell
  have HE := Lib.hid (cur_end l hl (0) (Or.inr ⟨Or.inr hn, Or.inl ⟨rfl, hs⟩⟩))
  have H0 := cur_zero (0) (Or.inl rfl) l
  have HB := Lib.hid hl
  have c0 : w.cell? ⟨b, o, none⟩ = some (.int .u8 (l.getD 0 0 : Nat)) := by rw [getD_zero l (by omega)]; exact hcell 0 (by omega)
  have hx := (show l.getD 0 0 < 256 by rw [getD_zero l (by omega)]; exact hl _ (List.getElem_mem _))
  generalize l.getD 0 0 = x0 at *
  rw [hn] at hc ⊢
  have HN := Lib.hid hn
  have H00 := Lib.hid H0
  clear hcell hr hA hl hn H0
  go_enter Try.func58, Try.ntmps58
  go_wp2
  go_loop [3, 19] (fun t i => NHead (0) l t i) (fun _ i => 8 - (intOf i).toNat)
  case atStart => exact ⟨0, Nat.zero_le _, by rw [H00.out], rfl⟩
  case round =>
    obtain ⟨k, hk, rfl, rfl⟩ := hrel
    rw [HN.out] at hk
    by_cases hlt : k < 8
    · have hlt' : k < l.length := by rw [HN.out]; exact hlt
      have hcell := HC.out k hlt'
      have hx1 := HB.out _ (List.getElem_mem hlt')
      have CS := Lib.hid (cur_succ (0) l k hlt')
      have OR := or_step (cur (0) l k) (l[k] : Nat) (by omega) (by omega)
      rw [CS.out] at OR
      have CB := cur_bd (0) l k
      have CN : Hid (cur (0) l (k + 1) = cur (0) l (k + 1)) := Lib.hid rfl
      generalize (l[k] : Nat) = x at *
      generalize hc' : cur (0) l (k + 1) = c' at *
      have HC' := Lib.hid hc'
      clear hc' CN CS
      generalize cur (0) l k = c at *
      go_wp2
      go_round
      case rel => exact ⟨k + 1, by rw [HN.out]; omega, by rw [HC'.out], by go_num⟩
      case measure => simp [intOf]; omega
    · obtain rfl : k = 8 := by omega
      have HE2 : Hid (cur (0) l 8 = rd l) := by have := HE.out; rw [HN.out] at this; exact Lib.hid this
      generalize cur (0) l 8 = c at *
      go_wp2
      go_ret
      exact ⟨ret_i HE2.out, rfl⟩
set_option maxHeartbeats 1000000 in
theorem number8n (l : List Nat) (v : Value) (w : World) (h : RdW w v l) (hl : Bys l) (hn : l.length = 8) (hs : l.getD 0 0 ≥ 128) : Calls Try.prog 58 #[v] w fun e w' => e = .returned (.int .i64 (rd l)) ∧ w = w' := by
  obtain ⟨A, cap, rfl, hc, hA, hr⟩ := h
  obtain ⟨b, o, rfl, hcell⟩ := hr (List.ne_nil_of_length_pos (by omega))
  have HC := Lib.hid hcell
  have HE := Lib.hid (cur_end l hl (-1) (Or.inr ⟨Or.inr hn, Or.inr ⟨rfl, hs⟩⟩))
  have H0 := cur_zero (-1) (Or.inr rfl) l
  have HB := Lib.hid hl
  have c0 : w.cell? ⟨b, o, none⟩ = some (.int .u8 (l.getD 0 0 : Nat)) := by rw [getD_zero l (by omega)]; exact hcell 0 (by omega)
  have hx := (show l.getD 0 0 < 256 by rw [getD_zero l (by omega)]; exact hl _ (List.getElem_mem _))
  generalize l.getD 0 0 = x0 at *
  rw [hn] at hc ⊢
  have HN := Lib.hid hn
  have H00 := Lib.hid H0
  clear hcell hr hA hl hn H0
  go_enter Try.func58, Try.ntmps58
  go_wp2
  go_loop [3, 19] (fun t i => NHead (-1) l t i) (fun _ i => 8 - (intOf i).toNat)
  case atStart => exact ⟨0, Nat.zero_le _, by rw [H00.out], rfl⟩
  case round =>
    obtain ⟨k, hk, rfl, rfl⟩ := hrel
    rw [HN.out] at hk
    by_cases hlt : k < 8
    · have hlt' : k < l.length := by rw [HN.out]; exact hlt
      have hcell := HC.out k hlt'
      have hx1 := HB.out _ (List.getElem_mem hlt')
      have CS := Lib.hid (cur_succ (-1) l k hlt')
      have OR := or_step (cur (-1) l k) (l[k] : Nat) (by omega) (by omega)
      rw [CS.out] at OR
      have CB := cur_bd (-1) l k
      have CN : Hid (cur (-1) l (k + 1) = cur (-1) l (k + 1)) := Lib.hid rfl
      generalize (l[k] : Nat) = x at *
      generalize hc' : cur (-1) l (k + 1) = c' at *
      have HC' := Lib.hid hc'
      clear hc' CN CS
      generalize cur (-1) l k = c at *
      go_wp2
      go_round
      case rel => exact ⟨k + 1, by rw [HN.out]; omega, by rw [HC'.out], by go_num⟩
      case measure => simp [intOf]; omega
    · obtain rfl : k = 8 := by omega
      have HE2 : Hid (cur (-1) l 8 = rd l) := by have := HE.out; rw [HN.out] at this; exact Lib.hid this
      generalize cur (-1) l 8 = c at *
      go_wp2
      go_ret
      exact ⟨ret_i HE2.out, rfl⟩
set_option maxHeartbeats 1000000 in
theorem number_none (l : List Nat) (v : Value) (w : World) (h : RdW w v l) (h1 : l.length ≠ 1) (h4 : l.length ≠ 4) (h8 : l.length ≠ 8) (hn : l.length < 9000000000000000000) : Calls Try.prog 58 #[v] w fun e w' => e = .returned (.int .i64 (rd l)) ∧ w = w' := by
  obtain ⟨A, cap, rfl, hc, hA, hr⟩ := h
  have e : rd l = 0 := by unfold rd; rw [if_neg h8, if_neg h4, if_neg h1]
  have t1 : ((l.length : Int) == 1) = false := by simp; omega
  have t4 : ((l.length : Int) == 4) = false := by simp; omega
  have t8 : ((l.length : Int) == 8) = false := by simp; omega
  rw [e]
  clear e h1 h4 h8 hA hr
  go_enter Try.func58, Try.ntmps58
  go_wp2
  go_ret
  exact ⟨rfl, rfl⟩
theorem number_at (l : List Nat) (v : Value) (w : World) (h : RdW w v l) (hl : Bys l) (hn : l.length < 9000000000000000000) : Calls Try.prog 58 #[v] w fun e w' => e = .returned (.int .i64 (rd l)) ∧ w = w' := by
  by_cases h1 : l.length = 1
  · exact number1 l v w h hl h1
  · by_cases h4 : l.length = 4
    · by_cases hs : l.getD 0 0 < 128
      · exact number4 l v w h hl h4 hs
      · exact number4n l v w h hl h4 (by omega)
    · by_cases h8 : l.length = 8
      · by_cases hs : l.getD 0 0 < 128
        · exact number8 l v w h hl h8 hs
        · exact number8n l v w h hl h8 (by omega)
      · exact number_none l v w h h1 h4 h8 hn
end Go.Proofs.Ytllficloadncfaa.oct

/-
  What package octet's readers answer, call by call. Conditions: the slices that are handed in read as bytes; readers are such as Open made.
-/
namespace Go.Proofs.Ytllficloadncfaa.oct
open Go.ChangeShapes Go.WideShapes Go.ChangeAt Go.RowKit
open om mem
set_option linter.unusedVariables false
set_option maxRecDepth 100000

/-- a reader: its block, what is left, whether it has failed; all of it lies in blocks from lo on, below hi. -/
def Rdr (T : TypeId) (lo hi : Nat) (W : World) (g : Nat) (l : List Nat) (f : Bool) : Prop :=
  lo ≤ g ∧ g < hi ∧ ∃ v, W.heap[g]? = some (.cells #[v, .bool f] T) ∧ By (fun b => lo ≤ b ∧ b < hi ∧ b ≠ g) W v l
theorem Rdr.below {T : TypeId} {lo hi : Nat} {W W' : World} {g : Nat} {l : List Nat} {f : Bool} (h : Rdr T lo hi W g l f) (hb : Below W.heap.size W W') : Rdr T lo hi W' g l f := by
  obtain ⟨h1, h2, v, h3, h4⟩ := h
  exact ⟨h1, h2, v, kept h3 hb, h4.below hb⟩
theorem Rdr.keep {T : TypeId} {lo hi : Nat} {W W' : World} {g : Nat} {l : List Nat} {f : Bool} (h : Rdr T lo hi W g l f) {k : Nat} (hk : Keep k W W') (hn : k < lo ∨ hi ≤ k) : Rdr T lo hi W' g l f := by
  obtain ⟨h1, h2, v, h3, h4⟩ := h
  refine ⟨h1, h2, v, ?_, h4.keep hk (fun b hb => by omega)⟩
  rw [hk.block g (hp_lt h3) (by omega)]
  exact h3
theorem set_cell0 {W : World} {g : Nat} {v x : Value} {f : Bool} {T : TypeId} (h : W.heap[g]? = some (.cells #[v, .bool f] T)) : (W.setCell ⟨g, 0, none⟩ x).heap[g]? = some (.cells #[x, .bool f] T) :=
  heap_setCell_same W g 0 _ _ _ h
theorem set_cell1 {W : World} {g : Nat} {v x : Value} {f : Value} {T : TypeId} (h : W.heap[g]? = some (.cells #[v, f] T)) : (W.setCell ⟨g, 1, none⟩ x).heap[g]? = some (.cells #[v, x] T) :=
  heap_setCell_same W g 1 _ _ _ h
theorem fz {W : World} {g : Nat} {c : Array Value} {T : TypeId} (h : W.heap[g]? = some (.cells c T)) (j : Nat) : W.frozen? ⟨g, j, none⟩ = false := frozen_of_row W g j c T h
set_option maxHeartbeats 1000000 in
theorem fail_at (W : World) (g : Nat) (v : Value) (f : Bool) (h : W.heap[g]? = some (.cells #[v, .bool f] 95)) : Calls Try.prog 57 #[.pointer (some ⟨g, 0, none⟩)] W fun e w' => e = .returned (.tuple #[]) ∧ w'.heap[g]? = some (.cells #[.slice none 0 0, .bool true] 95) ∧ Keep g W w' := by
  have c0 := row_cell h 0
  have c1 := row_cell h 1
  have f0 := fz h 0
  have f1 := fz h 1
  have R := Lib.hid (show ((W.setCell ⟨g, 0, none⟩ (.slice none 0 0)).setCell ⟨g, 1, none⟩ (.bool true)).heap[g]? = some (.cells #[.slice none 0 0, .bool true] 95) from set_cell1 (set_cell0 h))
  clear h
  go_enter Try.func57, Try.ntmps57
  go_wp2
  go_end0
  exact ⟨rfl, R.out, ((Keep.refl g W).setCell 0 _).setCell 1 _⟩
/-! pieces of a slice -/
set_option maxRecDepth 100000 in
theorem cutH (A : Option Addr) (n c f : Nat) (z : Int) (hz : z = (f : Nat)) (h : f ≤ c) (W : World) : (Instr.slice 29 (.slice A n c) none (some (.int .i64 z)) none).run Try.prog W = .ok (.slice A f c) W := by
  subst hz
  rw [run_slice_h (P := Try.prog) W 29 A n c Try.underlying29 .i64 f (by omega) (by omega)]
  rw [show (Go.sizeOf (Try.prog.elem 29)).run Try.prog W = .ok 1 W by kernel_rfl]
  simp only [Result.andThen, sliced, Int.toNat_natCast, Nat.sub_zero, Nat.zero_mul]
  cases A with
  | none => simp
  | some a => simp [Addr.add]
def tlA (A : Option Addr) (c f : Nat) : Option Addr := if c = f then A else A.map (·.add f)
set_option maxRecDepth 100000 in
theorem cutT (A : Option Addr) (n c f : Nat) (z : Int) (hz : z = (f : Nat)) (h : f ≤ n) (W : World) : (Instr.slice 29 (.slice A n c) (some (.int .i64 z)) none none).run Try.prog W = .ok (.slice (tlA A c f) (n - f) (c - f)) W := by
  subst hz
  rw [run_slice_l (P := Try.prog) W 29 A n c Try.underlying29 .i64 f (by omega) (by omega)]
  rw [show (Go.sizeOf (Try.prog.elem 29)).run Try.prog W = .ok 1 W by kernel_rfl]
  simp only [Result.andThen, sliced, Int.toNat_natCast, Nat.mul_one, tlA]
theorem By.head {P : Nat → Prop} {W : World} {A : Option Addr} {l : List Nat} {c : Nat} (h : By P W (.slice A l.length c) l) (f : Nat) (hf : f ≤ l.length) : By P W (.slice A f c) (l.take f) := by
  rcases h with ⟨e, rfl⟩ | ⟨b, o, cap, e, hc, hp, hr⟩
  · cases e
    obtain rfl : f = 0 := by simpa using hf
    exact Or.inl ⟨rfl, rfl⟩
  · cases e
    refine Or.inr ⟨b, o, _, by rw [List.length_take, Nat.min_eq_left hf], by rw [List.length_take]; omega, hp, fun k hk => ?_⟩
    rw [List.length_take] at hk
    rw [List.getElem_take]
    exact hr k (by omega)
theorem By.tail {P : Nat → Prop} {W : World} {A : Option Addr} {l : List Nat} {c : Nat} (h : By P W (.slice A l.length c) l) (f : Nat) (hf : f ≤ l.length) : By P W (.slice (tlA A c f) (l.length - f) (c - f)) (l.drop f) := by
  rcases h with ⟨e, rfl⟩ | ⟨b, o, cap, e, hc, hp, hr⟩
  · cases e
    obtain rfl : f = 0 := by simpa using hf
    exact Or.inl ⟨rfl, rfl⟩
  · cases e
    unfold tlA
    by_cases hcf : c = f
    · rw [if_pos hcf]
      have e0 : l.drop f = [] := List.drop_eq_nil_of_le (by omega)
      refine Or.inr ⟨b, o, c - f, by rw [List.length_drop], by rw [List.length_drop]; omega, hp, fun k hk => ?_⟩
      rw [List.length_drop] at hk
      omega
    · rw [if_neg hcf]
      refine Or.inr ⟨b, o + f, c - f, by rw [List.length_drop]; simp [Addr.add], by rw [List.length_drop]; omega, hp, fun k hk => ?_⟩
      rw [List.length_drop] at hk
      rw [List.getElem_drop, show o + f + k = o + (f + k) by omega]
      exact hr (f + k) (by omega)
/-! what is next -/
def okB (n : Int) (l : List Nat) : Bool := decide (0 ≤ n ∧ n ≤ l.length)
def pre (n : Int) (l : List Nat) : List Nat := if okB n l = true then l.take n.toNat else []
def rst (n : Int) (l : List Nat) : List Nat := if okB n l = true then l.drop n.toNat else []
def fl (n : Int) (l : List Nat) (f : Bool) : Bool := if okB n l = true then f else true
theorem ok_iff {n : Int} {l : List Nat} : okB n l = true ↔ 0 ≤ n ∧ n ≤ l.length := by unfold okB; simp
theorem ok_no {n : Int} {l : List Nat} : okB n l = false ↔ ¬ (0 ≤ n ∧ n ≤ l.length) := by rw [← ok_iff]; simp
theorem pre_yes {n : Int} {l : List Nat} (h : okB n l = true) : pre n l = l.take n.toNat := if_pos h
theorem rst_yes {n : Int} {l : List Nat} (h : okB n l = true) : rst n l = l.drop n.toNat := if_pos h
theorem fl_yes {n : Int} {l : List Nat} {f : Bool} (h : okB n l = true) : fl n l f = f := if_pos h
theorem pre_no {n : Int} {l : List Nat} (h : okB n l = false) : pre n l = [] := if_neg (by rw [h]; decide)
theorem rst_no {n : Int} {l : List Nat} (h : okB n l = false) : rst n l = [] := if_neg (by rw [h]; decide)
theorem fl_no {n : Int} {l : List Nat} {f : Bool} (h : okB n l = false) : fl n l f = true := if_neg (by rw [h]; decide)
theorem pre_le (n : Int) (l : List Nat) : (pre n l).length ≤ l.length := by unfold pre; split <;> simp [List.length_take]; omega
theorem rst_le (n : Int) (l : List Nat) : (rst n l).length ≤ l.length := by unfold rst; split <;> simp [List.length_drop]
theorem pre_bys {n : Int} {l : List Nat} (h : Bys l) : Bys (pre n l) := by
  unfold pre; split
  · exact h.take _
  · exact bys_nil
theorem rst_bys {n : Int} {l : List Nat} (h : Bys l) : Bys (rst n l) := by
  unfold rst; split
  · exact h.drop _
  · exact bys_nil
def NextTold (lo hi : Nat) (W : World) (g : Nat) (l : List Nat) (f : Bool) (n : Int) (e : Ending) (w' : World) : Prop :=
  ∃ v', e = .returned v' ∧ By (fun b => lo ≤ b ∧ b < hi ∧ b ≠ g) w' v' (pre n l) ∧ Rdr 95 lo hi w' g (rst n l) (fl n l f) ∧ Keep g W w'
set_option maxHeartbeats 1000000 in
theorem next_at (lo hi : Nat) (W : World) (g : Nat) (l : List Nat) (f : Bool) (n : Int) (h : Rdr 95 lo hi W g l f) (hn : I64 n) (hl : l.length < 9000000000000000000) : Calls Try.prog 52 #[.pointer (some ⟨g, 0, none⟩), .int .i64 n] W (NextTold lo hi W g l f n) := by
  obtain ⟨n1, n2⟩ := hn
  obtain ⟨h1, h2, v, hg, hby⟩ := h
  obtain ⟨A, cap, rfl, hc, hA, _⟩ := hby.rd
  have c0 : W.cell? ⟨g, 0, none⟩ = some (.slice A l.length cap) := row_cell hg 0
  have f0 := fz hg 0
  by_cases hok : okB n l = true
  · obtain ⟨k1, k2⟩ := ok_iff.1 hok
    obtain ⟨m, rfl⟩ : ∃ m : Nat, n = m := ⟨n.toNat, by omega⟩
    have q1 := fun W => cutH A l.length cap m (m : Int) rfl (by omega) W
    have q2 := fun W => cutT A l.length cap m (m : Int) rfl (by omega) W
    have R : Hid (NextTold lo hi W g l f m (.returned (.slice A m cap)) (W.setCell ⟨g, 0, none⟩ (.slice (tlA A cap m) (l.length - m) (cap - m)))) := Lib.hid (by
      have K := (Keep.refl g W).setCell 0 (.slice (tlA A cap m) (l.length - m) (cap - m))
      refine ⟨.slice A m cap, rfl, ?_, ⟨h1, h2, .slice (tlA A cap m) (l.length - m) (cap - m), ?_, ?_⟩, K⟩
      · rw [pre_yes hok]; exact (hby.head m (by omega)).keep K (fun b hb => hb.2.2)
      · rw [fl_yes hok]; exact set_cell0 hg
      · rw [rst_yes hok]; exact (hby.tail m (by omega)).keep K (fun b hb => hb.2.2))
    have t : ((m : Int) < 0) = False := by simp
    clear hby hg hok hA h1 h2
    go_enter Try.func52, Try.ntmps52
    go_wp2
    go_ret
    exact R.out
  · have hok' : okB n l = false := by simpa using hok
    have F := Lib.hid (fail_at W g _ f hg)
    have R : Hid (∀ w', w'.heap[g]? = some (.cells #[.slice none 0 0, .bool true] 95) → Keep g W w' → NextTold lo hi W g l f n (.returned (.slice none 0 0)) w') := Lib.hid (by
      intro w' hw K
      refine ⟨.slice none 0 0, rfl, ?_, ⟨h1, h2, .slice none 0 0, ?_, ?_⟩, K⟩
      · rw [pre_no hok']; exact Or.inl ⟨rfl, rfl⟩
      · rw [fl_no hok']; exact hw
      · rw [rst_no hok']; exact Or.inl ⟨rfl, rfl⟩)
    have hno := ok_no.1 hok'
    clear hby hg hok hok' hA h1 h2
    by_cases hn0 : n < 0
    · clear hno
      go_enter Try.func52, Try.ntmps52
      go_wp2_with (go_at_call 57; (with_reducible refine F.out.mono ?_); rintro e w1 ⟨rfl, hw1, hk1⟩; have HW := Lib.hid hw1; have HK := Lib.hid hk1; clear hw1 hk1)
      go_ret
      exact R.out _ HW.out HK.out
    · have hgt : (l.length : Int) < n := by omega
      clear hno
      go_enter Try.func52, Try.ntmps52
      go_wp2_with (go_at_call 57; (with_reducible refine F.out.mono ?_); rintro e w1 ⟨rfl, hw1, hk1⟩; have HW := Lib.hid hw1; have HK := Lib.hid hk1; clear hw1 hk1)
      go_ret
      exact R.out _ HW.out HK.out
end Go.Proofs.Ytllficloadncfaa.oct

/-
  What Open, Num, Take, Left and Ok answer; and the small case of layer 13's statements comes out true. Conditions: the slices that are handed in read as bytes; readers are such as Open made.
-/
namespace Go.Proofs.Ytllficloadncfaa.oct
open Go.ChangeShapes Go.WideShapes Go.ChangeAt Go.RowKit
open om mem
set_option linter.unusedVariables false
set_option maxRecDepth 100000

theorem own_slice {base : Nat} {W : World} {v : Value} {l : List Nat} (h : Own base W v l) : ∃ A n c, v = .slice A n c := by
  rcases h.2 with ⟨rfl, _⟩ | ⟨g, cap, cur, rfl, _⟩
  · exact ⟨_, _, _, rfl⟩
  · exact ⟨_, _, _, rfl⟩
def OpenTold (T : TypeId) (w : World) (l : List Nat) (e : Ending) (w' : World) : Prop :=
  ∃ g, e = .returned (.pointer (some ⟨g, 0, none⟩)) ∧ Rdr T w.heap.size w'.heap.size w' g l false ∧ Below w.heap.size w w'
theorem open_told {T : TypeId} {w w1 : World} {v : Value} {l : List Nat} (ho : Own w.heap.size w1 v l) (hb : Below w.heap.size w w1) : OpenTold T w l (.returned (.pointer (some ⟨w1.heap.size, 0, none⟩))) (w1.alloc (.cells #[v, .bool false] T)) := by
  have hs : (w1.alloc (.cells #[v, .bool false] T)).heap.size = w1.heap.size + 1 := by simp
  refine ⟨_, rfl, ⟨hb.size, by omega, v, hp_new _ _, ?_⟩, hb.alloc hb.size _⟩
  refine (own_by ho).imp (fun b hb => by omega) fun b o x hp hx => ?_
  exact ((bal (Below.refl w1.heap.size w1) (.cells #[v, .bool false] T)).cell (p := ⟨b, o, none⟩) hp.2).trans hx
set_option maxHeartbeats 1000000 in
theorem open_at (l : List Nat) (v : Value) (w : World) (h : RdW w v l) (hl : l.length < 2000000000000) : Calls Try.prog 24 #[v] w (OpenTold 95 w l) := by
  have C := Lib.hid (copied_at l v 0 0 w rfl h (by omega))
  clear h
  go_enter Try.func24, Try.ntmps24
  go_wp2_with (go_at_call 48; (with_reducible refine C.out.mono ?_); rintro e w1 ⟨v1, rfl, ho1, hb1⟩; obtain ⟨A1, n1, c1, rfl⟩ := own_slice ho1; have R := Lib.hid (open_told (T := 95) ho1 hb1); clear ho1 hb1)
  go_ret
  exact R.out
def TakeTold (T : TypeId) (lo hi : Nat) (W : World) (g : Nat) (l : List Nat) (f : Bool) (n : Int) (e : Ending) (w' : World) : Prop :=
  ∃ v', e = .returned v' ∧ Own W.heap.size w' v' (pre n l) ∧ Rdr T lo hi w' g (rst n l) (fl n l f) ∧ Keep g W w'
set_option maxHeartbeats 1000000 in
theorem take_at (lo hi : Nat) (W : World) (g : Nat) (l : List Nat) (f : Bool) (n : Int) (h : Rdr 95 lo hi W g l f) (hn : I64 n) (hl : l.length < 2000000000000) : Calls Try.prog 28 #[.pointer (some ⟨g, 0, none⟩), .int .i64 n] W (TakeTold 95 lo hi W g l f n) := by
  have C := Lib.hid (next_at lo hi W g l f n h hn (by omega))
  have D : Hid (∀ w1 v1, By (fun b => lo ≤ b ∧ b < hi ∧ b ≠ g) w1 v1 (pre n l) → Calls Try.prog 48 #[v1, .int .i64 0] w1 (NewBy w1 (pre n l))) := Lib.hid fun w1 v1 hby => copied_at (pre n l) v1 0 0 w1 rfl hby.rd (by have := pre_le n l; omega)
  have R : Hid (∀ w1 w2 v2, Rdr 95 lo hi w1 g (rst n l) (fl n l f) → Keep g W w1 → Own w1.heap.size w2 v2 (pre n l) → Below w1.heap.size w1 w2 → TakeTold 95 lo hi W g l f n (.returned v2) w2) := Lib.hid fun w1 w2 v2 hr hk ho hb =>
    ⟨v2, rfl, own_mono ho hk.size, hr.below hb, hk.below hb⟩
  clear h
  go_enter Try.func28, Try.ntmps28
  go_wp2_with (first
    | (go_at_call 52; (with_reducible refine C.out.mono ?_); rintro e w1 ⟨v1, rfl, hy1, hr1, hk1⟩; have HY := Lib.hid hy1; have HR := Lib.hid hr1; have HK := Lib.hid hk1; clear hy1 hr1 hk1)
    | (go_at_call 48; (with_reducible refine (D.out _ _ HY.out).mono ?_); rintro e w2 ⟨v2, rfl, ho2, hb2⟩; have Q := Lib.hid (R.out _ _ _ HR.out HK.out ho2 hb2); clear ho2 hb2))
  go_ret
  exact Q.out
/-- the size that is asked, or one that may never be. -/
def nz (z : Int) : Int := if z = 1 ∨ z = 4 ∨ z = 8 then z else -1
theorem nz_yes {z : Int} (h : Sz z) : nz z = z := if_pos h
theorem nz_no {z : Int} (h : ¬ Sz z) : nz z = -1 := if_neg h
theorem nz_bd (z : Int) : I64 (nz z) := by unfold nz I64; split <;> omega
def NumTold (T : TypeId) (lo hi : Nat) (W : World) (g : Nat) (l : List Nat) (f : Bool) (z : Int) (e : Ending) (w' : World) : Prop :=
  e = .returned (.int .i64 (rd (pre (nz z) l))) ∧ Rdr T lo hi w' g (rst (nz z) l) (fl (nz z) l f) ∧ Keep g W w'
theorem ok_neg (l : List Nat) : okB (-1) l = false := ok_no.2 (by omega)
set_option maxHeartbeats 1000000 in
theorem num_at (lo hi : Nat) (W : World) (g : Nat) (l : List Nat) (f : Bool) (z : Int) (h : Rdr 95 lo hi W g l f) (hz : I64 z) (hl : l.length < 2000000000000) (hb : Bys l) : Calls Try.prog 49 #[.pointer (some ⟨g, 0, none⟩), .int .i64 z] W (NumTold 95 lo hi W g l f z) := by
  have S := Lib.hid (fun w => isSize_at z w hz)
  by_cases hs : Sz z
  · rw [fit_iff.2 (fit_zero.2 hs)] at S
    have C := Lib.hid (next_at lo hi W g l f z h hz (by omega))
    have D : Hid (∀ w1 v1, By (fun b => lo ≤ b ∧ b < hi ∧ b ≠ g) w1 v1 (pre z l) → Calls Try.prog 58 #[v1] w1 fun e w' => e = .returned (.int .i64 (rd (pre z l))) ∧ w1 = w') := Lib.hid fun w1 v1 hby => number_at (pre z l) v1 w1 hby.rd (pre_bys hb) (by have := pre_le z l; omega)
    have R : Hid (∀ w1, Rdr 95 lo hi w1 g (rst z l) (fl z l f) → Keep g W w1 → NumTold 95 lo hi W g l f z (.returned (.int .i64 (rd (pre z l)))) w1) := Lib.hid fun w1 hr hk => by
      unfold NumTold
      rw [nz_yes hs]
      exact ⟨rfl, hr, hk⟩
    clear h hs hz hb
    go_enter Try.func49, Try.ntmps49
    go_wp2_with (first
      | (go_at_call 56; (with_reducible refine (S.out _).mono ?_); rintro e w1 ⟨rfl, rfl⟩)
      | (go_at_call 52; (with_reducible refine C.out.mono ?_); rintro e w1 ⟨v1, rfl, hy1, hr1, hk1⟩; have HY := Lib.hid hy1; have HR := Lib.hid (R.out _ hr1 hk1); clear hy1 hr1 hk1)
      | (go_at_call 58; (with_reducible refine (D.out _ _ HY.out).mono ?_); rintro e w1 ⟨rfl, rfl⟩))
    go_ret
    exact HR.out
  · have hf : fitB 0 z = false := fit_no.2 (fun h => hs (fit_zero.1 h))
    rw [hf] at S
    obtain ⟨h1, h2, v, hg, hby⟩ := h
    have C := Lib.hid (fail_at W g v f hg)
    have R : Hid (∀ w1, w1.heap[g]? = some (.cells #[.slice none 0 0, .bool true] 95) → Keep g W w1 → NumTold 95 lo hi W g l f z (.returned (.int .i64 0)) w1) := Lib.hid fun w1 hw hk => by
      unfold NumTold
      rw [nz_no hs, pre_no (ok_neg l), rst_no (ok_neg l), fl_no (ok_neg l)]
      exact ⟨rfl, ⟨h1, h2, .slice none 0 0, hw, Or.inl ⟨rfl, rfl⟩⟩, hk⟩
    clear hs hz hb hg hby hf
    go_enter Try.func49, Try.ntmps49
    go_wp2_with (first
      | (go_at_call 56; (with_reducible refine (S.out _).mono ?_); rintro e w1 ⟨rfl, rfl⟩)
      | (go_at_call 57; (with_reducible refine C.out.mono ?_); rintro e w1 ⟨rfl, hw1, hk1⟩; have HR := Lib.hid (R.out _ hw1 hk1); clear hw1 hk1))
    go_ret
    exact HR.out
end Go.Proofs.Ytllficloadncfaa.oct
