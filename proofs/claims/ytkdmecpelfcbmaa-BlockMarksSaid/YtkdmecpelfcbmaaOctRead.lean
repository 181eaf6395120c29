/-
  What package octet's readers answer, call by call. Conditions: the slices that are handed in read as bytes; readers are such as Open made.
-/
import Derived.Test.YtkdmecpelfcbmaaOct
namespace Go.Proofs.Ytkdmecpelfcbmaa.oct
open Go.ChangeShapes Go.WideShapes Go.ChangeAt Go.RowKit
open om mem
set_option linter.unusedVariables false
set_option maxRecDepth 100000

/-! number -/
/-- the number as far as a place. -/
def cur (s : Int) (l : List Nat) (k : Nat) : Int := IntKind.i64.wrap (s * 256 ^ k + (val (l.take k) 0 : Nat))
theorem cur_bd (s : Int) (l : List Nat) (k : Nat) : -9223372036854775808 ≤ cur s l k ∧ cur s l k ≤ 9223372036854775807 := by unfold cur; rw [IntKind.wrap_i64]; omega
theorem wrap_step (X b : Int) : IntKind.i64.wrap (IntKind.i64.wrap X * 256 + b) = IntKind.i64.wrap (X * 256 + b) := by
  rw [IntKind.wrap_i64, IntKind.wrap_i64, IntKind.wrap_i64]; omega
theorem cur_succ (s : Int) (l : List Nat) (k : Nat) (hk : k < l.length) : IntKind.i64.wrap (cur s l k * 256 + (l[k] : Nat)) = cur s l (k + 1) := by
  unfold cur
  rw [wrap_step, List.take_succ_eq_append_getElem hk, val_snoc, Int.pow_succ, Int.add_mul, Int.mul_assoc, Int.natCast_add, Int.natCast_mul, Int.add_assoc]
  rfl
theorem cur_zero (s : Int) (hs : s = 0 ∨ s = -1) (l : List Nat) : cur s l 0 = s := by
  unfold cur
  rw [IntKind.wrap_i64]
  simp only [Int.pow_zero, List.take_zero, val]
  omega
theorem val_head (x : Nat) (l : List Nat) : val (x :: l) 0 = x * 256 ^ l.length + val l 0 := by rw [val, val_split]; simp
/-- at the end, the sign ahead as the first byte says. -/
theorem cur_end (l : List Nat) (hl : Bys l) (s : Int) (h : l.length = 1 ∧ s = 0 ∨ (l.length = 4 ∨ l.length = 8) ∧ (s = 0 ∧ l.getD 0 0 < 128 ∨ s = -1 ∧ 128 ≤ l.getD 0 0)) : cur s l l.length = rd l := by
  unfold cur rd
  rw [List.take_length, IntKind.wrap_i64]
  have lt := val_lt l hl
  rcases h with ⟨e, rfl⟩ | ⟨e | e, h⟩
  · rw [e] at lt ⊢
    rw [if_neg (by decide), if_neg (by decide), if_pos rfl]
    omega
  · rw [e] at lt ⊢
    rw [if_neg (by decide), if_pos rfl]
    obtain ⟨x, r, rfl⟩ : ∃ x r, l = x :: r := by cases l with
      | nil => simp at e
      | cons x r => exact ⟨x, r, rfl⟩
    have hr := val_lt r (fun y hy => hl y (List.mem_cons_of_mem _ hy))
    have e3 : r.length = 3 := by simpa using e
    rw [e3] at hr
    have hx := hl x (List.mem_cons_self ..)
    rw [val_head, e3]
    simp only [List.getD_cons_zero, Int.reducePow] at h ⊢
    omega
  · rw [e, if_pos rfl]
    simp only [Int.reducePow]
    omega
theorem ret_i {a b : Int} (h : a = b) : Ending.returned (.int .i64 a) = .returned (.int .i64 b) := by rw [h]
def NHead (s : Int) (l : List Nat) (t i : Value) : Prop := ∃ k : Nat, k ≤ l.length ∧ t = .int .i64 (cur s l k) ∧ i = .int .i64 (k : Nat)
theorem or_step (c x : Int) (h0 : 0 ≤ x) (h1 : x < 256) : bits .or .i64 (wrap64 (c * 256)) x = IntKind.i64.wrap (c * 256 + x) := by
  rw [← or_i64 c x h0 h1]
  congr 1
  rw [IntKind.wrap_i64]; unfold wrap64; rfl
theorem getD_zero (l : List Nat) (h : 0 < l.length) : l.getD 0 0 = l[0] := by simp [List.getD, h]
set_option maxHeartbeats 1000000 in
theorem number1 (l : List Nat) (v : Value) (w : World) (h : RdW w v l) (hl : Bys l) (hn : l.length = 1) : Calls Try.prog 62 #[v] w fun e w' => e = .returned (.int .i64 (rd l)) ∧ w = w' := by
  obtain ⟨A, cap, rfl, hc, hA, hr⟩ := h
  obtain ⟨b, o, rfl, hcell⟩ := hr (List.ne_nil_of_length_pos (by omega))
  have HC := Lib.hid hcell
  have HE := Lib.hid (cur_end l hl (0) (Or.inl ⟨hn, rfl⟩))
  have H0 := cur_zero (0) (Or.inl rfl) l
  have HB := Lib.hid hl
  rw [hn] at hc ⊢
  have HN := Lib.hid hn
  have H00 := Lib.hid H0
  clear hcell hr hA hl hn H0
  go_enter Try.func62, Try.ntmps62
  go_wp2
  go_loop [3, 19] (fun t i => NHead (0) l t i) (fun _ i => 1 - (intOf i).toNat)
  case atStart => exact ⟨0, Nat.zero_le _, by rw [H00.out], rfl⟩
  case round =>
    obtain ⟨k, hk, rfl, rfl⟩ := hrel
    rw [HN.out] at hk
    by_cases hlt : k < 1
    · have hlt' : k < l.length := by rw [HN.out]; exact hlt
      have hcell := HC.out k hlt'
      have hx1 := HB.out _ (List.getElem_mem hlt')
      have CS := Lib.hid (cur_succ (0) l k hlt')
      have OR := or_step (cur (0) l k) (l[k] : Nat) (by omega) (by omega)
      rw [CS.out] at OR
      have CB := cur_bd (0) l k
      have CN : Hid (cur (0) l (k + 1) = cur (0) l (k + 1)) := Lib.hid rfl
      generalize (l[k] : Nat) = x at *
      generalize hc' : cur (0) l (k + 1) = c' at *
      have HC' := Lib.hid hc'
      clear hc' CN CS
      generalize cur (0) l k = c at *
      go_wp2
      go_round
      case rel => exact ⟨k + 1, by rw [HN.out]; omega, by rw [HC'.out], by go_num⟩
      case measure => simp [intOf]; omega
    · obtain rfl : k = 1 := by omega
      have HE2 : Hid (cur (0) l 1 = rd l) := by have := HE.out; rw [HN.out] at this; exact Lib.hid this
      generalize cur (0) l 1 = c at *
      go_wp2
      go_ret
      exact ⟨ret_i HE2.out, rfl⟩
set_option maxHeartbeats 1000000 in
theorem number4 (l : List Nat) (v : Value) (w : World) (h : RdW w v l) (hl : Bys l) (hn : l.length = 4) (hs : l.getD 0 0 < 128) : Calls Try.prog 62 #[v] w fun e w' => e = .returned (.int .i64 (rd l)) ∧ w = w' := by
  obtain ⟨A, cap, rfl, hc, hA, hr⟩ := h
  obtain ⟨b, o, rfl, hcell⟩ := hr (List.ne_nil_of_length_pos (by omega))
  have HC := Lib.hid hcell
  have HE := Lib.hid (cur_end l hl (0) (Or.inr ⟨Or.inl hn, Or.inl ⟨rfl, hs⟩⟩))
  have H0 := cur_zero (0) (Or.inl rfl) l
  have HB := Lib.hid hl
  have c0 : w.cell? ⟨b, o, none⟩ = some (.int .u8 (l.getD 0 0 : Nat)) := by rw [getD_zero l (by omega)]; exact hcell 0 (by omega)
  have hx := (show l.getD 0 0 < 256 by rw [getD_zero l (by omega)]; exact hl _ (List.getElem_mem _))
  generalize l.getD 0 0 = x0 at *
  rw [hn] at hc ⊢
  have HN := Lib.hid hn
  have H00 := Lib.hid H0
  clear hcell hr hA hl hn H0
  go_enter Try.func62, Try.ntmps62
  go_wp2
  go_loop [3, 19] (fun t i => NHead (0) l t i) (fun _ i => 4 - (intOf i).toNat)
  case atStart => exact ⟨0, Nat.zero_le _, by rw [H00.out], rfl⟩
  case round =>
    obtain ⟨k, hk, rfl, rfl⟩ := hrel
    rw [HN.out] at hk
    by_cases hlt : k < 4
    · have hlt' : k < l.length := by rw [HN.out]; exact hlt
      have hcell := HC.out k hlt'
      have hx1 := HB.out _ (List.getElem_mem hlt')
      have CS := Lib.hid (cur_succ (0) l k hlt')
      have OR := or_step (cur (0) l k) (l[k] : Nat) (by omega) (by omega)
      rw [CS.out] at OR
      have CB := cur_bd (0) l k
      have CN : Hid (cur (0) l (k + 1) = cur (0) l (k + 1)) := Lib.hid rfl
      generalize (l[k] : Nat) = x at *
      generalize hc' : cur (0) l (k + 1) = c' at *
      have HC' := Lib.hid hc'
      clear hc' CN CS
      generalize cur (0) l k = c at *
      go_wp2
      go_round
      case rel => exact ⟨k + 1, by rw [HN.out]; omega, by rw [HC'.out], by go_num⟩
      case measure => simp [intOf]; omega
    · obtain rfl : k = 4 := by omega
      have HE2 : Hid (cur (0) l 4 = rd l) := by have := HE.out; rw [HN.out] at this; exact Lib.hid this
      generalize cur (0) l 4 = c at *
      go_wp2
      go_ret
      exact ⟨ret_i HE2.out, rfl⟩
set_option maxHeartbeats 1000000 in
theorem number4n (l : List Nat) (v : Value) (w : World) (h : RdW w v l) (hl : Bys l) (hn : l.length = 4) (hs : l.getD 0 0 ≥ 128) : Calls Try.prog 62 #[v] w fun e w' => e = .returned (.int .i64 (rd l)) ∧ w = w' := by
  obtain ⟨A, cap, rfl, hc, hA, hr⟩ := h
  obtain ⟨b, o, rfl, hcell⟩ := hr (List.ne_nil_of_length_pos (by omega))
  have HC := Lib.hid hcell
  have HE := Lib.hid (cur_end l hl (-1) (Or.inr ⟨Or.inl hn, Or.inr ⟨rfl, hs⟩⟩))
  have H0 := cur_zero (-1) (Or.inr rfl) l
  have HB := Lib.hid hl
  have c0 : w.cell? ⟨b, o, none⟩ = some (.int .u8 (l.getD 0 0 : Nat)) := by rw [getD_zero l (by omega)]; exact hcell 0 (by omega)
  have hx := (show l.getD 0 0 < 256 by rw [getD_zero l (by omega)]; exact hl _ (List.getElem_mem _))
  generalize l.getD 0 0 = x0 at *
  rw [hn] at hc ⊢
  have HN := Lib.hid hn
  have H00 := Lib.hid H0
  clear hcell hr hA hl hn H0
  go_enter Try.func62, Try.ntmps62
  go_wp2
  go_loop [3, 19] (fun t i => NHead (-1) l t i) (fun _ i => 4 - (intOf i).toNat)
  case atStart => exact ⟨0, Nat.zero_le _, by rw [H00.out], rfl⟩
  case round =>
    obtain ⟨k, hk, rfl, rfl⟩ := hrel
    rw [HN.out] at hk
    by_cases hlt : k < 4
    · have hlt' : k < l.length := by rw [HN.out]; exact hlt
      have hcell := HC.out k hlt'
      have hx1 := HB.out _ (List.getElem_mem hlt')
      have CS := Lib.hid (cur_succ (-1) l k hlt')
      have OR := or_step (cur (-1) l k) (l[k] : Nat) (by omega) (by omega)
      rw [CS.out] at OR
      have CB := cur_bd (-1) l k
      have CN : Hid (cur (-1) l (k + 1) = cur (-1) l (k + 1)) := Lib.hid rfl
      generalize (l[k] : Nat) = x at *
      generalize hc' : cur (-1) l (k + 1) = c' at *
      have HC' := Lib.hid hc'
      clear hc' CN CS
      generalize cur (-1) l k = c at *
      go_wp2
      go_round
      case rel => exact ⟨k + 1, by rw [HN.out]; omega, by rw [HC'.out], by go_num⟩
      case measure => simp [intOf]; omega
    · obtain rfl : k = 4 := by omega
      have HE2 : Hid (cur (-1) l 4 = rd l) := by have := HE.out; rw [HN.out] at this; exact Lib.hid this
      generalize cur (-1) l 4 = c at *
      go_wp2
      go_ret
      exact ⟨ret_i HE2.out, rfl⟩
set_option maxHeartbeats 1000000 in
theorem number8 (l : List Nat) (v : Value) (w : World) (h : RdW w v l) (hl : Bys l) (hn : l.length = 8) (hs : l.getD 0 0 < 128) : Calls Try.prog 62 #[v] w fun e w' => e = .returned (.int .i64 (rd l)) ∧ w = w' := by
  obtain ⟨A, cap, rfl, hc, hA, hr⟩ := h
  obtain ⟨b, o, rfl, hcell⟩ := hr (List.ne_nil_of_length_pos (by omega))
  have HC := Lib.hid hcell
  have HE := Lib.hid (cur_end l hl (0) (Or.inr ⟨Or.inr hn, Or.inl ⟨rfl, hs⟩⟩))
  have H0 := cur_zero (0) (Or.inl rfl) l
  have HB := Lib.hid hl
  have c0 : w.cell? ⟨b, o, none⟩ = some (.int .u8 (l.getD 0 0 : Nat)) := by rw [getD_zero l (by omega)]; exact hcell 0 (by omega)
  have hx := (show l.getD 0 0 < 256 by rw [getD_zero l (by omega)]; exact hl _ (List.getElem_mem _))
  generalize l.getD 0 0 = x0 at *
  rw [hn] at hc ⊢
  have HN := Lib.hid hn
  have H00 := Lib.hid H0
  clear hcell hr hA hl hn H0
  go_enter Try.func62, Try.ntmps62
  go_wp2
  go_loop [3, 19] (fun t i => NHead (0) l t i) (fun _ i => 8 - (intOf i).toNat)
  case atStart => exact ⟨0, Nat.zero_le _, by rw [H00.out], rfl⟩
  case round =>
    obtain ⟨k, hk, rfl, rfl⟩ := hrel
    rw [HN.out] at hk
    by_cases hlt : k < 8
    · have hlt' : k < l.length := by rw [HN.out]; exact hlt
      have hcell := HC.out k hlt'
      have hx1 := HB.out _ (List.getElem_mem hlt')
      have CS := Lib.hid (cur_succ (0) l k hlt')
      have OR := or_step (cur (0) l k) (l[k] : Nat) (by omega) (by omega)
      rw [CS.out] at OR
      have CB := cur_bd (0) l k
      have CN : Hid (cur (0) l (k + 1) = cur (0) l (k + 1)) := Lib.hid rfl
      generalize (l[k] : Nat) = x at *
      generalize hc' : cur (0) l (k + 1) = c' at *
      have HC' := Lib.hid hc'
      clear hc' CN CS
      generalize cur (0) l k = c at *
      go_wp2
      go_round
      case rel => exact ⟨k + 1, by rw [HN.out]; omega, by rw [HC'.out], by go_num⟩
      case measure => simp [intOf]; omega
    · obtain rfl : k = 8 := by omega
      have HE2 : Hid (cur (0) l 8 = rd l) := by have := HE.out; rw [HN.out] at this; exact Lib.hid this
      generalize cur (0) l 8 = c at *
      go_wp2
      go_ret
      exact ⟨ret_i HE2.out, rfl⟩
set_option maxHeartbeats 1000000 in
theorem number8n (l : List Nat) (v : Value) (w : World) (h : RdW w v l) (hl : Bys l) (hn : l.length = 8) (hs : l.getD 0 0 ≥ 128) : Calls Try.prog 62 #[v] w fun e w' => e = .returned (.int .i64 (rd l)) ∧ w = w' := by
  obtain ⟨A, cap, rfl, hc, hA, hr⟩ := h
  obtain ⟨b, o, rfl, hcell⟩ := hr (List.ne_nil_of_length_pos (by omega))
  have HC := Lib.hid hcell
  have HE := Lib.hid (cur_end l hl (-1) (Or.inr ⟨Or.inr hn, Or.inr ⟨rfl, hs⟩⟩))
  have H0 := cur_zero (-1) (Or.inr rfl) l
  have HB := Lib.hid hl
  have c0 : w.cell? ⟨b, o, none⟩ = some (.int .u8 (l.getD 0 0 : Nat)) := by rw [getD_zero l (by omega)]; exact hcell 0 (by omega)
  have hx := (show l.getD 0 0 < 256 by rw [getD_zero l (by omega)]; exact hl _ (List.getElem_mem _))
  generalize l.getD 0 0 = x0 at *
  rw [hn] at hc ⊢
  have HN := Lib.hid hn
  have H00 := Lib.hid H0
  clear hcell hr hA hl hn H0
  go_enter Try.func62, Try.ntmps62
  go_wp2
  go_loop [3, 19] (fun t i => NHead (-1) l t i) (fun _ i => 8 - (intOf i).toNat)
  case atStart => exact ⟨0, Nat.zero_le _, by rw [H00.out], rfl⟩
  case round =>
    obtain ⟨k, hk, rfl, rfl⟩ := hrel
    rw [HN.out] at hk
    by_cases hlt : k < 8
    · have hlt' : k < l.length := by rw [HN.out]; exact hlt
      have hcell := HC.out k hlt'
      have hx1 := HB.out _ (List.getElem_mem hlt')
      have CS := Lib.hid (cur_succ (-1) l k hlt')
      have OR := or_step (cur (-1) l k) (l[k] : Nat) (by omega) (by omega)
      rw [CS.out] at OR
      have CB := cur_bd (-1) l k
      have CN : Hid (cur (-1) l (k + 1) = cur (-1) l (k + 1)) := Lib.hid rfl
      generalize (l[k] : Nat) = x at *
      generalize hc' : cur (-1) l (k + 1) = c' at *
      have HC' := Lib.hid hc'
      clear hc' CN CS
      generalize cur (-1) l k = c at *
      go_wp2
      go_round
      case rel => exact ⟨k + 1, by rw [HN.out]; omega, by rw [HC'.out], by go_num⟩
      case measure => simp [intOf]; omega
    · obtain rfl : k = 8 := by omega
      have HE2 : Hid (cur (-1) l 8 = rd l) := by have := HE.out; rw [HN.out] at this; exact Lib.hid this
      generalize cur (-1) l 8 = c at *
      go_wp2
      go_ret
      exact ⟨ret_i HE2.out, rfl⟩
set_option maxHeartbeats 1000000 in
theorem number_none (l : List Nat) (v : Value) (w : World) (h : RdW w v l) (h1 : l.length ≠ 1) (h4 : l.length ≠ 4) (h8 : l.length ≠ 8) (hn : l.length < 9000000000000000000) : Calls Try.prog 62 #[v] w fun e w' => e = .returned (.int .i64 (rd l)) ∧ w = w' := by
  obtain ⟨A, cap, rfl, hc, hA, hr⟩ := h
  have e : rd l = 0 := by unfold rd; rw [if_neg h8, if_neg h4, if_neg h1]
  have t1 : ((l.length : Int) == 1) = false := by simp; omega
  have t4 : ((l.length : Int) == 4) = false := by simp; omega
  have t8 : ((l.length : Int) == 8) = false := by simp; omega
  rw [e]
  clear e h1 h4 h8 hA hr
  go_enter Try.func62, Try.ntmps62
  go_wp2
  go_ret
  exact ⟨rfl, rfl⟩
theorem number_at (l : List Nat) (v : Value) (w : World) (h : RdW w v l) (hl : Bys l) (hn : l.length < 9000000000000000000) : Calls Try.prog 62 #[v] w fun e w' => e = .returned (.int .i64 (rd l)) ∧ w = w' := by
  by_cases h1 : l.length = 1
  · exact number1 l v w h hl h1
  · by_cases h4 : l.length = 4
    · by_cases hs : l.getD 0 0 < 128
      · exact number4 l v w h hl h4 hs
      · exact number4n l v w h hl h4 (by omega)
    · by_cases h8 : l.length = 8
      · by_cases hs : l.getD 0 0 < 128
        · exact number8 l v w h hl h8 hs
        · exact number8n l v w h hl h8 (by omega)
      · exact number_none l v w h h1 h4 h8 hn
end Go.Proofs.Ytkdmecpelfcbmaa.oct
