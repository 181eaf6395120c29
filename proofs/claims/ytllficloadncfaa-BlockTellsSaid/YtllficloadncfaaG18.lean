/-
  Plain mathematics: what was read of bytes may be laid, if its names have room. Nothing of any program. Conditions: as said.
-/
import Derived.Test.YtllficloadncfaaG04
import Derived.Test.YtllficloadncfaaG06
import Derived.Lib.AppendZerosOnto
import Derived.Laws.AppendOwn
import Derived.OwnWalk
import Derived.Test.YtllficloadncfaaG10
import Derived.Test.YtllficloadncfaaG14
import Derived.Test.YtllficloadncfaaG11
import Derived.BigQuiet
namespace Go.Proofs.Ytllficloadncfaa.bk
open om lx ab
set_option linter.unusedVariables false
set_option maxRecDepth 100000

theorem fit_rd {l : List Nat} {i n : Nat} (hb : Bys l) (h : i + n ≤ l.length) (hz : Sz n) : fitB (rd (sl l i n)) n = true := fit_iff.2 (rd_fits hz (by rw [sl_len h]) (sl_bys hb i n))
theorem bd_rd {l : List Nat} (hb : Bys l) (i n : Nat) : I64 (rd (sl l i n)) := rd_bd (sl_bys hb i n)
theorem aS_len (l : List UInt8) (a : Int) : (aS l a).length ≤ 16 := by
  unfold aS
  cases h : aT l a with
  | none => simp
  | some x =>
    obtain ⟨_, _, _, _, hr, _⟩ := aT_some h
    exact ((rt_iff x).1 hr).2.1
theorem dvP {h : hd.Hd} {l : List Nat} {s : Int} (k : dv h l s = true) : ∃ n : Nat, s = n ∧ (n = 4 ∨ n = 8) ∧ hd.Ok h ∧ l.length = P5 h n + h.ut.toNat ∧ (l.length : Int) = hd.sz h s := by
  unfold dv at k
  simp only [Bool.and_eq_true] at k
  have k0 := k.1.1.1
  have hs : s = 4 ∨ s = 8 := by
    unfold lenB at k0
    rw [Bool.and_eq_true] at k0
    exact (hd.szb_iff.1 k0.1).2
  obtain ⟨n, rfl⟩ : ∃ n : Nat, s = n := ⟨s.toNat, by omega⟩
  obtain ⟨h1, h2, h3⟩ := len_nat k0
  refine ⟨n, rfl, h2, h1, h3, ?_⟩
  unfold lenB at k0
  rw [Bool.and_eq_true, beq_iff_eq] at k0
  exact k0.2
theorem gZ_bd {h : hd.Hd} {l : List Nat} (s : Nat) (hb : Bys l) (hv : I64 h.v) : Bd (gZ h l s) := by
  refine ⟨fun x hx => ?_, fun x hx => ?_, fun x hx => ?_, hv, fun x hx => ?_⟩
  · obtain ⟨k, _, rfl⟩ := List.mem_map.1 hx
    exact bd_rd hb _ _
  · obtain ⟨k, _, rfl⟩ := List.mem_map.1 hx
    exact ⟨bd_rd hb _ _, bd_rd hb _ _⟩
  · obtain ⟨k, _, rfl⟩ := List.mem_map.1 hx
    exact ⟨bd_rd hb _ _, bd_rd hb _ _⟩
  · obtain ⟨t, ht, rfl⟩ := List.mem_map.1 hx
    obtain ⟨k, _, rfl⟩ := List.mem_map.1 ht
    show (B (aS _ _)).size ≤ _
    rw [B_size]
    have := aS_len (gPo l (P2 h s) h.ch.toNat) (gPl l (P1 h s) k)
    omega
theorem gZ_len (h : hd.Hd) (l : List Nat) (s : Nat) : (gZ h l s).ty.length = h.ty.toNat ∧ (gZ h l s).tr.length = h.tm.toNat ∧ (gZ h l s).lp.length = h.lp.toNat := by
  unfold gZ gTy gTr gLp
  simp
theorem gZ_fits {h : hd.Hd} {l : List Nat} {s : Nat} (hs : s = 4 ∨ s = 8) (hb : Bys l) (ho : hd.Ok h) (hl : l.length = P5 h s + h.ut.toNat) (hok : okC (gZ h l s) = true) : fits (gZ h l s) s = true := by
  have hq := ((ab.ok_iff _).1 (okC_names hok)).2
  have hz : Sz (s : Int) := by unfold Sz; omega
  have hle : ∀ k, k < h.tm.toNat → s * k + s ≤ s * h.tm.toNat := fun k hk => by have := Nat.mul_le_mul_left s (show k + 1 ≤ h.tm.toNat from hk); rw [Nat.mul_succ] at this; exact this
  have hle4 : ∀ k, k < h.lp.toNat → (s + 4) * k + (s + 4) ≤ (s + 4) * h.lp.toNat := fun k hk => by have := Nat.mul_le_mul_left (s + 4) (show k + 1 ≤ h.lp.toNat from hk); rw [Nat.mul_succ] at this; exact this
  unfold P5 P4 P3 P2 P1 at hl
  unfold fits
  simp only [Bool.and_eq_true, List.all_eq_true]
  refine ⟨⟨⟨fun x hx => ?_, fun x hx => ?_⟩, fun x hx => ?_⟩, fun x hx => ?_⟩
  · obtain ⟨k, hk, rfl⟩ := List.mem_map.1 hx
    have := hle k (List.mem_range.1 hk)
    exact fit_rd hb (by omega) hz
  · obtain ⟨k, hk, rfl⟩ := List.mem_map.1 hx
    have := List.mem_range.1 hk
    exact fit_rd (n := 1) hb (by omega) (Or.inl rfl)
  · have hpl := plc_lt hx
    obtain ⟨k, hk, e⟩ := List.mem_map.1 hx
    have hk' := List.mem_range.1 hk
    unfold fT
    rw [Bool.and_eq_true, Bool.and_eq_true]
    refine ⟨⟨?_, ?_⟩, ?_⟩
    · rw [← e]
      exact fit_rd (n := 4) hb (by unfold P1; omega) (Or.inr (Or.inl rfl))
    · refine fit_iff.2 (Or.inr (Or.inr ⟨rfl, ?_⟩))
      unfold b01
      split <;> omega
    · exact fit_iff.2 (Or.inr (Or.inr ⟨rfl, by omega⟩))
  · obtain ⟨k, hk, rfl⟩ := List.mem_map.1 hx
    have := hle4 k (List.mem_range.1 hk)
    unfold fL
    rw [Bool.and_eq_true]
    exact ⟨fit_rd hb (by unfold P3 P2 P1; omega) hz, fit_rd (n := 4) hb (by unfold P3 P2 P1; omega) (Or.inr (Or.inl rfl))⟩
/-- what is read may be laid just where it has a head. -/
theorem gZ_ev {h : hd.Hd} {l : List Nat} {s : Int} (hb : Bys l) (k : dv h l s = true) : ev (gZ h l s.toNat) s = okC (gZ h l s.toNat) := by
  obtain ⟨n, rfl, hn, ho, hl, _⟩ := dvP k
  rw [Int.toNat_natCast]
  rcases hk : okC (gZ h l n) with _ | _
  · unfold ev; rw [hk]; rfl
  · unfold ev sz48
    rw [hk, Int.toNat_natCast, gZ_fits hn hb ho hl hk]
    rcases hn with rfl | rfl <;> rfl
end Go.Proofs.Ytllficloadncfaa.bk

/-
  'append(b, make([]byte, k)...)' of a row of bytes of the call's own; a store into such a row. Nothing of any one function. Conditions: as said.
-/
namespace Go.Proofs.Ytllficloadncfaa.oct
open Go.ChangeShapes Go.WideShapes Go.ChangeAt Go.RowKit
open om mem
set_option linter.unusedVariables false
set_option maxRecDepth 100000

theorem zeros_bc (k : Nat) : Builtin.zeroCells (Value.int .u8 0).cells k = (bc (List.replicate k 0)).toArray := by
  apply Array.ext
  · simp [size_zeroCells, bc, Value.cells]
  · intro i h1 h2
    simp [Builtin.zeroCells, bc, Value.cells, Nat.mod_one]
theorem zeros_room (W : World) (g n cap k : Nat) (cur : Array Value) (hg : W.heap[g]? = some (.cells cur 5 (0, 0))) (hk : 0 < k) (hsm : k < 1000000) (hroom : n + k ≤ cap) (hfit : n + k ≤ cur.size) :
    (Builtin.append_ #[29, 3] 29 #[.slice (some ⟨g, 0, none⟩) n cap, .int .i64 (k : Nat)]).run Try.prog W =
      .ok (.slice (some ⟨g, 0, none⟩) (n + k) cap) (W.setRow g (cur.toList.take n ++ bc (List.replicate k 0) ++ cur.toList.drop (n + k)).toArray) := by
  obtain ⟨i0, hi, hz0, hz1, hz2⟩ := info_parts infoB
  have hl : (bc (List.replicate k 0)).length = k := by rw [bc_len, List.length_replicate]
  have hst := run_storeCells_at Try.prog g n 5 (bc (List.replicate k 0)) 0 cur W hg (by rw [hl]; simpa using hfit) (bc_one _)
  simp only [Nat.add_zero, hl] at hst
  have hk' : k ≠ 0 := by omega
  have hw : IntKind.i64.wrap (k : Int) = k := by rw [IntKind.wrap_i64]; omega
  have h48i : ¬ (281474976710656 < (k : Int)) := by omega
  have hneg : ¬ ((k : Int) < 0) := by omega
  have hzb := zeros_bc k
  simp [Builtin.append_, run_underlying Try.underlying29, run_underlying Try.underlying3, sizeOf, typeInfo, zeroValue, hi, hz0, hz1, hz2, asInt, asIntOf, hw, hneg, hk', h48i, hroom, hzb, Addr.add_lit, hst]
/-- 'append(b, make([]byte, k)...)', as a run. -/
theorem zeros_ex (base : Nat) (W : World) (g n cap k : Nat) (l : List Nat) (hown : Own base W (.slice (some ⟨g, 0, none⟩) n cap) l) (hk : 0 < k) (hsm : k < 1000000) (hl : l.length < 1000000) (hbase : base ≤ W.heap.size) :
    ∃ v' w', (Builtin.append_ #[29, 3] 29 #[.slice (some ⟨g, 0, none⟩) n cap, .int .i64 (k : Nat)]).run Try.prog W = .ok v' w' ∧ Own base w' v' (l ++ List.replicate k 0) ∧ W.grownBy w' (some g) := by
  have h0 := hown
  rcases hown.2 with ⟨e, _⟩ | ⟨g', cap', cur, e, hbg, hg, hnc, hcm, hcs, htake⟩
  · cases e
  · cases e
    have hlen : (bc (l ++ List.replicate k 0)).length = (l ++ List.replicate k 0).length * 1 := by rw [bc_len, Nat.mul_one]
    have hll : (l ++ List.replicate k 0).length = l.length + k := by rw [List.length_append, List.length_replicate]
    have hcs' : cur.size = cap := by simpa using hcs
    have ht' : cur.toList.take l.length = bc l := by simpa using htake
    by_cases hroom : l.length + k ≤ cap
    · refine ⟨_, _, zeros_room W g l.length cap k cur hg hk hsm hroom (by omega), ⟨hlen, .inr ⟨g, cap, _, by rw [hll], hbg, setRow_heap W g cur _ _ _ hg, by rw [hll]; exact hroom, hcm, ?_, ?_⟩⟩, ⟨rfl, rfl, rfl, by simp, fun j _ hj => setRow_other W g j _ (fun e => hj (by rw [e]))⟩⟩
      · simp only [List.size_toArray, List.length_append, List.length_take, List.length_drop, Array.length_toList, bc_len, List.length_replicate]
        omega
      · rw [ht', ← bc_app, ← hlen]
        exact List.take_left
    · obtain ⟨i0, hi, hz0, hz1, hz2⟩ := info_parts infoB
      have hf := run_firstCells_some (P := Try.prog) W.drew 1 l.length ⟨g, 0, none⟩ l.length cap (bc l) (by rw [bc_len]; omega) (fun j v hj => by
        have := h0.cells (g := g) rfl j v hj
        exact this)
      have hr := Lib.run_append_grow_zeros (P := Try.prog) W 29 3 29 5 i0 (.int .u8 0) .i64 .i64 Try.underlying29 Try.underlying3 hi hz0 (some ⟨g, 0, none⟩) l.length cap (bc l) (by rw [hz1]; exact hf) k hk (by omega) (by omega) (by omega) (by rw [hz2]; omega) (by rw [hz2]; exact growslice_fits (by unfold maxLen at hcm; omega) (by omega))
      rw [zeros_bc k] at hr
      refine ⟨_, _, hr, ⟨hlen, .inr ⟨W.heap.size, _, _, by rw [hll], hbase, heap_alloc_new W.drew _, by rw [hll]; exact grownCap_ge W _ _ _, grownCap_le_maxLen W _ _ _ (by unfold maxLen; omega), ?_, ?_⟩⟩, ⟨rfl, rfl, rfl, by simp, fun j hj _ => Below.heap_alloc W.drew _ j hj⟩⟩
      · have hge := grownCap_ge W (l.length + k) cap 5
        have hz1' : (Value.int IntKind.u8 0).cells.size = 1 := rfl
        simp only [Array.size_append, List.size_toArray, size_zeroCells, hz1', bc_len, List.length_replicate]
        omega
      · simp only [Array.toList_append, List.append_assoc]
        rw [← List.append_assoc, ← bc_app, ← hlen]
        exact List.take_left
/-- a store into a row of the call's own. -/
theorem own_set {base : Nat} {W : World} {g n cap : Nat} {l : List Nat} (hown : Own base W (.slice (some ⟨g, 0, none⟩) n cap) l) (i : Nat) (hi : i < l.length) (x : Nat) : Own base (W.setCell ⟨g, i, none⟩ (.int .u8 (x : Nat))) (.slice (some ⟨g, 0, none⟩) n cap) (l.set i x) := by
  rcases hown.2 with ⟨e, _⟩ | ⟨g', cap', cur, e, hbg, hg, hnc, hcm, hcs, htake⟩
  · cases e
  · cases e
    refine ⟨by rw [bc_len]; simp, .inr ⟨g, cap, _, by rw [List.length_set], hbg, heap_setCell_same W g i _ _ _ hg, by rw [List.length_set]; exact hnc, hcm, by simpa using hcs, ?_⟩⟩
    rw [List.length_set, Array.toList_setIfInBounds, List.take_set, htake]
    unfold bc
    rw [List.map_set]
theorem own_cellF {base : Nat} {W : World} {g n cap : Nat} {l : List Nat} (hown : Own base W (.slice (some ⟨g, 0, none⟩) n cap) l) (i : Nat) (hi : i < l.length) : W.cell? ⟨g, i, none⟩ = some (.int .u8 (l[i] : Nat)) ∧ W.frozen? ⟨g, i, none⟩ = false := by
  have h0 := hown
  rcases hown.2 with ⟨e, _⟩ | ⟨g', cap', cur, e, hbg, hg, hnc, hcm, hcs, htake⟩
  · cases e
  · cases e
    refine ⟨?_, fz hg i⟩
    rw [World.ownsRow.cellAt h0 i (by omega)]
    simp [bc, hi]
end Go.Proofs.Ytllficloadncfaa.oct

/-
  What the document's own Ints of layer 14 answers of two slices that read alike. Condition: as said.
-/
namespace Go.Proofs.Ytllficloadncfaa.ref14
open Go.ChangeShapes Go.WideShapes Go.ChangeAt Go.RowKit
open lx ab mem abr
set_option linter.unusedVariables false
set_option maxRecDepth 100000

def EHead (n : Nat) (w : World) (i : Value) (W : World) : Prop := ∃ k d : Nat, k ≤ n ∧ i = .int .i64 k ∧ W = w.drewN d
theorem ints_lit (W : World) (l : List Int) (cs : Array Value) (hcs : cs = (l.map (Value.int .i64)).toArray) : Ints (W.alloc (.cells cs 3)) (some ⟨W.heap.size, 0, none⟩) l := by
  intro hl
  refine ⟨W.heap.size, 0, rfl, by simp, fun k hk => ?_⟩
  rw [cell_of_row _ W.heap.size (0 + k) cs 3 (0, 0) (heap_alloc_new W _), hcs]
  simp [hk]
end Go.Proofs.Ytllficloadncfaa.ref14

/-
  What the document's own Right, At and Pool of layer 14 answer: the same as the plain functions of rows of bytes. Conditions: texts are no longer than an int can tell; of Pool: there are at most a hundred names.
-/
namespace Go.Proofs.Ytllficloadncfaa.ref14
open Go.ChangeShapes Go.WideShapes Go.ChangeAt Go.RowKit
open lx ab mem abr
set_option linter.unusedVariables false
set_option maxRecDepth 100000

/-! Right -/
theorem rt_len {s : ByteArray} (h : alB s s.size) : rt (L s) = (decide (3 ≤ s.size) && decide (s.size ≤ 16)) := by
  rw [Bool.eq_iff_iff]
  simp only [Bool.and_eq_true, decide_eq_true_eq]
  constructor
  · intro k
    have := (rt_iff _).1 k
    exact ⟨this.1, this.2.1⟩
  · rintro ⟨h1, h2⟩
    exact rt_yes h1 h2 h
theorem ret_b {a b : Bool} (h : a = b) : Ending.returned (.bool a) = .returned (.bool b) := by rw [h]
set_option maxHeartbeats 4000000 in
theorem right_at (s : ByteArray) (w : World) (hs : s.size ≤ 9223372036854775807) : Calls Try.prog 44 #[.string s] w fun e w' => e = .returned (.bool (rt (L s))) ∧ w = w' := by
  go_enter Try.func44, Try.ntmps44
  go_wp2
  go_loop [3] (fun t => RHead s t) (fun t => s.size - (intOf t).toNat)
  case atStart => exact ⟨0, by omega, rfl, fun j hj => absurd hj (Nat.not_lt_zero _)⟩
  case round =>
    obtain ⟨k, hk, rfl, ha⟩ := hrel
    by_cases hlt : k < s.size
    · have b1 := bt_at s k hlt
      have b2 := bt_lt s k
      have RY : Hid (nmB (bt s k) = true → RHead s (.int .i64 ((k : Int) + 1))) := fun hq => ⟨k + 1, hlt, rfl, fun j hj => by
          rcases Nat.lt_or_ge j k with h | h
          · exact ha j h
          · obtain rfl : j = k := by omega
            exact hq⟩
      have RN := Lib.hid (rt_no (s := s) hlt)
      have NA := nm_all (bt s k)
      clear ha
      generalize bt s k = c at *
      rcases NA with ⟨h1, h2, e⟩ | ⟨h1, h2, e⟩ | ⟨h1, h2, e⟩ | ⟨h1, e⟩ | ⟨h1, e⟩ | ⟨h, e⟩
      case inr.inr.inr.inr.inr =>
        have R := Lib.hid (RN.out e)
        have n1 : (((c : Nat) : Int) != 43) = true := by simp; omega
        have n2 : (((c : Nat) : Int) != 45) = true := by simp; omega
        clear RY RN e
        rcases h with h | h | h | h | ⟨h1, h2⟩ | ⟨h1, h2⟩ | h
        all_goals
          go_wp2
          all_goals first
            | (go_ret; exact ⟨by rw [R.out]; rfl, rfl⟩)
            | (exfalso; simp only [Bool.not_eq_false', decide_eq_true_eq] at *; omega)
      all_goals
        have R := Lib.hid (RY.out e)
        clear RY RN e
        go_wp2
        go_round
        case rel => exact R.out
        case measure => simp [intOf]; omega
    · obtain rfl : k = s.size := by omega
      have RL := Lib.hid (rt_len ha)
      clear ha
      by_cases h1 : s.size < 3
      · go_wp2
        go_ret
        exact ⟨ret_b (by rw [RL.out]; simp; omega), rfl⟩
      · by_cases h2 : 16 < s.size
        · go_wp2
          go_ret
          exact ⟨ret_b (by rw [RL.out, Bool.eq_iff_iff]; simp only [Bool.and_eq_true, decide_eq_true_eq]; omega), rfl⟩
        · go_wp2
          go_ret
          exact ⟨ret_b (by rw [RL.out, Bool.eq_iff_iff]; simp only [Bool.and_eq_true, decide_eq_true_eq]; omega), rfl⟩

/-! At -/
theorem cut_first {s : ByteArray} {n i : Nat} (hn : n ≤ i) (hi : i < s.size) (h : ∀ j, n ≤ j → j < i → bt s j ≠ 0) (h0 : bt s i = 0) : cutZ ((L s).drop n) = some (L (s.extract n i)) := by
  have e0 : (L s).length = s.size := rfl
  rw [L_ext]
  have hb : ∀ j, j < s.size → ((L s)[j]?).map UInt8.toNat = some (bt s j) := fun j hj => by
    unfold bt
    rw [List.getD_eq_getElem?_getD, List.getElem?_eq_getElem (by omega)]
    rfl
  have e : (L s).drop n = ((L s).drop n).take (i - n) ++ 0 :: (L s).drop (i + 1) := by
    conv => lhs; rw [← List.take_append_drop (i - n) ((L s).drop n)]
    rw [List.drop_drop, show n + (i - n) = i by omega, List.drop_eq_getElem_cons (by omega : i < (L s).length)]
    congr 2
    have := hb i hi
    rw [List.getElem?_eq_getElem (by omega), h0] at this
    simp at this
    exact UInt8.toNat_inj.1 this
  have no : ∀ c ∈ ((L s).drop n).take (i - n), c ≠ 0 := by
    intro c hc k
    subst k
    obtain ⟨j, hj, he⟩ := List.getElem_of_mem hc
    have hj2 : j < i - n := by rw [List.length_take] at hj; omega
    rw [List.getElem_take, List.getElem_drop] at he
    have := hb (n + j) (by omega)
    rw [List.getElem?_eq_getElem (by omega), he] at this
    exact h (n + j) (by omega) (by omega) (by simpa using this.symm)
  rw [e, cut_name no, List.take_left' (by rw [List.length_take, List.length_drop]; omega)]
theorem cut_none {s : ByteArray} {n : Nat} (h : ∀ j, n ≤ j → j < s.size → bt s j ≠ 0) : cutZ ((L s).drop n) = none := by
  have e0 : (L s).length = s.size := rfl
  unfold cutZ
  refine if_neg fun hc => ?_
  obtain ⟨j, hj, he⟩ := List.getElem_of_mem hc
  rw [List.length_drop] at hj
  rw [List.getElem_drop] at he
  refine h (n + j) (by omega) (by omega) ?_
  unfold bt
  rw [List.getD_eq_getElem?_getD, List.getElem?_eq_getElem (by omega), he]
  rfl
def AHead (s : ByteArray) (n : Nat) (i : Value) : Prop := ∃ k : Nat, n ≤ k ∧ k ≤ s.size ∧ i = .int .i64 (k : Nat) ∧ ∀ j, n ≤ j → j < k → bt s j ≠ 0
set_option maxHeartbeats 4000000 in
theorem at_at (s : ByteArray) (a : Int) (ha : -9223372036854775808 ≤ a ∧ a ≤ 9223372036854775807) (W : World) (hs : s.size < 4294967281) : Calls Try.prog 35 #[.string s, .int .i64 a] W (ATold s a W) := by
  have e : (L s).length = s.size := rfl
  by_cases h1 : a < 0
  · have R := Lib.hid (atold_no (s := s) (a := a) (W := W) (W' := W) (aT_out (by omega)) (Below.refl _ _))
    clear e
    go_enter Try.func35, Try.ntmps35
    go_wp2
    go_ret2
    exact R.out
  · by_cases h2 : (s.size : Int) ≤ a
    · have R := Lib.hid (atold_no (s := s) (a := a) (W := W) (W' := W) (aT_out (by omega)) (Below.refl _ _))
      clear e
      go_enter Try.func35, Try.ntmps35
      go_wp2
      go_ret2
      exact R.out
    · obtain ⟨n, rfl⟩ : ∃ n : Nat, a = n := ⟨a.toNat, by omega⟩
      have hn : n < s.size := by omega
      have hE := Lib.hid (aT_in (l := L s) (n := n) hn)
      clear e h1 h2
      go_enter Try.func35, Try.ntmps35
      go_wp2
      go_loop [6] (fun i => AHead s n i) (fun i => s.size - (intOf i).toNat)
      case atStart => exact ⟨n, Nat.le_refl _, by omega, rfl, fun j h1 h2 => by omega⟩
      case round =>
        obtain ⟨k, hnk, hk, rfl, hall⟩ := hrel
        by_cases hlt : k < s.size
        · have b1 := bt_at s k hlt
          have b2 := bt_lt s k
          by_cases hz : bt s k = 0
          · have cf := cut_first hnk hlt hall hz
            have hE := hE.out
            rw [cf] at hE
            simp only at hE
            rw [hz] at b1
            have hsl := fun W => lines.sl_run W s n k (k : Int) rfl (by omega) (by omega)
            have hX : (s.extract n k).size ≤ 9223372036854775807 := by
              have e2 : (L s).length = s.size := rfl
              rw [← L_len, L_ext]; simp; omega
            have RI := Lib.hid (fun W => right_at (s.extract n k) W hX)
            cases hq : rt (L (s.extract n k)) with
            | false =>
              rw [if_neg (by rw [hq]; decide)] at hE
              rw [hq] at RI
              have R := Lib.hid (atold_no (s := s) (a := n) (W := W) (W' := W) hE (Below.refl _ _))
              clear hE hall cf hz hq hX b2
              generalize s.extract n k = x at *
              go_wp2_with (go_at_call 44; (with_reducible refine (RI.out _).mono ?_); rintro e w' ⟨rfl, rfl⟩)
              go_ret2
              exact R.out
            | true =>
              rw [if_pos hq] at hE
              rw [hq] at RI
              have R := Lib.hid (atold_yes (s := s) (a := n) (W := W) (W' := W) hE (Below.refl _ _))
              clear hE hall cf hz hq hX b2
              generalize s.extract n k = x at *
              go_wp2_with (go_at_call 44; (with_reducible refine (RI.out _).mono ?_); rintro e w' ⟨rfl, rfl⟩)
              go_ret2
              exact R.out
          · have R : Hid (AHead s n (.int .i64 ((k : Int) + 1))) := ⟨k + 1, by omega, hlt, rfl, fun j h1 h2 => by
              rcases Nat.lt_or_ge j k with h | h
              · exact hall j h1 h
              · obtain rfl : j = k := by omega
                exact hz⟩
            clear hall hE
            go_wp2
            go_round
            case rel => exact R.out
            case measure => simp [intOf]; omega
        · obtain rfl : k = s.size := by omega
          have hE := hE.out
          rw [cut_none hall] at hE
          have R := Lib.hid (atold_no (s := s) (a := n) (W := W) (W' := W) hE (Below.refl _ _))
          clear hall hE
          go_wp2
          go_ret2
          exact R.out
end Go.Proofs.Ytllficloadncfaa.ref14

/-
  What the document's own Pool of layer 14 answers: the same as the plain function. Condition: there are at most a hundred names, and each is no longer than an int can tell.
-/
namespace Go.Proofs.Ytllficloadncfaa.ref14
open Go.ChangeShapes Go.WideShapes Go.ChangeAt Go.RowKit
open lx ab mem abr
set_option linter.unusedVariables false
set_option maxRecDepth 100000

def QHead (X : List ByteArray) (w : World) (p o i : Value) (W : World) : Prop :=
  ∃ (j : Nat) (u : Value), j ≤ X.length ∧ p = .string (B (pl (dst ((X.take j).map L)))) ∧ u = o ∧ i = .int .i64 (j : Nat) ∧ (∀ y ∈ (X.take j).map L, rt y = true) ∧ IOwn w.heap.size W u (((X.take j).map L).map fun y => (st y (dst ((X.take j).map L)) : Int)) ∧ (pl (dst ((X.take j).map L))).length ≤ 17 * j ∧ Below w.heap.size w W
/-- where a name was, as far as it was looked for. -/
def aw (X : List ByteArray) (x : ByteArray) (i t : Nat) : Int := if L x ∈ (X.take t).map L then (st (L x) (dst ((X.take i).map L)) : Int) else -1
def KHead (X : List ByteArray) (x : ByteArray) (i : Nat) (w W0 : World) (a k : Value) (W : World) : Prop := ∃ t : Nat, t ≤ i ∧ a = .int .i64 (aw X x i t) ∧ k = .int .i64 (t : Nat) ∧ Below w.heap.size w W ∧ Below W0.heap.size W0 W
theorem aw_same {X : List ByteArray} {x : ByteArray} {i t : Nat} (ht : t < X.length) (h : X[t] = x) : aw X x i (t + 1) = (st (L X[t]) (dst ((X.take i).map L)) : Int) := by
  unfold aw
  rw [take_snoc ht, if_pos (by simp [h]), h]
theorem aw_other {X : List ByteArray} {x : ByteArray} {i t : Nat} (ht : t < X.length) (h : X[t] ≠ x) : aw X x i (t + 1) = aw X x i t := by
  unfold aw
  rw [take_snoc ht]
  have : L x ∈ (X.take t).map L ++ [L X[t]] ↔ L x ∈ (X.take t).map L := by
    rw [List.mem_append, List.mem_singleton]
    constructor
    · rintro (k | k)
      · exact k
      · exact absurd (L_inj k).symm h
    · exact .inl
  by_cases k : L x ∈ (X.take t).map L
  · rw [if_pos (this.2 k), if_pos k]
  · rw [if_neg (fun q => k (this.1 q)), if_neg k]
theorem ints_own_n {w : World} {base : Nat} {v : Value} {l : List Int} (h : IOwn base w v l) {n : Nat} (hn : l.length = n) : ∃ A c, v = .slice A n c ∧ Ints w A l := by
  subst hn
  obtain ⟨A, c, e, hi, _⟩ := ints_own h
  exact ⟨A, c, e, hi⟩
theorem name_on (X : List ByteArray) (x : ByteArray) : B (pl (dst (X.map L))) ++ x ++ ⟨#[0]⟩ = B (pl (dst (X.map L)) ++ L x ++ [0]) := by
  rw [← B_app, ← B_app, B_L]
  rfl
set_option maxRecDepth 100000 in
set_option maxHeartbeats 8000000 in
theorem pool_at (X : List ByteArray) (A : Option Addr) (cap : Nat) (w : World) (hS : lines.Strs w A X) (hn : X.length ≤ 100) (hz : ∀ x ∈ X, x.size ≤ 9223372036854775807) : Calls Try.prog 16 #[.slice A X.length cap] w (PTold (X.map L) w) := by
  have HZ := Lib.hid hz
  clear hz
  go_enter Try.func16, Try.ntmps16
  go_wp2
  go_loopw [5, 6, 7] (fun p o i W => QHead X w p o i W) (fun _ _ i _ => X.length - (intOf i).toNat)
  case atStart => exact ⟨0, _, Nat.zero_le _, rfl, rfl, rfl, by simp, World.ownsRow_nil w _ _ _, by simp [dst, pl], Below.refl _ _⟩
  case round =>
    obtain ⟨i, u, hi, rfl, rfl, rfl, hr, ho, hl, hb⟩ := hrel
    by_cases hlt : i < X.length
    · obtain ⟨g, o, rfl, hgl, hcell⟩ := hS (by intro e; rw [e] at hlt; simp at hlt)
      have CE := Lib.hid (fun W (hb : Below w.heap.size w W) k (hk : k < X.length) => (hb.cell (p := ⟨g, o + k, none⟩) hgl).trans (hcell k hk))
      have hxz := HZ.out _ (List.getElem_mem hlt)
      have hsn := take_snoc hlt
      have BR := Lib.hid (bad_right hlt)
      have CI := Lib.hid (fun W hb => CE.out W hb i hlt)
      have AS := Lib.hid (fun t (ht : t < X.length) (h : X[t]'ht = X[i]'hlt) => aw_same (i := i) ht h)
      have AO := Lib.hid (fun t (ht : t < X.length) (h : X[t]'ht ≠ X[i]'hlt) => aw_other (i := i) ht h)
      generalize hx : X[i]'hlt = x at *
      have RI := Lib.hid (fun W => right_at x W hxz)
      have ci := CI.out wr hb
      cases hq : rt (L x) with
      | false =>
        rw [hq] at RI
        have R := Lib.hid (pown_told (ptold_no (BR.out hq) hb))
        clear hr ho hl hcell hsn BR CE CI AS AO hq hx hgl hS hxz
        go_wp2_with (go_at_call 44; (with_reducible refine (RI.out _).mono ?_); rintro e w' ⟨rfl, rfl⟩)
        go_ret3
        exact R.out
      | true =>
        rw [hq] at RI
        have hxs : x.size ≤ 16 := ((rt_iff _).1 hq).2.1
        have hYl : (((X.take i).map L).map fun y => (st y (dst ((X.take i).map L)) : Int)).length = i := by rw [List.length_map, List.length_map, List.length_take]; omega
        obtain ⟨A2, c2, rfl, hi2⟩ := ints_own_n ho hYl
        have C2 : Hid (∀ W, Below wr.heap.size wr W → ∀ k, (hk : k < i) → ∃ g o, A2 = some ⟨g, o, none⟩ ∧ W.cell? ⟨g, o + k, none⟩ = some (.int .i64 (st (L (X[k]'(Nat.lt_trans hk hlt))) (dst ((X.take i).map L)) : Nat))) := fun W hW k hk => by
          obtain ⟨g, o, e1, e2, e3⟩ := hi2.below hW (by intro e; rw [e] at hYl; simp at hYl; omega)
          refine ⟨g, o, e1, ?_⟩
          rw [e3 k (by omega)]
          simp
        have I0 : Hid (KHead X x i w wr (.int .i64 (-1)) (.int .i64 0) wr) := ⟨0, Nat.zero_le _, rfl, rfl, hb, Below.refl _ _⟩
        have HO := Lib.hid ho
        have HL : Hid ((((X.take i).map L).map fun y => (st y (dst ((X.take i).map L)) : Int)).length < 8000000000) := by show _ < _; rw [hYl]; omega
        have hps : (B (pl (dst ((X.take i).map L)))).size ≤ 17 * i := by rw [B_size]; exact hl
        have HPL : Hid ((B (pl (dst ((X.take i).map L)))).size = (pl (dst ((X.take i).map L))).length) := B_size _
        have RR : Hid (∀ y ∈ (X.take (i + 1)).map L, rt y = true) := fun y hy => by
          rw [hsn] at hy
          rcases List.mem_append.1 hy with k | k
          · exact hr y k
          · rw [List.mem_singleton.1 k]; exact hq
        have RH : Hid (L x ∈ (X.take i).map L → ∀ v' W1, IOwn w.heap.size W1 v' ((((X.take i).map L).map fun y => (st y (dst ((X.take i).map L)) : Int)) ++ [(st (L x) (dst ((X.take i).map L)) : Int)]) → Below w.heap.size w W1 → QHead X w (.string (B (pl (dst ((X.take i).map L))))) v' (.int .i64 ((i : Int) + 1)) W1) := fun hin v' W1 h1 h2 => by
          have ed : dst ((X.take (i + 1)).map L) = dst ((X.take i).map L) := by rw [hsn, dst_snoc, nx_had ((dst_mem _ _).2 hin)]
          refine ⟨i + 1, v', hlt, by rw [ed], rfl, rfl, RR.out, ?_, by rw [ed]; omega, h2⟩
          rw [hsn, at_snoc, nx_had ((dst_mem _ _).2 hin)]
          exact h1
        have RW : Hid (L x ∉ (X.take i).map L → ∀ v' W1, IOwn w.heap.size W1 v' ((((X.take i).map L).map fun y => (st y (dst ((X.take i).map L)) : Int)) ++ [((pl (dst ((X.take i).map L))).length : Int)]) → Below w.heap.size w W1 → QHead X w (.string (B (pl (dst ((X.take i).map L))) ++ x ++ ⟨#[0]⟩)) v' (.int .i64 ((i : Int) + 1)) W1) := fun hin v' W1 h1 h2 => by
          have hin2 : L x ∉ dst ((X.take i).map L) := fun k => hin ((dst_mem _ _).1 k)
          have ed : dst ((X.take (i + 1)).map L) = dst ((X.take i).map L) ++ [L x] := by rw [hsn, dst_snoc, nx_new hin2]
          refine ⟨i + 1, v', hlt, by rw [ed, pl_snoc, name_on], rfl, rfl, RR.out, ?_, ?_, h2⟩
          · rw [hsn, at_snoc, nx_new hin2, st_new hin2]
            exact h1
          · rw [ed, pl_snoc, List.length_append, List.length_append, L_len, List.length_singleton]
            omega
        clear hr ho hl hcell hsn BR hq hi2 hYl RR hS hxz
        generalize (((X.take i).map L).map fun y => (st y (dst ((X.take i).map L)) : Int)) = ns at *
        generalize B (pl (dst ((X.take i).map L))) = P at *
        generalize wr = W0 at *
        go_wp2_with (go_at_call 44; (with_reducible refine (RI.out _).mono ?_); rintro e w' ⟨rfl, rfl⟩)
        go_loopw [8, 9] (fun a k W => KHead X x i w W0 a k W) (fun _ k _ => i - (intOf k).toNat)
        case atStart => exact I0.out
        case round =>
          clear I0 ci
          obtain ⟨t, ht, rfl, rfl, hb3, hb0⟩ := hrel
          have ci := CI.out wr hb3
          by_cases htl : t < i
          · have ct := CE.out wr hb3 t (by omega)
            have htx : t < X.length := by omega
            have exy := beq_s (X[t]'htx) x
            cases hd : decide (X[t]'htx = x) with
            | true =>
              rw [hd] at exy
              have ea := AS.out t htx (of_decide_eq_true hd)
              obtain ⟨g2, o2, rfl, hc2⟩ := C2.out wr hb0 t htl
              have R : Hid (∀ W, Below w.heap.size w W → Below W0.heap.size W0 W → KHead X x i w W0 (.int .i64 (st (L (X[t]'htx)) (dst ((X.take i).map L)) : Nat)) (.int .i64 ((t : Int) + 1)) W) := fun W h1 h2 => ⟨t + 1, htl, by rw [ea], rfl, h1, h2⟩
              clear ea hd CE AS AO C2 RH RW hx HO
              generalize ((st (L (X[t]'htx)) (dst ((X.take i).map L)) : Nat) : Int) = av at *
              generalize X[t]'htx = y at *
              go_wp2
              go_quiet (fail)
              go_wp2
              go_roundw
              case rel => exact R.out _ (bel_drewN hb3 _) (bel_drewN hb0 _)
              case measure => simp [intOf]; omega
            | false =>
              rw [hd] at exy
              have ea := AO.out t htx (of_decide_eq_false hd)
              have R : Hid (∀ W, Below w.heap.size w W → Below W0.heap.size W0 W → KHead X x i w W0 (.int .i64 (aw X x i t)) (.int .i64 ((t : Int) + 1)) W) := fun W h1 h2 => ⟨t + 1, htl, by rw [ea], rfl, h1, h2⟩
              clear ea hd CE AS AO C2 RH RW hx HO
              generalize aw X x i t = av at *
              generalize X[t]'htx = y at *
              go_wp2
              go_quiet (fail)
              go_wp2
              go_roundw
              case rel => exact R.out _ (bel_drewN hb3 _) (bel_drewN hb0 _)
              case measure => simp [intOf]; omega
          · obtain rfl : t = i := by omega
            have HB := Lib.hid hb3
            have HOW : Hid (IOwn w.heap.size wr (.slice A2 t c2) ns) := bldr.row_keep HO.out hb0
            by_cases hin : L x ∈ (X.take t).map L
            · have ea : aw X x t t = (st (L x) (dst ((X.take t).map L)) : Int) := if_pos hin
              rw [ea]
              have R := Lib.hid (RH.out hin)
              clear ea CE AS AO C2 RH RW hx hin HO
              generalize st (L x) (dst ((X.take t).map L)) = av at *
              go_wp2_with (at_builtin; refine app_int rfl _ _ rfl w.heap.size wr (.slice A2 t c2) ns (av : Int) rfl rfl HOW.out HL.out HB.out.size ?_; intro v' w1 ho' hg)
              go_roundw
              case rel => exact R.out _ _ ho' (iown_below HOW.out HB.out HB.out.size hg)
              case measure => simp [intOf]; omega
            · have ea : aw X x t t = -1 := if_neg hin
              rw [ea]
              have R := Lib.hid (RW.out hin)
              rw [← HPL.out] at R
              clear ea CE AS AO C2 RH RW hx hin HO HPL
              go_wp2_with (at_builtin; refine app_int rfl _ _ rfl w.heap.size wr (.slice A2 t c2) ns (P.size : Int) rfl rfl HOW.out HL.out HB.out.size ?_; intro v' w1 ho' hg)
              go_roundw
              case rel => exact R.out _ _ ho' (iown_below HOW.out HB.out HB.out.size hg)
              case measure => simp [intOf]; omega
    · obtain rfl : i = X.length := by omega
      rw [List.take_length] at hr ho hl
      rw [List.take_length]
      have hz : (B (pl (dst (X.map L)))).size = (pl (dst (X.map L))).length := B_size _
      by_cases hle : (pl (dst (X.map L))).length ≤ 256
      · have R := Lib.hid (pown_told (ptold_yes ((ok_iff _).2 ⟨hr, hle⟩) hb ho))
        rw [← hz] at hle
        clear hr ho hl hz hS
        generalize B (pl (dst (X.map L))) = P at *
        go_wp2
        go_ret3
        exact R.out
      · have hok : okB (X.map L) = false := by
          rw [← Bool.not_eq_true, ok_iff]
          exact fun k => hle k.2
        have R := Lib.hid (pown_told (ptold_no hok hb))
        rw [← hz] at hle
        clear hr ho hl hz hS hok
        generalize B (pl (dst (X.map L))) = P at *
        go_wp2
        go_ret3
        exact R.out
end Go.Proofs.Ytllficloadncfaa.ref14
