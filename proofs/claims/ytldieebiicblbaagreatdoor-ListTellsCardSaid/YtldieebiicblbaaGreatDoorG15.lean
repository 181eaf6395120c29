/-
  What list.Hash answers: the digest of what is hashed of a list. Conditions: the library's variable MaxLen holds some number, package sha's variable start what its initialiser lays; the text has at most 300000 bytes.
-/
import Derived.Test.YtldieebiicblbaaGreatDoorG14
import Derived.Test.YtldieebiicblbaaGreatDoorG08
import Derived.Test.YtldieebiicblbaaGreatDoorG07
namespace Go.Proofs.YtldieebiicblbaaGreatDoor.list
open Go.ChangeShapes Go.WideShapes Go.ChangeAt Go.RowKit
open lx ls mem
open sha (nats)
open sx (cs dig sumV)
set_option linter.unusedVariables false
set_option maxRecDepth 100000

/-! how long things are -/
theorem trim_le (l : List UInt8) : (trim l).length ≤ l.length := by
  unfold trim Lib.trimSuffix
  split
  · simp
  · exact Nat.le_refl _
theorem spl_tot : ∀ (l cur : List UInt8), tot (spl cur l) ≤ cur.length + l.length
  | [], cur => by
    by_cases h : cur = []
    · subst h; simp [spl_end0, tot]
    · rw [spl_end h]
      have := trim_le cur
      simp only [tot, List.length_nil]
      omega
  | c :: l, cur => by
    by_cases h : c = 10
    · subst h
      rw [spl_lf]
      have := spl_tot l []
      have := trim_le cur
      simp only [tot, List.length_cons, List.length_nil] at *
      omega
    · rw [spl_no h]
      have := spl_tot l (cur ++ [c])
      simp only [List.length_cons, List.length_append, List.length_nil] at *
      omega
theorem mem_tot : ∀ {ls : List (List UInt8)} {x : List UInt8}, x ∈ ls → x.length ≤ tot ls
  | y :: r, x, h => by
    rcases List.mem_cons.1 h with rfl | h
    · rw [tot]; omega
    · rw [tot]; have := mem_tot h; omega
theorem flat_tot : ∀ ls : List (List UInt8), ls.flatten.length = tot ls
  | [] => rfl
  | x :: r => by rw [List.flatten_cons, List.length_append, tot, flat_tot r]
theorem wds_le (l : List UInt8) : tot (wds [] l) ≤ l.length := by
  have := wds_tot l []
  simp only [List.length_nil] at this
  omega
theorem sd_le (k : Nat) (l : List UInt8) : (sd k l).length ≤ l.length := by
  unfold sd
  split
  · exact (List.takeWhile_sublist _).length_le
  · rw [List.length_drop]; omega
theorem hw_le (k : Nat) (l : List UInt8) : (hw k l).length ≤ l.length := by
  unfold hw
  split
  · rw [flat_tot]
    have := wds_le (sd k l)
    have := sd_le k l
    unfold ws
    omega
  · simp
theorem hs1_le (k : Nat) : ∀ ls : List (List UInt8), (hs1 k ls).length ≤ tot ls
  | [] => by simp [hs1]
  | x :: r => by
    have := hs1_le k r
    have := hw_le k x
    unfold hs1 at *
    rw [List.flatMap_cons, List.length_append, tot]
    omega
theorem hsh_le (ls : List (List UInt8)) : (hsh ls).length ≤ 3 * tot ls := by
  have := hs1_le 1 ls
  have := hs1_le 2 ls
  have := hs1_le 5 ls
  unfold hsh
  rw [List.length_append, List.length_append]
  omega
theorem hs1_snoc (k : Nat) (ls : List (List UInt8)) (x : List UInt8) : hs1 k (ls ++ [x]) = hs1 k ls ++ hw k x := by
  unfold hs1
  rw [List.flatMap_append]
  simp
theorem line_size {s x : ByteArray} (h : x ∈ splitS s) : x.size ≤ s.size := by
  obtain ⟨y, hy, rfl⟩ := List.mem_map.1 h
  rw [B_size]
  have := mem_tot hy
  have := spl_tot (L s) []
  simp only [List.length_nil, L_len] at this
  omega
theorem lines_len (s : ByteArray) : (splitS s).length ≤ s.size := by
  unfold splitS
  rw [List.length_map]
  have := spl_len (L s) []
  simp only [List.length_nil, L_len] at this
  omega
theorem kd_two {s : ByteArray} (h : kd (L s) = 1 ∨ kd (L s) = 2) : 2 ≤ s.size := by
  unfold kd at h
  rw [← L_len]
  split at h
  · omega
  split at h
  · rename_i e
    have := congrArg List.length e
    rw [List.length_take] at this
    simp at this
    omega
  split at h
  · rename_i e
    have := congrArg List.length e
    rw [List.length_take] at this
    simp at this
    omega
  split at h
  · omega
  split at h <;> omega

/-! the words of a line -/
theorem rwords {k : Nat} {x : ByteArray} {w w' : World} {e : Ending} (h : RTold k (L x) w e w') (hk : kd (L x) = k) : ∃ A c Y V b, e = .returned (.tuple #[.slice A (List.length Y) c, V, .bool b]) ∧ lines.Strs w' A Y ∧ Below w.heap.size w w' ∧
    (∀ y ∈ Y, 0 < y.size ∧ y.size ≤ x.size) ∧ Y.length ≤ 2 ∧ (∀ i, Kind i → hw i (L x) = if i = k then (Y.map L).flatten else []) ∧ (Y ≠ [] → Kind k) ∧ ∀ b o, A = some ⟨b, o, none⟩ → w.heap.size ≤ b := by
  obtain ⟨hb, h⟩ := h
  rcases h with ⟨hK, hr, A, c, M, m, rfl, hS, hI, hf⟩ | ⟨hn, rfl⟩
  · refine ⟨A, c, wsB k (L x), _, _, rfl, hS, hb, fun y hy => ?_, ?_, fun i _ => ?_, fun _ => hK, hf⟩
    · obtain ⟨z, hz, rfl⟩ := List.mem_map.1 hy
      rw [B_size]
      have h1 := wds_word (sd k (L x)) [] (by simp) z hz
      have h2 := mem_tot hz
      have h3 := wds_le (sd k (L x))
      have h4 := sd_le k (L x)
      have h5 : (L x).length = x.size := rfl
      unfold ws at h2
      refine ⟨List.length_pos_iff.2 h1.1, by omega⟩
    · unfold rk at hr
      rw [Bool.and_eq_true, decide_eq_true_eq] at hr
      unfold wsB
      rw [List.length_map, hr.1]
      unfold cn
      split <;> omega
    · unfold hw
      by_cases e : i = k
      · subst e
        rw [if_pos ⟨hk, hr⟩, if_pos rfl]
        unfold wsB
        rw [List.map_map]
        congr 1
        rw [show (L ∘ B) = id from funext fun l => L_B l, List.map_id]
      · rw [if_neg e, if_neg (fun h => e (h.1.symm.trans hk))]
  · refine ⟨none, 0, [], _, _, rfl, fun h => absurd rfl h, hb, fun y hy => by simp at hy, by simp, fun i hi => ?_, fun h => absurd rfl h, fun b o e => by cases e⟩
    unfold hw
    by_cases e : i = k
    · subst e
      by_cases hr : rk i (L x) = true
      · exact absurd ⟨hi, hr⟩ hn
      · rw [if_neg (fun h => hr h.2), if_pos rfl]; rfl
    · rw [if_neg e, if_neg (fun h => e (h.1.symm.trans hk))]

/-! the rounds -/
/-- at the head of a round over the lines. -/
def OHead (X : List ByteArray) (A : Option Addr) (Wa : World) (m : Nat) (t : Value) (W : World) : Prop :=
  ∃ (j : Nat) (D : DataW Unit), t = .int .i64 (j : Nat) ∧ j ≤ X.length ∧ Grp m (j * 4000000) D W ∧ W.Shuns m (Blk A) ∧ GR (fun i => nats (hs1 i ((X.take j).map L))) D ∧ Below m Wa W ∧ lines.Strs W A X ∧ m + 1 ≤ W.heap.size
/-- at the head of a round over a line's words. -/
def IHead (X : List ByteArray) (A : Option Addr) (Wa : World) (m N0 : Nat) (f : Nat → List Nat) (K : Nat) (Y : List ByteArray) (A2 : Option Addr) (t : Value) (W : World) : Prop :=
  ∃ (i : Nat) (D : DataW Unit), t = .int .i64 (i : Nat) ∧ i ≤ Y.length ∧ Grp m (N0 + i * 1000000) D W ∧ W.Shuns m (fun g => Blk A g ∨ Blk A2 g) ∧ GR (fun j => if j = K then f j ++ nats ((Y.take i).map L).flatten else f j) D ∧ Below m Wa W ∧ lines.Strs W A X ∧ lines.Strs W A2 Y ∧ m + 1 ≤ W.heap.size
theorem blk_old {W : World} {A : Option Addr} {l : List ByteArray} (h : lines.Strs W A l) (hl : l ≠ []) {g : Nat} (hg : Blk A g) : g < W.heap.size := by
  obtain ⟨b, o, e, hlt, _⟩ := h hl
  obtain ⟨o', e'⟩ := hg
  rw [e] at e'
  cases e'
  exact hlt
theorem ihead_start {X : List ByteArray} {A A2 : Option Addr} {Wa wr w1 w2 : World} {m j K : Nat} {D : DataW Unit} {f : Nat → List Nat} {Y : List ByteArray} (hG : Grp m (j * 4000000) D wr) (hs : wr.Shuns m (Blk A)) (hR : GR f D) (hb : Below m Wa wr) (hS : lines.Strs wr A X) (hm : m + 1 ≤ wr.heap.size)
    (hb1 : Below wr.heap.size wr w1) (hb2 : Below w1.heap.size w1 w2) (hf : ∀ b o, A2 = some ⟨b, o, none⟩ → w1.heap.size ≤ b) (hS2 : lines.Strs w2 A2 Y) : IHead X A Wa m (j * 4000000) f K Y A2 (.int .i64 0) w2 := by
  have hb12 := btr hb1 hb2
  refine ⟨0, D, rfl, Nat.zero_le _, by rw [Nat.zero_mul, Nat.add_zero]; exact grp_below hG hb12, ?_, ?_, hb.trans (hb12.mono (by omega)), hS.below hb12, hS2, Nat.le_trans hm hb12.size⟩
  · refine shuns_below (hs.reno hG (fun g hg => ?_)) (by omega) hb12
    rcases hg with hg | ⟨o, e⟩
    · exact .inl hg
    · exact .inr (Nat.le_trans hb1.size (hf g o e))
  · have e : (fun j => if j = K then f j ++ nats ((Y.take 0).map L).flatten else f j) = f := by
      funext j
      rw [List.take_zero]
      split
      · exact List.append_nil _
      · rfl
    rw [e]
    exact hR
theorem istep {X Y : List ByteArray} {A A2 : Option Addr} {Wa W W1 W5 : World} {m N0 i K : Nat} {D : DataW Unit} {f : Nat → List Nat} {y : ByteArray} {v v' : Value} {zs : List Int} (hi : i < Y.length) (hy : Y[i] = y) (hyl : y.size < 1000000) (hK : Kind K)
    (hGm : Maps.IsMap D) (hs : W.Shuns m (fun g => Blk A g ∨ Blk A2 g)) (hR : GR (fun j => if j = K then f j ++ nats ((Y.take i).map L).flatten else f j) D) (hb : Below m Wa W) (hS : lines.Strs W A X) (hS2 : lines.Strs W A2 Y) (hm : m + 1 ≤ W.heap.size)
    (hA : ∀ b o, A = some ⟨b, o, none⟩ → m < b) (hA2 : ∀ b o, A2 = some ⟨b, o, none⟩ → m < b)
    (hat : D.atKey (kl K) .nil = rowDatum .u8 v zs) (hoi : W.ownsInts (m + 1) 5 .u8 v zs) (hsu : ∀ No : Nat → Prop, W.Shuns m No → ∀ g, v.ownBlock = some g → ¬ No g)
    (hg : W.grownBy W1 v.ownBlock) (hoi' : W1.ownsInts (m + 1) 5 .u8 v' (zs ++ ints (nats (L y))))
    (h5 : Grp m (N0 + i * 1000000 + y.size + 1) (D.put (kl K) (rowDatum .u8 v' (zs ++ ints (nats (L y))))) W5) (hg5 : W1.grownBy W5 (some m)) (hs5 : W5.Shuns m (fun g => Blk A g ∨ Blk A2 g)) :
    IHead X A Wa m N0 f K Y A2 (.int .i64 ((i : Int) + 1)) W5 := by
  have hz := At.get (hR K hK) hat hoi
  have no := hsu _ hs
  refine ⟨i + 1, _, rfl, hi, grp_mono h5 (by omega), hs5, ?_, Below.groups hb hoi hg hg5 (by omega) (by omega) (Nat.le_refl _), ?_, ?_, ?_⟩
  · refine GR.put hR hGm hK.le hoi' ?_ (fun j hj => by rw [if_neg hj, if_neg hj])
    rw [hz]
    simp only [if_true]
    unfold ints
    rw [← List.map_append, List.append_assoc]
    congr 2
    rw [List.take_succ_eq_append_getElem hi, hy, List.map_append, List.flatten_append]
    unfold nats
    rw [List.map_append]
    simp
  · exact strs_grown (strs_grown hS hg (fun b o e k => no b k (.inl ⟨o, e⟩))) hg5 (fun b o e k => by have := hA b o e; cases k; omega)
  · exact strs_grown (strs_grown hS2 hg (fun b o e k => no b k (.inr ⟨o, e⟩))) hg5 (fun b o e k => by have := hA2 b o e; cases k; omega)
  · exact Nat.le_trans hm (Nat.le_trans hg.size hg5.size)
theorem ostep {X Y : List ByteArray} {A A2 : Option Addr} {Wa W : World} {m j K : Nat} {x : ByteArray} (hj : j < X.length) (hx : X[j] = x) (hY : Y.length ≤ 2) (hw' : ∀ i, Kind i → hw i (L x) = if i = K then (Y.map L).flatten else [])
    (h : IHead X A Wa m (j * 4000000) (fun i => nats (hs1 i ((X.take j).map L))) K Y A2 (.int .i64 (Y.length : Nat)) W) : OHead X A Wa m (.int .i64 ((j : Int) + 1)) W := by
  obtain ⟨i, D, ei, hi, hG, hs, hR, hb, hS, hS2, hm⟩ := h
  have ei : i = Y.length := by
    injection ei with _ h
    omega
  subst ei
  refine ⟨j + 1, D, rfl, hj, grp_mono hG (by omega), hs.reno hG (fun g hg => .inl (.inl hg)), ?_, hb, hS, hm⟩
  intro i hi
  have := hR i hi
  simp only at this ⊢
  rw [List.take_of_length_le (Nat.le_refl _)] at this
  rw [List.take_succ_eq_append_getElem hj, hx, List.map_append, List.map_cons, List.map_nil, hs1_snoc, hw' i hi]
  by_cases e : i = K
  · rw [if_pos e] at this ⊢
    unfold nats at *
    rw [List.map_append]
    exact this
  · rw [if_neg e] at this ⊢
    rw [List.append_nil]
    exact this
theorem rd_of {W : World} {base : Nat} {v : Value} {zs : List Int} {l : List Nat} (h : W.ownsInts base 5 .u8 v zs) (hz : zs = ints l) : sha.RdW W v l := by
  subst hz
  refine sha.own_rdW (base := base) ?_
  have := h.1
  unfold ints at this
  rw [List.length_map, List.map_map] at this
  exact this
theorem pts_three {W : World} {v1 v2 v3 : Value} {l1 l2 l3 : List Nat} (h1 : sha.RdW W v1 l1) (h2 : sha.RdW W v2 l2) (h3 : sha.RdW W v3 l3) :
    sha.Pts (W.alloc (.cells #[v1, v2, v3] 62)) (.slice (some ⟨W.heap.size, 0, none⟩) 3 3) [l1, l2, l3] := by
  have hb : Below W.heap.size W (W.alloc (.cells #[v1, v2, v3] 62)) := bal (Below.refl _ _) _
  refine ⟨_, 3, rfl, fun _ => ⟨W.heap.size, 0, rfl, fun k hk => ?_⟩⟩
  have hc := row_cell (hp_new W (.cells #[v1, v2, v3] 62))
  match k, hk with
  | 0, _ => exact ⟨v1, hc 0, h1.below hb⟩
  | 1, _ => exact ⟨v2, hc 1, h2.below hb⟩
  | 2, _ => exact ⟨v3, hc 2, h3.below hb⟩

theorem ostart (w : World) (o : Obj) {X : List ByteArray} {A : Option Addr} {W1 : World} (hb1 : Below ((w.alloc o).alloc (.map #[] 0)).heap.size ((w.alloc o).alloc (.map #[] 0)) W1) (hS : lines.Strs W1 A X)
    (hf : ∀ b p, A = some ⟨b, p, none⟩ → ((w.alloc o).alloc (.map #[] 0)).heap.size ≤ b) :
    ∃ Wa, OHead X A Wa (w.heap.size + 1) (.int .i64 0) W1 ∧ (∀ b p, A = some ⟨b, p, none⟩ → w.heap.size + 1 < b) ∧ (∀ W, Below (w.heap.size + 1) Wa W → Below w.heap.size w W) ∧
      ∀ W, Below (w.heap.size + 1) Wa W → W.heap[w.heap.size]? = some o := by
  have hsz : ((w.alloc o).alloc (.map #[] 0)).heap.size = w.heap.size + 1 + 1 := by simp
  have hG : Grp (w.heap.size + 1) 0 (.map []) ((w.alloc o).alloc (.map #[] 0)) := by
    have := World.ownsGroups_made (H := Unit) (w.alloc o) Tryz.prog 9 5 .u8
    rw [show (w.alloc o).heap.size = w.heap.size + 1 by simp] at this
    exact this
  have hN : World.Shuns ((w.alloc o).alloc (.map #[] 0)) (w.heap.size + 1) (fun _ => False) := by
    have := World.Shuns_made (w.alloc o) (fun _ => False)
    rw [show (w.alloc o).heap.size = w.heap.size + 1 by simp] at this
    exact this
  refine ⟨(w.alloc o).alloc (.map #[] 0), ⟨0, .map [], rfl, Nat.zero_le _, by rw [Nat.zero_mul]; exact grp_below hG hb1, ?_, ?_, hb1.mono (by omega), hS, by have := hb1.size; omega⟩, fun b p e => by have := hf b p e; omega, fun W hb => ?_, fun W hb => ?_⟩
  · exact shuns_below (hN.reno hG (fun g ⟨p, e⟩ => .inr (hf g p e))) (by omega) hb1
  · intro i hi
    left
    refine ⟨rfl, ?_⟩
    simp [hs1, nats]
  · exact (bal (bal (Below.refl _ _) _) _).trans (hb.mono (by omega))
  · rw [hb.block w.heap.size (by omega)]
    exact hp_old (hp_new w o) _
theorem bys_nats (l : List UInt8) : sx.Bys (nats l) := by
  intro x hx
  obtain ⟨c, _, rfl⟩ := List.mem_map.1 hx
  exact c.toNat_lt
set_option maxHeartbeats 4000000 in
theorem hash_at (s : ByteArray) (w : World) (T : lines.ML w) (TS : sha.St w) (hs : s.size ≤ 300000) : Calls Tryz.prog 11 #[.string s] w fun e w' => e = .returned (.agg (cs .u8 (dig (sumV (nats (hsh ((splitS s).map L))))) 20)) ∧ Below w.heap.size w w' := by
  have hl := lines_len s
  have hll : ((splitS s).map L).length = (splitS s).length := List.length_map ..
  have htot : tot ((splitS s).map L) ≤ s.size := by
    have := spl_tot (L s) []
    simp only [List.length_nil, L_len] at this
    unfold splitS
    rw [List.map_map, show (L ∘ B) = id from funext fun l => L_B l, List.map_id]
    omega
  have hsm := hsh_le ((splitS s).map L)
  have LS := Lib.hid (fun (x : ByteArray) (hx : x ∈ splitS s) => line_size hx)
  have SP : Hid (∀ W, Below w.heap.size w W → Calls Tryz.prog 14 #[.string s] W (lines.Told W (splitS s))) := fun W hb => lines.split_at s W (T.below hb) (by omega)
  unfold lines.Told at SP
  generalize splitS s = X at *
  have KI := Lib.hid (fun (x : ByteArray) (hx : x ∈ X) W => kind_at x W (by have := LS.out x hx; omega))
  have RD := Lib.hid (fun (x : ByteArray) (hx : x ∈ X) W (hb : Below w.heap.size w W) => read_at (kd (L x)) x W (T.below hb) (kd_le _) kd_two (by have := LS.out x hx; omega))
  have hmm := @run_makeMap Tryz.prog
  have hz := sha.szc sha.sz20
  go_enter Tryz.func11, Tryz.ntmps11
  go_wp2_with (go_at_call 14; with_reducible refine (SP.out _ (bal (bal (Below.refl _ _) _) _)).mono ?_; rintro e W1 ⟨A, c, rfl, hS, ⟨hc, hf⟩, hb1⟩)
  obtain ⟨Wa, hst, hA, hEX, hZB⟩ := ostart w _ hb1 hS hf
  have EX := Lib.hid hEX
  have ZB := Lib.hid hZB
  have HST := Lib.hid hst
  have HA := Lib.hid hA
  clear hb1 hS hf hEX hZB hst hA hc
  generalize hm0 : w.heap.size + 1 = m at *
  go_loopw [16] (fun t W => OHead X A Wa m t W) (fun t _ => X.length - (intOf t).toNat)
  case atStart => exact HST.out
  case round =>
    generalize wr = Wo at *
    obtain ⟨j, D, rfl, hjn, hG, hsu1, hR, hb, hS, hm⟩ := hrel
    by_cases hlt : j < X.length
    · obtain ⟨b, o, rfl, hbl, hcell⟩ := hS (by intro e; rw [e] at hlt; simp at hlt)
      have c0 := hcell j hlt
      obtain ⟨x, hx⟩ : ∃ x, X[j]'hlt = x := ⟨_, rfl⟩
      rw [hx] at c0
      have hxm : x ∈ X := by rw [← hx]; exact List.getElem_mem hlt
      have hxs := LS.out x hxm
      have K1 := Lib.hid (KI.out x hxm Wo)
      have OST := Lib.hid (fun K Y A2 W hY hw' h => ostep (Wa := Wa) (A := some ⟨b, o, none⟩) (m := m) (W := W) (K := K) (Y := Y) (A2 := A2) hlt hx hY hw' h)
      obtain ⟨K, hK⟩ : ∃ K, kd (L x) = K := ⟨_, rfl⟩
      have R2 : Hid (∀ W, Below w.heap.size w W → Calls Tryz.prog 35 #[.string (kS K), .string x] W fun e w' => ∃ A c Y V b, e = .returned (.tuple #[.slice A (List.length Y) c, V, .bool b]) ∧ lines.Strs w' A Y ∧ Below W.heap.size W w' ∧
          (∀ y ∈ Y, 0 < y.size ∧ y.size ≤ x.size) ∧ Y.length ≤ 2 ∧ (∀ i, Kind i → hw i (L x) = if i = K then (Y.map L).flatten else []) ∧ (Y ≠ [] → Kind K) ∧ ∀ b o, A = some ⟨b, o, none⟩ → W.heap.size ≤ b) := fun W hb => by
        have := RD.out x hxm W hb
        rw [hK] at this
        exact this.mono fun e w' h => rwords h hK
      rw [hK] at K1
      have hE := Lib.hid (EX.out _ hb)
      have IST := Lib.hid (fun w1 w2 A2 Y hb1 hb2 hf hS2 => ihead_start (A2 := A2) (w1 := w1) (w2 := w2) (K := K) (Y := Y) hG hsu1 hR hb hS hm hb1 hb2 hf hS2)
      have d1 : decide ((j : Int) < (X.length : Int)) = true := by simp; omega
      have d2 : decide (j < X.length) = true := by simp; omega
      have HJ : j ≤ 300000 := by omega
      have HAF := Lib.hid (fun (A2 : Option Addr) (w1 : World) (hb1 : Below Wo.heap.size Wo w1) (hf2 : ∀ b o, A2 = some ⟨b, o, none⟩ → w1.heap.size ≤ b) (p q : Nat) (e : A2 = some ⟨p, q, none⟩) => (show m < p from by have := hf2 p q e; have := hb1.size; omega))
      clear hG hsu1 hR hb hS hm hcell LS KI RD hx hxm hK
      go_wp2_with (first
        | (go_at_call 34; with_reducible refine K1.out.mono ?_; rintro e w1 ⟨rfl, hb1⟩; have hE1 := btr hE.out hb1)
        | (go_at_call 35; with_reducible refine (R2.out w1 hE1).mono ?_; rintro e w2 ⟨A2, c2, Y, V, bb, rfl, hS2, hb2, hY, hY2, hwY, hYK, hf2⟩; have HI := Lib.hid (IST.out _ _ _ _ hb1 hb2 hf2 hS2); have HO := Lib.hid (fun W h => OST.out K Y A2 W hY2 hwY h); have HA2 := Lib.hid (HAF.out A2 w1 hb1 hf2)))
      clear hE hE1 hb1 hb2 hf2 hS2 IST OST hwY R2 K1
      generalize Wo = Wo' at *
      go_loopw [31] (fun t W => IHead X (some ⟨b, o, none⟩) Wa m (j * 4000000) (fun i => nats (hs1 i ((X.take j).map L))) K Y A2 t W) (fun t _ => Y.length - (intOf t).toNat)
      case atStart => exact HI.out
      case round =>
        obtain ⟨i, D2, rfl, hin, hG2, hsh2, hR2, hb2, hSX, hSY, hm2⟩ := hrel
        by_cases hlt2 : i < Y.length
        · obtain ⟨b2, o2, rfl, hbl2, hcell2⟩ := hSY (by intro e; rw [e] at hlt2; simp at hlt2)
          have c2 := hcell2 i hlt2
          obtain ⟨y, hy⟩ : ∃ y, Y[i]'hlt2 = y := ⟨_, rfl⟩
          rw [hy] at c2
          have hys := hY y (by rw [← hy]; exact List.getElem_mem hlt2)
          have hKK : Kind K := hYK (by intro e; rw [e] at hlt2; simp at hlt2)
          have HG : Hid (Grp m (j * 4000000 + i * 1000000 + y.size) D2 wr) := grp_mono hG2 (by omega)
          have hNN : j * 4000000 + i * 1000000 + y.size < maxLen := by unfold maxLen; omega
          have hNN0 : j * 4000000 + i * 1000000 < maxLen := Nat.lt_of_le_of_lt (Nat.le_add_right _ _) hNN
          have APP := Lib.hid (fun v zs hoi hzl => app_loc wr (m + 1) 62 v zs y hoi hys.1 (show zs.length + y.size ≤ 8000000000000 from by have : zs.length ≤ j * 4000000 + i * 1000000 + y.size := hzl; omega) hm2)
          have ST := Lib.hid (fun v v' zs W1 W5 hat hoi hsu hg hoi' h5 hg5 hs5 => istep (N0 := j * 4000000) (W1 := W1) (W5 := W5) (v := v) (v' := v') (zs := zs) hlt2 hy (by omega) hKK (grp_map hG2) hsh2 hR2 hb2 hSX hSY hm2 HA.out HA2.out hat hoi hsu hg hoi' h5 hg5 hs5)
          have NO : Hid (∀ (v v' : Value), (∀ No : Nat → Prop, wr.Shuns m No → ∀ g, v.ownBlock = some g → ¬ No g) → (v'.ownBlock = v.ownBlock ∨ ∃ g, v'.ownBlock = some g ∧ wr.heap.size ≤ g) → ∀ g, v'.ownBlock = some g → ¬ (Blk (some ⟨b, o, none⟩) g ∨ Blk (some ⟨b2, o2, none⟩) g)) := by
            intro v v' hsu hloc g hg
            rcases hloc with h | ⟨g', h, hge⟩
            · exact hsu _ hsh2 g (by rw [← h]; exact hg)
            · rw [h] at hg
              cases hg
              rintro (⟨p, e⟩ | ⟨p, e⟩)
              · cases e
                obtain ⟨b', o', e', hlt', _⟩ := hSX (by intro e; rw [e] at hlt; simp at hlt)
                cases e'
                omega
              · cases e
                omega
          have HSH := Lib.hid hsh2
          have e1 : decide ((i : Int) < (Y.length : Int)) = true := by simp; omega
          have e2 : decide (i < Y.length) = true := by simp; omega
          have HL : Hid (∀ v zs, D2.atKey (kl K) .nil = rowDatum .u8 v zs → wr.ownsInts (m + 1) 5 .u8 v zs → (zs ++ ints (nats (L y))).length ≤ j * 4000000 + i * 1000000 + y.size + 1) := fun v zs hat hoi => by
            obtain ⟨v0, zs0, _, hat0, hoi0, hzl0, _⟩ := World.ownsGroups.at (key := .string (kS K)) (kl := kl K) hG2 lawS Tryz.underlying69 (zeroB wr) hNN0 (key_is K)
            have hzz : zs = zs0 := by rw [At.get (hR2 K hKK) hat hoi, At.get (hR2 K hKK) hat0 hoi0]
            rw [List.length_append, hzz]
            unfold ints
            rw [List.length_map, sha.nats_len, L_len]
            omega
          clear hNN0 hG2 hsh2 hR2 hb2 hSX hSY hm2 hcell2 hY hYK HI HO hy
          have hNN := Lib.hid hNN
          go_wp2_with (first
            | (at_lookup; refine wpList_lookup_groups_shuns wr rfl _ _ 69 rfl 9 62 5 .u8 lawS Tryz.underlying69 (zeroB _) (m + 1) m (j * 4000000 + i * 1000000 + y.size) D2 rfl HG.out hNN.out _ (kl K) rfl (key_is K) ?_; intro v zs hat hoi hzl hback hsu; obtain ⟨v', W1, run, hoi', hg', hloc⟩ := APP.out v zs hoi hzl; have BK := Lib.hid hback; have HAT := Lib.hid hat; have HOI := Lib.hid hoi; have HZL := Lib.hid hzl; have HSU := Lib.hid hsu; have HLO := Lib.hid hloc; have HG1 := Lib.hid hg'; have HO1 := Lib.hid hoi'; clear hat hoi hzl hback hsu hloc hg' hoi')
            | (refine list_app rfl _ _ 62 9 rfl _ _ v' W1 rfl rfl run ?_)
            | (at_mapUpdate; refine wpList_mapUpdate_back_shuns _ rfl _ _ _ 69 rfl lawS Tryz.underlying69 (key_is K) HG.out hNN.out HOI.out HSH.out (NO.out v v' HSU.out HLO.out) BK.out rfl rfl rfl HG1.out HO1.out (HL.out v zs HAT.out HOI.out) HLO.out ?_; intro w5 h5 hg5 hs5))
          go_roundw
          case rel => exact ST.out _ _ _ _ _ HAT.out HOI.out HSU.out HG1.out HO1.out h5 hg5 hs5
          case measure => simp [intOf]; omega
        · obtain rfl : i = Y.length := by omega
          have R := Lib.hid (HO.out wr ⟨Y.length, D2, rfl, Nat.le_refl _, hG2, hsh2, hR2, hb2, hSX, hSY, hm2⟩)
          clear hG2 hsh2 hR2 hb2 hSX hSY hm2 hY hYK HI HO
          go_wp2
          go_roundw
          case rel => exact R.out
          case measure => simp [intOf]; omega
    · obtain rfl : j = X.length := by omega
      rw [List.take_of_length_le (Nat.le_refl _)] at hR
      have HF : Hid (∀ i, Kind i → ∀ v zs, D.atKey (kl i) .nil = rowDatum .u8 v zs → Wo.ownsInts (m + 1) 5 .u8 v zs → (∃ A n c, v = .slice A n c) ∧ sha.RdW Wo v (nats (hs1 i (X.map L)))) := fun i hi v zs hat hoi => by
        have h := rd_of hoi (At.get (hR i hi) hat hoi)
        obtain ⟨A, c, e, _⟩ := id h
        exact ⟨⟨A, _, c, e⟩, h⟩
      have HG := Lib.hid hG
      have hNN : Hid (X.length * 4000000 < maxLen) := by show _ < _; unfold maxLen; omega
      have SM : Hid (∀ v1 v2 v5, sha.RdW Wo v1 (nats (hs1 1 (X.map L))) → sha.RdW Wo v2 (nats (hs1 2 (X.map L))) → sha.RdW Wo v5 (nats (hs1 5 (X.map L))) →
          Calls Tryz.prog 36 #[.slice (some ⟨Wo.heap.size, 0, none⟩) 3 3] (Wo.alloc (.cells #[v1, v2, v5] 62)) fun e w' => e = .returned (.agg (cs .u8 (dig (sumV (nats (hsh (X.map L))))) 20)) ∧ Below Wo.heap.size Wo w') := by
        intro v1 v2 v5 h1 h2 h5
        have e : sha.flat [nats (hs1 1 (X.map L)), nats (hs1 2 (X.map L)), nats (hs1 5 (X.map L))] = nats (hsh (X.map L)) := by
          unfold sha.flat hsh nats
          simp
        have hbb : Below Wo.heap.size Wo (Wo.alloc (.cells #[v1, v2, v5] 62)) := bal (Below.refl _ _) _
        have := sha.sum_walk _ _ _ (TS.below (btr (EX.out _ hb) hbb)) (pts_three h1 h2 h5) (fun l hl => ?_) (by rw [e, sha.nats_len]; omega) (by simp)
        · rw [e] at this
          exact this.mono fun e w' ⟨he, hw⟩ => ⟨he, btr hbb hw⟩
        · simp only [List.mem_cons, List.not_mem_nil, or_false] at hl
          rcases hl with rfl | rfl | rfl <;> exact bys_nats _
      have HE := Lib.hid (fun W (h : Below Wo.heap.size Wo W) => (⟨EX.out _ (hb.trans (h.mono (by omega))), ZB.out _ (hb.trans (h.mono (by omega)))⟩ : Below w.heap.size w W ∧ _))
      clear hG hsu1 hR hb hS hm LS KI RD EX ZB HST HA
      have k1 : Kind 1 := .inl rfl
      have k2 : Kind 2 := .inr (.inl rfl)
      have k5 : Kind 5 := .inr (.inr rfl)
      have q1 := key_is 1
      have q2 := key_is 2
      have q5 := key_is 5
      have tok1 : True := trivial
      have tok2 : True := trivial
      have Q1 := Lib.hid q1
      have Q2 := Lib.hid q2
      have Q5 := Lib.hid q5
      clear q1 q2 q5
      obtain ⟨dg, hdg⟩ : ∃ dg, dig (sumV (nats (hsh (X.map L)))) = dg := ⟨_, rfl⟩
      rw [hdg] at SM
      have HDG := Lib.hid hdg
      clear hdg
      go_wp2_with (first
        | (at_lookup; have _t := tok1; refine wpList_lookup_groups Wo rfl _ _ 69 rfl 9 62 5 .u8 lawS Tryz.underlying69 (zeroB _) (m + 1) m (X.length * 4000000) D rfl HG.out hNN.out _ (kl 1) rfl Q1.out ?_; intro v1 zs1 hat hoi hzl _; obtain ⟨⟨_, _, _, rfl⟩, x1⟩ := HF.out 1 k1 _ _ hat hoi; have X1 := Lib.hid x1; clear tok1 hat hoi hzl x1)
        | (at_lookup; have _t := tok2; refine wpList_lookup_groups Wo rfl _ _ 69 rfl 9 62 5 .u8 lawS Tryz.underlying69 (zeroB _) (m + 1) m (X.length * 4000000) D rfl HG.out hNN.out _ (kl 2) rfl Q2.out ?_; intro v2 zs2 hat hoi hzl _; obtain ⟨⟨_, _, _, rfl⟩, x2⟩ := HF.out 2 k2 _ _ hat hoi; have X2 := Lib.hid x2; clear tok2 hat hoi hzl x2)
        | (at_lookup; refine wpList_lookup_groups Wo rfl _ _ 69 rfl 9 62 5 .u8 lawS Tryz.underlying69 (zeroB _) (m + 1) m (X.length * 4000000) D rfl HG.out hNN.out _ (kl 5) rfl Q5.out ?_; intro v5 zs5 hat hoi hzl _; obtain ⟨⟨_, _, _, rfl⟩, x5⟩ := HF.out 5 k5 _ _ hat hoi; have X5 := Lib.hid x5; clear hat hoi hzl x5)
        | (go_at_call 36; (with_reducible refine (SM.out _ _ _ X1.out X2.out X5.out).mono ?_); rintro e w7 ⟨rfl, hb7⟩; have G7 := Lib.hid (HE.out _ hb7))
        | (refine wpList_store_row rfl 35 (.tmp 2) (.tmp 51) rfl w.heap.size _ rfl rfl _ _ G7.out.2 (sha.szc sha.sz20 _ _) (by rw [sx.cs_size]; rfl) (sx.cs_one _ _ _) ?_))
      exact sha.end_row rfl _ _ w.heap.size _ _ _ _ rfl (setRow_heap _ _ _ _ _ _ G7.out.2) Tryz.underlying35 (sha.szc sha.sz20 _ _) rfl ⟨by rw [HDG.out], bel_setRow G7.out.1 (Nat.le_refl _) _⟩
end Go.Proofs.YtldieebiicblbaaGreatDoor.list

/-
  What day's Week and End answer, where the two tables of package day hold what their initialisers lay. Conditions: those tables; the arguments are numbers of 64 bits.
-/
namespace Go.Proofs.YtldieebiicblbaaGreatDoor.day
open Go.ChangeShapes Go.WideShapes Go.ChangeAt Go.RowKit
open cal
set_option linter.unusedVariables false
set_option maxRecDepth 100000

theorem end_no (n : Int) (w : World) (h : n < -719162 ∨ 2932896 < n) :
    Calls Tryz.prog 98 #[.int .i64 n] w fun e w' => e = .returned (.bool false) ∧ w = w' := by
  have C := Lib.hid (date_no n w h)
  clear h
  go_enter Tryz.func98, Tryz.ntmps98
  go_wp2_with (go_at_call 118; with_reducible refine (C.out).mono ?_; rintro e w' ⟨rfl, rfl⟩)
  go_ret
  exact ⟨rfl, rfl⟩
theorem end_is (y m d n : Int) (w : World) (T : Tabs w) (v : Vld y m d) (hn : num y m d = n) :
    Calls Tryz.prog 98 #[.int .i64 n] w fun e w' => e = .returned (.bool (d == dim y m)) ∧ Below w.heap.size w w' := by
  have C := Lib.hid (date_yes y m d n w T v hn)
  obtain ⟨h1, h2, h3, h4, h5, h6⟩ := v
  clear hn
  go_enter Tryz.func98, Tryz.ntmps98
  go_wp2_with (first
    | (go_at_call 118; with_reducible refine (C.out).mono ?_; rintro e w1 ⟨rfl, hb⟩)
    | (go_at_call 119; with_reducible refine (last_yes y m _ (T.below hb) h1 h2 h3 h4).mono ?_; rintro e w' ⟨rfl, rfl⟩))
  go_ret
  exact ⟨rfl, hb⟩

theorem end_on {w : World} (T : Tabs w) (W : World) (hb : Below w.heap.size w W) (y m d n : Int) (v : Vld y m d) (hn : num y m d = n) (b : Bool) (h : (d == dim y m) = b) :
    Calls Tryz.prog 98 #[.int .i64 n] W fun e w' => e = .returned (.bool b) ∧ Below w.heap.size w w' := by
  subst h
  exact (end_is y m d n W (T.below hb) v hn).mono fun e w' ⟨he, hw⟩ => ⟨he, hb.trans (hw.mono hb.size)⟩
end Go.Proofs.YtldieebiicblbaaGreatDoor.day
