/-
  What bytes.Equal and package head's Decode answer. Condition: the slices that are handed in read as bytes.
-/
import Derived.Test.YtkdmecpelfcbmaaHeadEnc
import Derived.Test.YtkdmecpelfcbmaaOctWalk
namespace Go.Proofs.Ytkdmecpelfcbmaa.head
open Go.ChangeShapes Go.WideShapes Go.ChangeAt Go.RowKit
open om mem oct hd
set_option linter.unusedVariables false
set_option maxRecDepth 100000

theorem strN_eq {l m : List Nat} (hl : Bys l) (hm : Bys m) : ((strN l).toList == (strN m).toList) = decide (l = m) := by
  rw [beq_str, Bool.eq_iff_iff]
  simp only [decide_eq_true_eq]
  exact ⟨strN_inj hl hm, fun e => by rw [e]⟩
theorem RdW.tail {W : World} {A : Option Addr} {l : List Nat} {c : Nat} (h : RdW W (.slice A l.length c) l) (f : Nat) (hf : f ≤ l.length) : RdW W (.slice (tlA A c f) (l.length - f) (c - f)) (l.drop f) := by
  obtain ⟨A', cap, e, hc, hz, hr⟩ := h
  cases e
  have hl : (l.drop f).length = l.length - f := List.length_drop
  refine ⟨tlA A c f, c - f, by rw [hl], by rw [hl]; omega, fun e => ?_, fun hne => ?_⟩
  · cases A with
    | none => have := hz rfl; omega
    | some a => unfold tlA at e; split at e <;> cases e
  · have hp : 0 < l.length - f := by rw [← hl]; exact List.length_pos_iff.2 hne
    obtain ⟨b, o, rfl, hcell⟩ := hr (List.ne_nil_of_length_pos (by omega))
    refine ⟨b, o + f, ?_, fun k hk => ?_⟩
    · unfold tlA
      rw [if_neg (by omega)]
      simp [Addr.add]
    · rw [hl] at hk
      rw [List.getElem_drop, show o + f + k = o + (f + k) by omega]
      exact hcell (f + k) (by omega)
/-- one of the six numbers. -/
theorem num_one (m : List Nat) (hm : Bys m) (hl : m.length = 44) (j : Nat) (hj : j < 6) (k : Nat) (hk : k = 20 + 4 * j) (k' : Nat) (hk' : k' = 20 + 4 * (j + 1)) (lo hi : Nat) (W : World) (g : Nat) (h : Rdr 98 lo hi W g (m.drop k) false) :
    Calls Try.prog 53 #[.pointer (some ⟨g, 0, none⟩), .int .i64 4] W fun e w' => e = .returned (.int .i64 (at4 m j)) ∧ Rdr 98 lo hi w' g (m.drop k') false ∧ Keep g W w' := by
  subst hk hk'
  have hok : okB 4 (m.drop (20 + 4 * j)) = true := by rw [oct.ok_iff, List.length_drop]; omega
  refine (num_at lo hi W g _ false 4 h ⟨by decide, by decide⟩ (by rw [List.length_drop]; omega) (hm.drop _)).mono ?_
  rintro e w' ⟨rfl, hr, hk⟩
  rw [nz_yes (by unfold Sz; omega)] at hr ⊢
  rw [rst_yes hok, fl_yes hok, List.drop_drop] at hr
  rw [pre_yes hok]
  exact ⟨rfl, hr, hk⟩
/-- 'return h, ok', h a struct in the result's row. -/
theorem end_pair {fn : Func} {R : Ending → World → Prop} {p q : Tmp} {ty : TypeId} (hr : fn.results = #[.cell p ty, .tmp q]) (a : Act) (w : World) (g : Nat) (t : TypeId) (c : Array Value) (fs : Array Field) (v : Value)
    (hp : a.tmps.getD p undef = .pointer (some ⟨g, 0, none⟩)) (hq : a.tmps.getD q undef = v) (hg : w.heap[g]? = some (.cells c t (0, 0))) (hu : Try.prog.underlying ty = some (.struct fs))
    (hi : (Try.prog.info? ty).map (·.size) = some c.size) (hdf : a.defers = []) (h : R (.returned (.tuple #[.agg c, v])) w) : bodyPost Try.prog fn R .ret a w := by
  refine bodyPost_ret (v := .tuple #[.agg c, v]) ?_ hdf h
  have hp' : a.tmps[p]?.getD undef = .pointer (some ⟨g, 0, none⟩) := by simpa using hp
  have hq' : a.tmps[q]?.getD undef = v := by simpa using hq
  simp [results, hr, hp', hq', asAddr, run_loadVar_row w g t ty c (0, 0) _ hg hu rfl hi]
/-- the cells of a head. -/
def hcs (h : Hd) : Array Value := #[.int .i64 h.v, .int .i64 h.ut, .int .i64 h.sd, .int .i64 h.lp, .int .i64 h.tm, .int .i64 h.ty, .int .i64 h.ch]
theorem hcs_one (h : Hd) : (hcs h).all (·.oneCell') = true := by simp [hcs, Value.oneCell']
theorem szH : (Try.prog.info? 28).map (·.size) = some 7 := by kernel_rfl
def DecTold (f : Int → Int) (l : List Nat) (w : World) (e : Ending) (w' : World) : Prop := e = .returned (.tuple #[.agg (hcs (dec f l)), .bool (isB f l)]) ∧ Below w.heap.size w w'
theorem at4_take (l : List Nat) (k : Nat) (hk : k < 6) : at4 (l.take 44) k = at4 l k := by
  unfold at4
  rw [List.drop_take, List.take_take, Nat.min_eq_left (by omega)]
theorem four_take (l : List Nat) : (l.take 44).getD 4 0 = l.getD 4 0 := by
  simp [List.getD]
theorem cnd_take (f : Int → Int) (l : List Nat) : cnd f (l.take 44) = cnd f l := by
  unfold cnd
  rw [four_take, at4_take l 0 (by decide), at4_take l 1 (by decide), at4_take l 2 (by decide), at4_take l 3 (by decide), at4_take l 4 (by decide), at4_take l 5 (by decide)]
theorem parts {w : World} {A : Option Addr} {l : List Nat} {c : Nat} (h : RdW w (.slice A l.length c) l) (h44 : 44 ≤ l.length) :
    RdW w (.slice A 44 c) (l.take 44) ∧ RdW w (.slice (tlA A c 20) 24 (c - 20)) ((l.take 44).drop 20) ∧ 44 ≤ c ∧ ∃ b o, A = some ⟨b, o, none⟩ ∧ ∀ W, Below w.heap.size w W → W.cell? ⟨b, o + 4, none⟩ = some (.int .u8 (l.getD 4 0 : Nat)) := by
  have hl : (l.take 44).length = 44 := by rw [List.length_take]; omega
  have h1 := h.head 44 h44
  have h2 := RdW.tail (l := l.take 44) (by rw [hl]; exact h1) 20 (by omega)
  rw [hl] at h2
  obtain ⟨A', c', e, hc, _, hr⟩ := h
  cases e
  obtain ⟨b, o, rfl, hcell⟩ := hr (List.ne_nil_of_length_pos (by omega))
  have h4 := hcell 4 (by omega)
  refine ⟨h1, h2, by omega, b, o, rfl, fun W hb => ?_⟩
  rw [(hb.cell (p := ⟨b, o + 4, none⟩) (World.block_lt_of_cell? w _ h4)).trans h4]
  have h5 : 4 < l.length := by omega
  simp [List.getD, h5]
end Go.Proofs.Ytkdmecpelfcbmaa.head
