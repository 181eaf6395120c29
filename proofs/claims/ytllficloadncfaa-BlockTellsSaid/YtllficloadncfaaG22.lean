/-
  Rows of pairs and of kinds of a call's own: what they hold, what 'append' and a store make of them, and what keeps them; how far the document's own Decode of layer 16 has read. Nothing of any one function. Conditions: as said.
-/
import Derived.Test.YtllficloadncfaaG16
import Derived.Test.YtllficloadncfaaG19
import Derived.Deep.RegionLaw
import Derived.Deep.AppendLies
namespace Go.Proofs.Ytllficloadncfaa.ref16
open Go.ChangeShapes Go.WideShapes Go.ChangeAt Go.RowKit
open om mem oct bk blk
set_option linter.unusedVariables false
set_option maxRecDepth 100000

def pcs : List Pr → List Value
  | [] => []
  | x :: l => .int .i64 x.1 :: .int .i64 x.2 :: pcs l
def tcs : List Ty → List Value
  | [] => []
  | x :: l => .int .i64 x.off :: .bool x.dst :: .string x.ab :: tcs l
theorem pcs_len : ∀ l : List Pr, (pcs l).length = l.length * 2
  | [] => rfl
  | x :: l => by rw [pcs, List.length_cons, List.length_cons, pcs_len l, List.length_cons]; omega
theorem tcs_len : ∀ l : List Ty, (tcs l).length = l.length * 3
  | [] => rfl
  | x :: l => by rw [tcs, List.length_cons, List.length_cons, List.length_cons, tcs_len l, List.length_cons]; omega
theorem pcs_app : ∀ l m : List Pr, pcs (l ++ m) = pcs l ++ pcs m
  | [], m => rfl
  | x :: l, m => by rw [List.cons_append, pcs, pcs, pcs_app l m]; rfl
theorem tcs_app : ∀ l m : List Ty, tcs (l ++ m) = tcs l ++ tcs m
  | [], m => rfl
  | x :: l, m => by rw [List.cons_append, tcs, tcs, tcs_app l m]; rfl
theorem pcs_at : ∀ (l : List Pr) (k : Nat) (h : k < l.length), (pcs l)[k * 2]? = some (.int .i64 l[k].1) ∧ (pcs l)[k * 2 + 1]? = some (.int .i64 l[k].2)
  | x :: l, 0, _ => ⟨rfl, rfl⟩
  | x :: l, k + 1, h => by
    have h' : k < l.length := by simpa using h
    have := pcs_at l k h'
    rw [pcs, show (k + 1) * 2 = k * 2 + 1 + 1 by omega]
    exact this
theorem tcs_at : ∀ (l : List Ty) (k : Nat) (h : k < l.length), (tcs l)[k * 3]? = some (.int .i64 l[k].off) ∧ (tcs l)[k * 3 + 1]? = some (.bool l[k].dst) ∧ (tcs l)[k * 3 + 2]? = some (.string l[k].ab)
  | x :: l, 0, _ => ⟨rfl, rfl, rfl⟩
  | x :: l, k + 1, h => by
    have h' : k < l.length := by simpa using h
    have := tcs_at l k h'
    rw [tcs, show (k + 1) * 3 = k * 3 + 1 + 1 + 1 by omega]
    exact this
theorem pcs_set : ∀ (l : List Pr) (k : Nat) (h : k < l.length) (y : Int), (pcs l).set (k * 2 + 1) (.int .i64 y) = pcs (l.set k (l[k].1, y))
  | x :: l, 0, _, y => rfl
  | x :: l, k + 1, h, y => by
    have h' : k < l.length := by simpa using h
    rw [pcs, show (k + 1) * 2 + 1 = (k * 2 + 1) + 1 + 1 by omega, List.set_cons_succ, List.set_cons_succ, pcs_set l k h' y]
    rfl
theorem tcs_set : ∀ (l : List Ty) (k : Nat) (h : k < l.length) (y : ByteArray), (tcs l).set (k * 3 + 2) (.string y) = tcs (l.set k ⟨l[k].off, l[k].dst, y⟩)
  | x :: l, 0, _, y => rfl
  | x :: l, k + 1, h, y => by
    have h' : k < l.length := by simpa using h
    rw [tcs, show (k + 1) * 3 + 2 = (k * 3 + 2) + 1 + 1 + 1 by omega, List.set_cons_succ, List.set_cons_succ, List.set_cons_succ, tcs_set l k h' y]
    rfl
/-! rows of the call's own -/
theorem rw_len {base k n : Nat} {e : TypeId} {W : World} {v : Value} {xs : List Value} (h : W.ownsRow base e k v n xs) : ∃ A c, v = .slice A n c := by
  rcases h.2 with ⟨rfl, hn⟩ | ⟨g, cap, cur, rfl, _⟩
  · exact ⟨none, 0, by rw [hn]⟩
  · exact ⟨_, _, rfl⟩
theorem rw_where {base k n : Nat} {e : TypeId} {W : World} {A : Option Addr} {c : Nat} {xs : List Value} (h : W.ownsRow base e k (.slice A n c) n xs) (hn : 0 < n) : ∃ g, A = some ⟨g, 0, none⟩ ∧ base ≤ g ∧ g < W.heap.size := by
  rcases h.2 with ⟨e, h0⟩ | ⟨g, cap, cur, e, hb, hh, _⟩
  · cases e; omega
  · cases e
    exact ⟨g, rfl, hb, hp_lt hh⟩
theorem rw_base {base k n : Nat} {e : TypeId} {W : World} {A : Option Addr} {c : Nat} {xs : List Value} (h : W.ownsRow base e k (.slice A n c) n xs) : ∀ g o, A = some ⟨g, o, none⟩ → base ≤ g := by
  intro g o e
  rcases h.2 with ⟨e', _⟩ | ⟨g', cap, cur, e', hb, _⟩
  · cases e'; cases e
  · cases e'; cases e; exact hb
theorem rw_block {base k n : Nat} {e : TypeId} {W W' : World} {v : Value} {xs : List Value} (h : W.ownsRow base e k v n xs) (hk : ∀ j cs, base ≤ j → W.heap[j]? = some (.cells cs e (0, 0)) → W'.heap[j]? = W.heap[j]?) : W'.ownsRow base e k v n xs := by
  refine ⟨h.1, ?_⟩
  rcases h.2 with ⟨rfl, hn⟩ | ⟨g, cap, cur, rfl, hbs, hh, r⟩
  · exact Or.inl ⟨rfl, hn⟩
  · exact Or.inr ⟨g, cap, cur, rfl, hbs, by rw [hk g _ hbs hh]; exact hh, r⟩
theorem rw_below {base k n : Nat} {e : TypeId} {W W' : World} {v : Value} {xs : List Value} (h : W.ownsRow base e k v n xs) (hb : Below W.heap.size W W') : W'.ownsRow base e k v n xs :=
  rw_block h fun j cs _ hh => hb.block j (hp_lt hh)
theorem rw_keepG {base k n g : Nat} {e : TypeId} {W W' : World} {v : Value} {xs : List Value} (h : W.ownsRow base e k v n xs) (hk : Keep g W W') (hg : g < base) : W'.ownsRow base e k v n xs :=
  rw_block h fun j cs hj hh => hk.block j (hp_lt hh) (by omega)
theorem rw_setBox {base k n z i : Nat} {e : TypeId} {W : World} {v x : Value} {xs : List Value} (h : W.ownsRow base e k v n xs) (hz : z < base) : (W.setCell ⟨z, i, none⟩ x).ownsRow base e k v n xs :=
  rw_keepG h ((Keep.refl z W).setCell i x) hz
theorem rw_other {base k n base' k' n' : Nat} {e e' : TypeId} {W W' : World} {v v' : Value} {xs xs' : List Value} (hne : e ≠ e') (h : W.ownsRow base e k v n xs) (h' : W.ownsRow base' e' k' v' n' xs') (hg : W.grownBy W' v'.ownBlock) : W'.ownsRow base e k v n xs :=
  rw_block h fun j cs hj hh => hg.block j (hp_lt hh) fun q => by
    obtain ⟨cs', h2⟩ := abr.row_kind h' j q.symm
    rw [hh] at h2
    injection h2 with h2
    injection h2 with _ h2 _
    exact hne h2
theorem rw_setOther {base k n base' k' n' c g i : Nat} {e e' : TypeId} {W : World} {v x : Value} {xs xs' : List Value} (hne : e ≠ e') (h : W.ownsRow base e k v n xs) (h' : W.ownsRow base' e' k' (.slice (some ⟨g, 0, none⟩) n' c) n' xs') : (W.setCell ⟨g, i, none⟩ x).ownsRow base e k v n xs :=
  rw_block h fun j cs hj hh => ((Keep.refl g W).setCell i x).block j (hp_lt hh) fun q => by
    obtain ⟨cs', h2⟩ := abr.row_kind h' j (by rw [q]; rfl)
    rw [hh] at h2
    injection h2 with h2
    injection h2 with _ h2 _
    exact hne h2
theorem rw_set {base k n c g : Nat} {e : TypeId} {W : World} {xs : List Value} (h : W.ownsRow base e k (.slice (some ⟨g, 0, none⟩) n c) n xs) (i : Nat) (x : Value) : (W.setCell ⟨g, i, none⟩ x).ownsRow base e k (.slice (some ⟨g, 0, none⟩) n c) n (xs.set i x) := by
  rcases h.2 with ⟨e, _⟩ | ⟨g', cap', cur, e, hbg, hg, hnc, hcm, hcs, htake⟩
  · cases e
  · cases e
    refine ⟨by rw [List.length_set]; exact h.1, .inr ⟨g, _, _, rfl, hbg, heap_setCell_same W g i _ _ _ hg, hnc, hcm, by simpa using hcs, ?_⟩⟩
    rw [Array.toList_setIfInBounds, List.take_set, htake]
theorem rw_fz {base k n c g : Nat} {e : TypeId} {W : World} {xs : List Value} (h : W.ownsRow base e k (.slice (some ⟨g, 0, none⟩) n c) n xs) (i : Nat) : W.frozen? ⟨g, i, none⟩ = false := by
  rcases h.2 with ⟨e, _⟩ | ⟨g', cap', cur, e, hbg, hg, _⟩
  · cases e
  · cases e
    exact fz hg i
theorem prs_own {base n : Nat} {T : TypeId} {W : World} {A : Option Addr} {c : Nat} {l : List Pr} (h : W.ownsRow base T 2 (.slice A n c) n (pcs l)) (hn : n = l.length) : Prs W A l := by
  subst hn
  intro hl
  have h0 := h
  obtain ⟨g, rfl, _, hlt⟩ := rw_where h (List.length_pos_iff.2 hl)
  refine ⟨g, 0, rfl, hlt, fun k hk => ?_⟩
  have := pcs_at l k hk
  rw [Nat.zero_add]
  exact ⟨(h0.cellAt (k * 2) (by omega)).trans this.1, (h0.cellAt (k * 2 + 1) (by omega)).trans this.2⟩
theorem tys_own {base n : Nat} {T : TypeId} {W : World} {A : Option Addr} {c : Nat} {l : List Ty} (h : W.ownsRow base T 3 (.slice A n c) n (tcs l)) (hn : n = l.length) : Tys W A l := by
  subst hn
  intro hl
  have h0 := h
  obtain ⟨g, rfl, _, hlt⟩ := rw_where h (List.length_pos_iff.2 hl)
  refine ⟨g, 0, rfl, hlt, fun k hk => ?_⟩
  have := tcs_at l k hk
  rw [Nat.zero_add]
  exact ⟨(h0.cellAt (k * 3) (by omega)).trans this.1, (h0.cellAt (k * 3 + 1) (by omega)).trans this.2.1, (h0.cellAt (k * 3 + 2) (by omega)).trans this.2.2⟩
/-! 'append' -/
theorem cells_new (w : World) (cs : List Value) (t : TypeId) : ∀ j u, cs[j]? = some u → (w.alloc (.cells cs.toArray t)).cell? ((⟨w.heap.size, 0, none⟩ : Addr).add j) = some u := by
  intro j u hj
  rw [Addr.add_mid, Nat.zero_add, row_cell (hp_new w (.cells cs.toArray t)) j]
  simpa using hj
/-- 'append(row, p)', p a pair, at a step of a region that draws. -/
theorem step_pr (S T : TypeId) (hu : Try.prog.underlying S = some (.slice T)) (inf : (Try.prog.info? T).map (fun i => (i.zero, i.size, i.bytes)) = some (some (.agg #[.int .i64 0, .int .i64 0]), 2, 16)) {ops : Array Oper} {o : Oper} {a : Act} {K : Act → World → Prop} {Q : Exit → Act → World → Prop} {E : Prop} (hgd : o.guard = none) (s x : Operand)
    (ho : o.op = .call { callee := .builtin .append, args := #[s, x], argTypes := #[S, S] }) (base : Nat) (W : World) (v : Value) (n : Nat) (ls : List Pr) (y0 y1 : Int)
    (hs : a.eval s = v) (hx : a.eval x = .slice (some ⟨W.heap.size, 0, none⟩) 1 1) (hown : W.ownsRow base T 2 v n (pcs ls)) (hn : n < 8000000000) (hbase : base ≤ W.heap.size)
    (h : ∀ g c w', w'.ownsRow base T 2 (.slice (some ⟨g, 0, none⟩) (n + 1) c) (n + 1) (pcs (ls ++ [(y0, y1)])) → W.grownBy w' v.ownBlock → K (a.put o.dst (.slice (some ⟨g, 0, none⟩) (n + 1) c)) w') :
    if Region.wanted o (yielded ops a.tmps) = true then Oper.wp Try.prog o a (W.alloc (.cells #[.int .i64 y0, .int .i64 y1] T)) K Q else E := by
  obtain ⟨i0, hi, hz0, hz1, hz2⟩ := info_parts inf
  refine step_append_lies _ hgd s x S ho base T i0 _ 2 16 hu hi hz0 hz1 hz2 rfl (by decide) v n (pcs ls) hs (hown.alloc _) ⟨W.heap.size, 0, none⟩ 1 1 [.int .i64 y0, .int .i64 y1] hx rfl (cells_new W [.int .i64 y0, .int .i64 y1] T) (by intro u hu; simp at hu; rcases hu with rfl | rfl <;> rfl) (by decide) (by unfold maxLen; omega) (by omega) (by simp; omega) _ rfl ?_
  intro g c w' h1 h2 _ _
  refine h g c w' ?_ ((World.grownBy_alloc W _ _).trans h2)
  rw [pcs_app]
  exact h1
/-- 'append(row, k)', k a kind. -/
theorem app_ty {ops : Array Oper} {rest : List Oper} {o : Oper} {a : Act} {Q : Exit → Act → World → Prop} (hgd : o.guard = none) (s x : Operand)
    (ho : o.op = .call { callee := .builtin .append, args := #[s, x], argTypes := #[22, 22] }) (base : Nat) (W : World) (v : Value) (n : Nat) (ls : List Ty) (y : Ty)
    (hs : a.eval s = v) (hx : a.eval x = .slice (some ⟨W.heap.size, 0, none⟩) 1 1) (hown : W.ownsRow base 41 3 v n (tcs ls)) (hn : n < 8000000000) (hbase : base ≤ W.heap.size)
    (h : ∀ g c w', w'.ownsRow base 41 3 (.slice (some ⟨g, 0, none⟩) (n + 1) c) (n + 1) (tcs (ls ++ [y])) → W.grownBy w' v.ownBlock → wpList Try.prog ops Q rest (a.put o.dst (.slice (some ⟨g, 0, none⟩) (n + 1) c)) w') :
    wpList Try.prog ops Q (o :: rest) a (W.alloc (.cells #[.int .i64 y.off, .bool y.dst, .string y.ab] 41)) := by
  obtain ⟨i0, hi, hz0, hz1, hz2⟩ := info_parts infoK
  refine wpList_append_lies _ hgd s x 22 ho base 41 i0 _ 3 32 Try.underlying22 hi hz0 hz1 hz2 rfl (by decide) v n (tcs ls) hs (hown.alloc _) ⟨W.heap.size, 0, none⟩ 1 1 [.int .i64 y.off, .bool y.dst, .string y.ab] hx rfl (cells_new W [.int .i64 y.off, .bool y.dst, .string y.ab] 41) (by intro u hu; simp at hu; rcases hu with rfl | rfl | rfl <;> rfl) (by decide) (by unfold maxLen; omega) (by omega) (by simp; omega) _ rfl ?_
  intro g c w' h1 h2 _ _
  refine h g c w' ?_ ((World.grownBy_alloc W _ _).trans h2)
  rw [tcs_app]
  exact h1
end Go.Proofs.Ytllficloadncfaa.ref16

/-
  How far the document's own Decode of layer 16 has read: its reader, its zone's box, its four rows; and what each step of it does to them. Nothing of any one function. Conditions: as said.
-/
namespace Go.Proofs.Ytllficloadncfaa.ref16
open Go.ChangeShapes Go.WideShapes Go.ChangeAt Go.RowKit
open om mem oct bk blk
set_option linter.unusedVariables false
set_option maxRecDepth 100000

/-- a reader of the document's own that stands at a place of a row. -/
def At3 (lo hi : Nat) (W : World) (g : Nat) (l : List Nat) (p : Nat) : Prop := Rdr 98 lo hi W g (l.drop p) false
theorem at3_num {lo hi : Nat} {W : World} {g : Nat} {l : List Nat} {p : Nat} (h : At3 lo hi W g l p) (z : Nat) (hz : Sz z) (hb : Bys l) (hl : l.length < 1000000000) (hp : p + z ≤ l.length) : Calls Try.prog 33 #[.pointer (some ⟨g, 0, none⟩), .int .i64 (z : Nat)] W fun e w' => e = .returned (.int .i64 (rd (sl l p z))) ∧ At3 lo hi w' g l (p + z) ∧ Keep g W w' := by
  have hok : okB (z : Int) (l.drop p) = true := oct.ok_iff.2 ⟨by omega, by rw [List.length_drop]; omega⟩
  refine (ref13.num_at lo hi W g (l.drop p) false z h (by intro e; cases e) (by unfold Sz at hz; unfold oct.I64; omega) (by rw [List.length_drop]; omega) (hb.drop p)).mono fun e w' ⟨h1, h2, h3⟩ => ?_
  rw [nz_yes hz, pre_yes hok, Int.toNat_natCast] at h1
  rw [nz_yes hz, rst_yes hok, fl_yes hok, Int.toNat_natCast, List.drop_drop] at h2
  exact ⟨h1, h2, h3⟩
theorem at3_take {lo hi : Nat} {W : World} {g : Nat} {l : List Nat} {p : Nat} (h : At3 lo hi W g l p) (n : Nat) (hl : l.length < 1000000000) (hp : p + n ≤ l.length) : Calls Try.prog 34 #[.pointer (some ⟨g, 0, none⟩), .int .i64 (n : Nat)] W fun e w' => ∃ A c, e = .returned (.slice A (sl l p n).length c) ∧ Own W.heap.size w' (.slice A (sl l p n).length c) (sl l p n) ∧ At3 lo hi w' g l (p + n) ∧ Keep g W w' := by
  have hok : okB (n : Int) (l.drop p) = true := oct.ok_iff.2 ⟨by omega, by rw [List.length_drop]; omega⟩
  refine (ref13.take_at lo hi W g (l.drop p) false n h (by intro e; cases e) (by unfold oct.I64; omega) (by rw [List.length_drop]; omega)).mono fun e w' ⟨v', h1, h2, h3, h4⟩ => ?_
  rw [pre_yes hok, Int.toNat_natCast] at h2
  rw [rst_yes hok, fl_yes hok, Int.toNat_natCast, List.drop_drop] at h3
  obtain ⟨A, c, rfl⟩ := own_len h2
  exact ⟨A, c, h1, h2, h3, h4⟩
/-- where things lie. -/
structure Ly (W0 : World) (lo hi zb base : Nat) : Prop where
  lo_ : W0.heap.size ≤ lo
  hz : hi ≤ zb
  zb_ : zb < base
structure DS (W0 : World) (lo hi zb base g : Nat) (l : List Nat) (ver : Int) (pos : Nat) (T : List Pr) (K : List Ty) (A : List Int) (C : List Pr) (vt vk va vl : Value) (W : World) : Prop where
  ly : Ly W0 lo hi zb base
  bs : base ≤ W.heap.size
  at' : At3 lo hi W g l pos
  box : W.heap[zb]? = some (.cells #[vk, vt, vl, .string ⟨#[]⟩, .int .i64 ver] 26)
  rt : W.ownsRow base 43 2 vt T.length (pcs T)
  rk : W.ownsRow base 41 3 vk K.length (tcs K)
  ra : abr.IOwn base W va A
  rl : W.ownsRow base 45 2 vl C.length (pcs C)
  bel : Below W0.heap.size W0 W
section
variable {W0 : World} {lo hi zb base g : Nat} {l : List Nat} {ver : Int} {pos : Nat} {T : List Pr} {K : List Ty} {A : List Int} {C : List Pr} {vt vk va vl : Value} {W W' : World}
theorem DS.gz (h : DS W0 lo hi zb base g l ver pos T K A C vt vk va vl W) : W0.heap.size ≤ g ∧ g < zb ∧ zb < base := by
  have h1 := h.ly.lo_
  have h2 := h.ly.hz
  have h3 := h.ly.zb_
  have h4 := h.at'.1
  have h5 := h.at'.2.1
  omega
theorem DS.num (h : DS W0 lo hi zb base g l ver pos T K A C vt vk va vl W) {pos' : Nat} (a : At3 lo hi W' g l pos') (k : Keep g W W') : DS W0 lo hi zb base g l ver pos' T K A C vt vk va vl W' := by
  obtain ⟨g1, g2, g3⟩ := h.gz
  refine ⟨h.ly, Nat.le_trans h.bs k.size, a, ?_, rw_keepG h.rt k (by omega), rw_keepG h.rk k (by omega), rw_keepG h.ra k (by omega), rw_keepG h.rl k (by omega), k.to_below h.bel g1 h.bel.size⟩
  rw [k.block zb (hp_lt h.box) (by omega)]
  exact h.box
theorem DS.below (h : DS W0 lo hi zb base g l ver pos T K A C vt vk va vl W) (hb : Below W.heap.size W W') : DS W0 lo hi zb base g l ver pos T K A C vt vk va vl W' :=
  ⟨h.ly, Nat.le_trans h.bs hb.size, Rdr.below h.at' hb, kept h.box hb, rw_below h.rt hb, rw_below h.rk hb, rw_below h.ra hb, rw_below h.rl hb, btr h.bel hb⟩
theorem rdr_low {T : TypeId} {lo hi base : Nat} {W W' : World} {g : Nat} {l : List Nat} {f : Bool} (h : Rdr T lo hi W g l f) (hb : Below base W W') (hh : hi ≤ base) : Rdr T lo hi W' g l f := by
  obtain ⟨h1, h2, v, h3, h4⟩ := h
  refine ⟨h1, h2, v, ?_, h4.imp (fun b hb => hb) fun b o x hp hx => ?_⟩
  · rw [hb.block g (by omega)]; exact h3
  · rw [World.cell?_of_block (w := W) (hb.block b (by omega))]; exact hx
theorem rw_low {k n : Nat} {e : TypeId} {v : Value} {xs : List Value} (h : DS W0 lo hi zb base g l ver pos T K A C vt vk va vl W) (hr : W.ownsRow base e k v n xs) (hg : W.grownBy W' v.ownBlock) : Below base W W' :=
  (Below.refl base W).grown hg h.bs (fun j hj => (World.ownsRow.lt hr j hj).1)
theorem low_bel (h : DS W0 lo hi zb base g l ver pos T K A C vt vk va vl W) (hb : Below base W W') : Below W0.heap.size W0 W' :=
  h.bel.trans (hb.mono (by obtain ⟨g1, g2, g3⟩ := h.gz; omega))
theorem box_set {z i : Nat} {a b c d e x : Value} (h : W.heap[z]? = some (.cells #[a, b, c, d, e] 26)) (cs : Array Value) (hcs : (#[a, b, c, d, e] : Array Value).setIfInBounds i x = cs) : (W.setCell ⟨z, i, none⟩ x).heap[z]? = some (.cells cs 26) := by
  subst hcs
  exact heap_setCell_same W z i _ _ _ h
theorem DS.growT (h : DS W0 lo hi zb base g l ver pos T K A C vt vk va vl W) (hg : W.grownBy W' vt.ownBlock) {v' : Value} {T' : List Pr} (hr : W'.ownsRow base 43 2 v' T'.length (pcs T')) : DS W0 lo hi zb base g l ver pos T' K A C v' vk va vl (W'.setCell ⟨zb, 1, none⟩ v') := by
  have hb := rw_low h h.rt hg
  obtain ⟨g1, g2, g3⟩ := h.gz
  have hbx : W'.heap[zb]? = some (.cells #[vk, vt, vl, .string ⟨#[]⟩, .int .i64 ver] 26) := by rw [hb.block zb g3]; exact h.box
  have hz := h.ly.hz
  have k := (Keep.refl zb W').setCell 1 v'
  exact ⟨h.ly, Nat.le_trans h.bs (Nat.le_trans hb.size k.size), Rdr.keep (rdr_low h.at' hb (by omega)) k (Or.inr hz), box_set hbx _ rfl, rw_setBox hr g3, rw_setBox (rw_other (by decide) h.rk h.rt hg) g3, rw_setBox (rw_other (by decide) h.ra h.rt hg) g3, rw_setBox (rw_other (by decide) h.rl h.rt hg) g3, k.to_below (low_bel h hb) (by omega) (low_bel h hb).size⟩
theorem DS.growK (h : DS W0 lo hi zb base g l ver pos T K A C vt vk va vl W) (hg : W.grownBy W' vk.ownBlock) {v' : Value} {K' : List Ty} (hr : W'.ownsRow base 41 3 v' K'.length (tcs K')) : DS W0 lo hi zb base g l ver pos T K' A C vt v' va vl (W'.setCell ⟨zb, 0, none⟩ v') := by
  have hb := rw_low h h.rk hg
  obtain ⟨g1, g2, g3⟩ := h.gz
  have hbx : W'.heap[zb]? = some (.cells #[vk, vt, vl, .string ⟨#[]⟩, .int .i64 ver] 26) := by rw [hb.block zb g3]; exact h.box
  have hz := h.ly.hz
  have k := (Keep.refl zb W').setCell 0 v'
  exact ⟨h.ly, Nat.le_trans h.bs (Nat.le_trans hb.size k.size), Rdr.keep (rdr_low h.at' hb (by omega)) k (Or.inr hz), box_set hbx _ rfl, rw_setBox (rw_other (by decide) h.rt h.rk hg) g3, rw_setBox hr g3, rw_setBox (rw_other (by decide) h.ra h.rk hg) g3, rw_setBox (rw_other (by decide) h.rl h.rk hg) g3, k.to_below (low_bel h hb) (by omega) (low_bel h hb).size⟩
theorem DS.growC (h : DS W0 lo hi zb base g l ver pos T K A C vt vk va vl W) (hg : W.grownBy W' vl.ownBlock) {v' : Value} {C' : List Pr} (hr : W'.ownsRow base 45 2 v' C'.length (pcs C')) : DS W0 lo hi zb base g l ver pos T K A C' vt vk va v' (W'.setCell ⟨zb, 2, none⟩ v') := by
  have hb := rw_low h h.rl hg
  obtain ⟨g1, g2, g3⟩ := h.gz
  have hbx : W'.heap[zb]? = some (.cells #[vk, vt, vl, .string ⟨#[]⟩, .int .i64 ver] 26) := by rw [hb.block zb g3]; exact h.box
  have hz := h.ly.hz
  have k := (Keep.refl zb W').setCell 2 v'
  exact ⟨h.ly, Nat.le_trans h.bs (Nat.le_trans hb.size k.size), Rdr.keep (rdr_low h.at' hb (by omega)) k (Or.inr hz), box_set hbx _ rfl, rw_setBox (rw_other (by decide) h.rt h.rl hg) g3, rw_setBox (rw_other (by decide) h.rk h.rl hg) g3, rw_setBox (rw_other (by decide) h.ra h.rl hg) g3, rw_setBox hr g3, k.to_below (low_bel h hb) (by omega) (low_bel h hb).size⟩
theorem DS.growA (h : DS W0 lo hi zb base g l ver pos T K A C vt vk va vl W) (hg : W.grownBy W' va.ownBlock) {v' : Value} {A' : List Int} (hr : abr.IOwn base W' v' A') : DS W0 lo hi zb base g l ver pos T K A' C vt vk v' vl W' := by
  have hb := rw_low h h.ra hg
  obtain ⟨g1, g2, g3⟩ := h.gz
  have hbx : W'.heap[zb]? = some (.cells #[vk, vt, vl, .string ⟨#[]⟩, .int .i64 ver] 26) := by rw [hb.block zb g3]; exact h.box
  have hz := h.ly.hz
  exact ⟨h.ly, Nat.le_trans h.bs hb.size, rdr_low h.at' hb (by omega), hbx, rw_other (by decide) h.rt h.ra hg, rw_other (by decide) h.rk h.ra hg, hr, rw_other (by decide) h.rl h.ra hg, low_bel h hb⟩
theorem DS.setT {gt n c : Nat} (h : DS W0 lo hi zb base g l ver pos T K A C (.slice (some ⟨gt, 0, none⟩) n c) vk va vl W) (hn : n = T.length) (i : Nat) (hi' : i < T.length) (y : Int) {T' : List Pr} (hT : T.set i (T[i].1, y) = T') : DS W0 lo hi zb base g l ver pos T' K A C (.slice (some ⟨gt, 0, none⟩) n c) vk va vl (W.setCell ⟨gt, i * 2 + 1, none⟩ (.int .i64 y)) := by
  subst hn
  obtain ⟨g1, g2, g3⟩ := h.gz
  have hz := h.ly.hz
  obtain ⟨_, e, hb, hlt⟩ := rw_where h.rt (by omega)
  cases e
  have k := (Keep.refl gt W).setCell (i * 2 + 1) (.int .i64 y)
  refine ⟨h.ly, Nat.le_trans h.bs k.size, Rdr.keep h.at' k (Or.inr (by omega)), ?_, ?_, rw_setOther (by decide) h.rk h.rt, rw_setOther (by decide) h.ra h.rt, rw_setOther (by decide) h.rl h.rt, k.to_below h.bel (by omega) h.bel.size⟩
  · rw [k.block zb (hp_lt h.box) (by omega)]; exact h.box
  · rw [← hT, List.length_set, ← pcs_set T i hi' y]; exact rw_set h.rt _ _
theorem DS.setK {gt n c : Nat} (h : DS W0 lo hi zb base g l ver pos T K A C vt (.slice (some ⟨gt, 0, none⟩) n c) va vl W) (hn : n = K.length) (i : Nat) (hi' : i < K.length) (y : ByteArray) {K' : List Ty} (hT : K.set i ⟨K[i].off, K[i].dst, y⟩ = K') : DS W0 lo hi zb base g l ver pos T K' A C vt (.slice (some ⟨gt, 0, none⟩) n c) va vl (W.setCell ⟨gt, i * 3 + 2, none⟩ (.string y)) := by
  subst hn
  obtain ⟨g1, g2, g3⟩ := h.gz
  have hz := h.ly.hz
  obtain ⟨_, e, hb, hlt⟩ := rw_where h.rk (by omega)
  cases e
  have k := (Keep.refl gt W).setCell (i * 3 + 2) (.string y)
  refine ⟨h.ly, Nat.le_trans h.bs k.size, Rdr.keep h.at' k (Or.inr (by omega)), ?_, rw_setOther (by decide) h.rt h.rk, ?_, rw_setOther (by decide) h.ra h.rk, rw_setOther (by decide) h.rl h.rk, k.to_below h.bel (by omega) h.bel.size⟩
  · rw [k.block zb (hp_lt h.box) (by omega)]; exact h.box
  · rw [← hT, List.length_set, ← tcs_set K i hi' y]; exact rw_set h.rk _ _
end
/-! what is read, as far as it is read -/
def tA (a : Nat → Int) (j : Nat) : List Pr := (List.range j).map fun k => (a k, 0)
def tB (a b : Nat → Int) (n k : Nat) : List Pr := (List.range n).map fun i => (a i, up b k i)
def tC (a b : Nat → Int) (j : Nat) : List Pr := (List.range j).map fun k => (a k, b k)
def kA (o : Nat → Int) (d : Nat → Bool) (j : Nat) : List Ty := (List.range j).map fun k => ⟨o k, d k, ⟨#[]⟩⟩
def kB (o : Nat → Int) (d : Nat → Bool) (s : Nat → ByteArray) (n k : Nat) : List Ty := (List.range n).map fun i => ⟨o i, d i, ug ⟨#[]⟩ s k i⟩
def iA (a : Nat → Int) (j : Nat) : List Int := (List.range j).map a
theorem tA_len (a : Nat → Int) (j : Nat) : (tA a j).length = j := by simp [tA]
theorem tB_len (a b : Nat → Int) (n k : Nat) : (tB a b n k).length = n := by simp [tB]
theorem tC_len (a b : Nat → Int) (j : Nat) : (tC a b j).length = j := by simp [tC]
theorem kA_len (o : Nat → Int) (d : Nat → Bool) (j : Nat) : (kA o d j).length = j := by simp [kA]
theorem kB_len (o : Nat → Int) (d : Nat → Bool) (s : Nat → ByteArray) (n k : Nat) : (kB o d s n k).length = n := by simp [kB]
theorem iA_len (a : Nat → Int) (j : Nat) : (iA a j).length = j := by simp [iA]
theorem tA_succ (a : Nat → Int) (j : Nat) : tA a (j + 1) = tA a j ++ [(a j, 0)] := by simp [tA, List.range_succ]
theorem tC_succ (a b : Nat → Int) (j : Nat) : tC a b (j + 1) = tC a b j ++ [(a j, b j)] := by simp [tC, List.range_succ]
theorem kA_succ (o : Nat → Int) (d : Nat → Bool) (j : Nat) : kA o d (j + 1) = kA o d j ++ [⟨o j, d j, ⟨#[]⟩⟩] := by simp [kA, List.range_succ]
theorem iA_succ (a : Nat → Int) (j : Nat) : iA a (j + 1) = iA a j ++ [a j] := by simp [iA, List.range_succ]
theorem tB_zero (a b : Nat → Int) (n : Nat) : tA a n = tB a b n 0 := by simp [tA, tB, up]
theorem kB_zero (o : Nat → Int) (d : Nat → Bool) (s : Nat → ByteArray) (n : Nat) : kA o d n = kB o d s n 0 := by simp [kA, kB, ug]
theorem tB_all (a b : Nat → Int) (n : Nat) : tB a b n n = tC a b n := by
  unfold tB tC
  exact List.map_congr_left fun i hi => by rw [up_all b n i (List.mem_range.1 hi)]
theorem kB_all (o : Nat → Int) (d : Nat → Bool) (s : Nat → ByteArray) (n : Nat) : kB o d s n n = (List.range n).map fun k => ⟨o k, d k, s k⟩ := by
  unfold kB
  exact List.map_congr_left fun i hi => by rw [ug_all _ _ (List.mem_range.1 hi)]
theorem tB_set (a b : Nat → Int) (n k : Nat) (h : k < n) : (tB a b n k).set k (((tB a b n k)[k]'(by rw [tB_len]; exact h)).1, b k) = tB a b n (k + 1) := by
  apply List.ext_getElem
  · simp [tB]
  · intro i h1 h2
    rw [List.getElem_set]
    by_cases e : k = i
    · subst e
      rw [if_pos rfl]
      simp [tB, up_at]
    · rw [if_neg e]
      simp [tB, up_ne b (show i ≠ k by omega)]
theorem kB_set (o : Nat → Int) (d : Nat → Bool) (s : Nat → ByteArray) (n k : Nat) (h : k < n) : (kB o d s n k).set k ⟨((kB o d s n k)[k]'(by rw [kB_len]; exact h)).off, ((kB o d s n k)[k]'(by rw [kB_len]; exact h)).dst, s k⟩ = kB o d s n (k + 1) := by
  apply List.ext_getElem
  · simp [kB]
  · intro i h1 h2
    rw [List.getElem_set]
    by_cases e : k = i
    · subst e
      rw [if_pos rfl]
      simp [kB, ug_at]
    · rw [if_neg e]
      simp [kB, ug_ne _ _ (show i ≠ k by omega)]
end Go.Proofs.Ytllficloadncfaa.ref16

/-
  The marks of standard and universal time, as the document's own Decode asks for them; and what its marks answers. Condition: the slice reads as bytes.
-/
namespace Go.Proofs.Ytllficloadncfaa.ref16
open Go.ChangeShapes Go.WideShapes Go.ChangeAt Go.RowKit
open om mem oct bk blk
set_option linter.unusedVariables false
set_option maxRecDepth 100000

def le1 (l : List Nat) : Bool := l.all fun x => decide (x ≤ 1)
def thB (a u : List Nat) (k : Nat) : Bool := !(u.getD k 0 == 1 && (decide (a.length ≤ k) || a.getD k 0 == 0))
def thAll (a u : List Nat) (n : Nat) : Bool := (List.range n).all (thB a u)
theorem thAll_succ (a u : List Nat) (k : Nat) : thAll a u (k + 1) = (thAll a u k && thB a u k) := by
  unfold thAll; rw [List.range_succ, List.all_append]; simp
theorem le1_at {l : List Nat} (h : le1 l = true) (k : Nat) : l.getD k 0 ≤ 1 := by
  unfold le1 at h
  rw [List.all_eq_true] at h
  by_cases e : k < l.length
  · have := h _ (List.getElem_mem e)
    rw [decide_eq_true_eq] at this
    rw [List.getD_eq_getElem?_getD, List.getElem?_eq_getElem e]
    exact this
  · rw [List.getD_eq_getElem?_getD, List.getElem?_eq_none (by omega)]
    exact Nat.zero_le _
theorem mk_le (x : Nat) : mkB (x : Nat) = decide (x ≤ 1) := by
  unfold mkB
  rw [Bool.eq_iff_iff]
  simp only [Bool.or_eq_true, beq_iff_eq, decide_eq_true_eq]
  omega
theorem amB_is (a u : List Nat) : amB a u = (thAll a u u.length && le1 a && le1 u) := by
  have h1 : mksB a = le1 a := by
    unfold mksB le1
    congr 1
    funext x
    exact mk_le x
  unfold amB
  rw [h1]
  rcases ha : le1 a with _ | _
  · simp
  · rw [Bool.true_and, Bool.and_true, Bool.eq_iff_iff]
    unfold thAll le1
    simp only [Bool.and_eq_true, List.all_eq_true, List.mem_range, decide_eq_true_eq]
    constructor
    · intro h
      refine ⟨fun k hk => ?_, fun x hx => ?_⟩
      · have := h k hk
        unfold utB at this
        unfold thB
        simp only [Bool.and_eq_true, Bool.not_eq_true', Bool.and_eq_false_iff, beq_eq_false_iff_ne, Bool.not_eq_false', decide_eq_true_eq, beq_iff_eq, Bool.or_eq_false_iff, decide_eq_false_iff_not] at this ⊢
        rcases this.2 with e | ⟨e1, e2⟩
        · exact Or.inl e
        · exact Or.inr ⟨by omega, by rw [e2]; decide⟩
      · obtain ⟨k, hk, rfl⟩ := List.getElem_of_mem hx
        have := h k hk
        unfold utB at this
        rw [Bool.and_eq_true, mk_le, decide_eq_true_eq, List.getD_eq_getElem?_getD, List.getElem?_eq_getElem hk] at this
        exact this.1
    · rintro ⟨h2, h3⟩ k hk
      have h4 := h2 k hk
      have h5 := le1_at ha k
      have h6 := h3 _ (List.getElem_mem hk)
      unfold thB at h4
      unfold utB
      rw [mk_le]
      have h7 : u.getD k 0 = u[k] := by rw [List.getD_eq_getElem?_getD, List.getElem?_eq_getElem hk]; rfl
      simp only [Bool.and_eq_true, Bool.not_eq_true', Bool.and_eq_false_iff, beq_eq_false_iff_ne, Bool.not_eq_false', decide_eq_true_eq, beq_iff_eq, Bool.or_eq_false_iff, decide_eq_false_iff_not] at h4 ⊢
      refine ⟨by rw [h7]; exact h6, ?_⟩
      rcases h4 with e | ⟨e1, e2⟩
      · exact Or.inl e
      · exact Or.inr ⟨by omega, by omega⟩
def MHead (l : List Nat) (i : Value) : Prop := ∃ k : Nat, k ≤ l.length ∧ i = .int .i64 (k : Nat) ∧ ∀ j (h : j < l.length), j < k → l[j] ≤ 1
theorem ret_t {b : Bool} (h : b = true) : Ending.returned (.bool true) = .returned (.bool b) := by rw [h]
theorem ret_f {b : Bool} (h : b = false) : Ending.returned (.bool false) = .returned (.bool b) := by rw [h]
set_option maxHeartbeats 1000000 in
theorem marks_at (l : List Nat) (A : Option Addr) (c : Nat) (w : World) (h : RdW w (.slice A l.length c) l) (hb : Bys l) (hn : l.length < 1000000) : Calls Try.prog 36 #[.slice A l.length c] w fun e w' => e = .returned (.bool (le1 l)) ∧ w = w' := by
  obtain ⟨A', c', e, hc, _, hr⟩ := h
  cases e
  have FT := Lib.hid (fun (h : ∀ j (h : j < l.length), j < l.length → l[j] ≤ 1) => (show le1 l = true by
    unfold le1
    rw [List.all_eq_true]
    intro x hx
    obtain ⟨k, hk, rfl⟩ := List.getElem_of_mem hx
    exact decide_eq_true (h k hk hk)))
  have FF := Lib.hid (fun j (h : j < l.length) (h2 : ¬ l[j] ≤ 1) => (show le1 l = false by
    rw [Bool.eq_false_iff]
    intro e
    unfold le1 at e
    rw [List.all_eq_true] at e
    exact h2 (of_decide_eq_true (e _ (List.getElem_mem h)))))
  have HB := Lib.hid hb
  clear hc hb
  go_enter Try.func36, Try.ntmps36
  go_wp2
  go_loop [3] (fun i => MHead l i) (fun i => l.length - (intOf i).toNat)
  case atStart => exact ⟨0, Nat.zero_le _, rfl, fun j _ h => absurd h (Nat.not_lt_zero _)⟩
  case round =>
    obtain ⟨k, hk, rfl, ha⟩ := hrel
    by_cases hlt : k < l.length
    · obtain ⟨b, o, rfl, hcell⟩ := hr (fun e => by rw [e] at hlt; simp at hlt)
      have x0 := hcell k hlt
      have x1 := HB.out _ (List.getElem_mem hlt)
      by_cases h1 : l[k] ≤ 1
      · have R : Hid (MHead l (.int .i64 ((k : Int) + 1))) := Lib.hid ⟨k + 1, hlt, rfl, fun j hj hj2 => (Nat.lt_succ_iff_lt_or_eq.1 hj2).elim (ha j hj) (fun e => by subst e; exact h1)⟩
        clear ha hcell hr FT FF HB
        generalize l[k] = x at *
        go_wp2
        first
          | exact ⟨R.out, by simp [intOf]; omega⟩
          | (go_round; (case rel => exact R.out); (case measure => simp [intOf]; omega))
      · have R := Lib.hid (FF.out k hlt h1)
        have h2 : 1 < l[k] := by omega
        clear ha hcell hr FT FF HB h1
        generalize l[k] = x at *
        go_wp2
        go_ret
        exact ⟨ret_f R.out, rfl⟩
    · obtain rfl : k = l.length := by omega
      have R := Lib.hid (FT.out ha)
      clear ha hr FT FF HB
      go_wp2
      go_ret
      exact ⟨ret_t R.out, rfl⟩
theorem rd1_nat {l : List Nat} (h : l.length = 1) : 0 ≤ rd l := by
  unfold rd
  rw [if_neg (by omega), if_neg (by omega), if_pos h]
  omega
theorem mk_mark {x : Int} (h : 0 ≤ x) : decide (x ≤ 1) = mkB x := by
  unfold mkB
  rw [Bool.eq_iff_iff]
  simp only [Bool.or_eq_true, beq_iff_eq, decide_eq_true_eq]
  omega
end Go.Proofs.Ytllficloadncfaa.ref16
