/-
  'append' onto a row of bytes of a call's own: what was read of the old row is still read of it. Nothing of any one function. Conditions: as said.
-/
import Derived.Test.YtllficloadncfaaG07
import Derived.ArgAppend
import Derived.Shelf.Strings.Builder1
import Derived.Shelf.Strings.BuilderF
import Derived.Shelf.Strings.BuilderK
import Derived.Shelf.LaysM
import Derived.Shelf.Strconv.Clone
import Derived.Shelf.Strings.Search1
import Derived.Shelf.Strings.Search2
import Derived.Shelf.Strings.Cut
import Derived.Shelf.Strings.Shaped
import Derived.Shelf.Strings.BuilderCap
import Derived.Test.YtllficloadncfaaProg
namespace Go.Proofs.Ytllficloadncfaa.oct
open Go.ChangeShapes Go.WideShapes Go.ChangeAt Go.RowKit
open om mem
set_option linter.unusedVariables false
set_option maxRecDepth 100000

theorem run_keep {P : Program} (w : World) (base : Nat) (t ty e : TypeId) (i : TypeInfo) (z : Value) (size bytes : Nat) (ht : P.underlying t = some (.slice e)) (hi : P.info? e = some i) (hz : i.zero = some z)
    (hsize : i.size = size) (hby : i.bytes = bytes) (hzs : z.cells.size = size) (hsz : 0 < size)
    (v : Value) (n : Nat) (xs : List Value) (hown : w.ownsRow base e size v n xs)
    (a : Addr) (m c : Nat) (news : List Value) (hl : news.length = m * size) (hnews : ∀ j u, news[j]? = some u → w.cell? (a.add j) = some u) (h1 : ∀ u ∈ news, u.oneCell' = true)
    (h63 : n + m ≤ maxLen) (hbytes : (n + m) * bytes ≤ 140737488355328) (hbase : base ≤ w.heap.size) :
    ∃ v' w', (Builtin.append_ #[t, t] ty #[v, .slice (some a) m c]).run P w = .ok v' w' ∧ w'.ownsRow base e size v' (n + m) (xs ++ news) ∧ w.grownBy w' v.ownBlock ∧
      (∀ g cap, v = .slice (some ⟨g, 0, none⟩) n cap → g < w'.heap.size ∧ ∀ j u, xs[j]? = some u → w'.cell? ⟨g, j, none⟩ = some u) := by
  obtain ⟨v', w', hr, ho, hg, _⟩ := run_append_own (P := P) w base t ty e i z size bytes ht hi hz hsize hby hzs hsz v n xs hown a m c news hl hnews h1 h63 hbytes hbase
  refine ⟨v', w', hr, ho, hg, ?_⟩
  have hsmall : n + m ≤ 9223372036854775807 := by simp only [maxLen] at h63; omega
  rcases hown.2 with ⟨rfl, rfl⟩ | ⟨g, cap, cur, rfl, hbg, hh, hnc, hcm, hcs, htake⟩
  · intro g cap e; cases e
  · intro g' cap' e'
    cases e'
    by_cases hroom : n + m ≤ cap
    · have hfit : n * i.size + news.length ≤ cur.size := by rw [hl, hcs, hsize, ← Nat.add_mul]; exact Nat.mul_le_mul_right _ hroom
      have := run_append_room (P := P) w t ty e i ht hi g n cap cur hh a m c news (by rw [hl, hsize]) hnews h1 hroom hfit
      rw [this] at hr
      injection hr with h1 h2
      subst h1
      refine ⟨Nat.lt_of_lt_of_le (hp_lt hh) hg.size, fun j u hj => ?_⟩
      have hjl := (List.getElem?_eq_some_iff.1 hj).1
      have hxl : xs.length = n * size := hown.1
      rw [World.ownsRow.cellAt ho j (by rw [Nat.add_mul]; omega), List.getElem?_append_left hjl]
      exact hj
    · have := run_append_grow (P := P) w t ty e i z ht hi hz ⟨g, 0, none⟩ n cap xs (by rw [hown.1, hsize]) (fun j u hu => hown.cells (g := g) rfl j u hu) a m c news (by rw [hl, hsize]) hnews (by omega) (by omega) (by rw [hby]; exact growslice_fits (by omega) hbytes)
      rw [this] at hr
      injection hr with h1 h2
      subst h1 h2
      refine ⟨Nat.lt_of_lt_of_le (hp_lt hh) hg.size, fun j u hj => ?_⟩
      have hc := hown.cells (g := g) rfl j u hj
      rw [Addr.add_mid, Nat.zero_add] at hc
      exact ((bal (w := w.drew) (Below.refl _ _) _).cell (p := ⟨g, j, none⟩) (World.block_lt_of_cell? w _ hc)).trans hc
theorem old_of {W W' : World} {base : Nat} {v : Value} {l : List Nat} (h : Own base W v l) (hk : ∀ g cap, v = .slice (some ⟨g, 0, none⟩) l.length cap → g < W'.heap.size ∧ ∀ j u, (bc l)[j]? = some u → W'.cell? ⟨g, j, none⟩ = some u) : Old W' v l := by
  rcases h.2 with ⟨rfl, hn⟩ | ⟨g, cap, cur, rfl, hb, hh, hnc, _⟩
  · exact Or.inl ⟨rfl, List.eq_nil_of_length_eq_zero hn⟩
  · obtain ⟨h1, h2⟩ := hk g cap rfl
    refine Or.inr ⟨g, 0, cap, rfl, hnc, h1, fun k hk' => ?_⟩
    rw [Nat.zero_add]
    exact h2 k _ (by simp [bc, hk'])
/-- 'append(a, c, ..)', a a row of bytes of the call's own, the new ones a row just laid: a is read as it was. -/
theorem app_lit2 {ops : Array Oper} {rest : List Oper} {o : Oper} {a : Act} {Q : Exit → Act → World → Prop} (hgd : o.guard = none) (s x : Operand)
    (ho : o.op = .call { callee := .builtin .append, args := #[s, x], argTypes := #[29, 29] }) (base : Nat) (W : World) (v : Value) (l m : List Nat) (cs : Array Value) (k : Nat) (hk : k = m.length) (hcs : cs.toList = bc m)
    (hs : a.eval s = v) (hx : a.eval x = .slice (some ⟨W.heap.size, 0, none⟩) k k) (hown : Own base W v l) (hn : l.length + m.length < 8000000000000) (hbase : base ≤ W.heap.size)
    (h : ∀ v' w', Own base w' v' (l ++ m) → W.grownBy w' v.ownBlock → Old w' v l → wpList Try.prog ops Q rest (a.put o.dst v') w') :
    wpList Try.prog ops Q (o :: rest) a (W.alloc (.cells cs 5)) := by
  subst hk
  obtain ⟨i0, hi, hz0, hz1, hz2⟩ := info_parts infoB
  have hown' : Own base (W.alloc (.cells cs 5)) v l := World.ownsRow.alloc hown _
  obtain ⟨v', w', hr, h1, h2, h3⟩ := run_keep (P := Try.prog) (W.alloc (.cells cs 5)) base 29 o.type 5 i0 _ 1 1 Try.underlying29 hi hz0 hz1 hz2 rfl (by decide) v l.length (bc l) hown' ⟨W.heap.size, 0, none⟩ m.length m.length (bc m) (by rw [bc_len]; omega) (cell_lit W m _ cs hcs) (bc_one m) (by unfold maxLen; omega) (by omega) (by simp; omega)
  refine apl.list_app hgd s x _ _ ho v _ v' w' hs hx hr (h v' w' ?_ ((World.grownBy_alloc W _ _).trans h2) (old_of hown' h3))
  unfold Own
  rw [bc_app, List.length_append]
  exact h1
/-- 'append(a, xs...)'. -/
theorem app_any2 {ops : Array Oper} {rest : List Oper} {o : Oper} {a : Act} {Q : Exit → Act → World → Prop} (hgd : o.guard = none) (s x : Operand)
    (ho : o.op = .call { callee := .builtin .append, args := #[s, x], argTypes := #[29, 29] }) (base : Nat) (W : World) (v xv : Value) (l m : List Nat)
    (hs : a.eval s = v) (hx : a.eval x = xv) (hown : Own base W v l) (hr : RdW W xv m) (hn : l.length + m.length < 8000000000000) (hbase : base ≤ W.heap.size)
    (h : ∀ v' w', Own base w' v' (l ++ m) → W.grownBy w' v.ownBlock → Old w' v l → wpList Try.prog ops Q rest (a.put o.dst v') w') :
    wpList Try.prog ops Q (o :: rest) a W := by
  obtain ⟨A, cap, rfl, hc, hz, hr⟩ := hr
  cases A with
  | none =>
    have hm : m = [] := by
      refine Classical.byContradiction fun hne => ?_
      obtain ⟨b, o, e, _⟩ := hr hne
      cases e
    subst hm
    have hcap := hz rfl
    subst hcap
    obtain ⟨i0, hi, hz0, hz1, hz2⟩ := info_parts infoB
    refine wpList_append_own_none hgd s x 29 ho base 5 i0 1 Try.underlying29 hi v l.length (bc l) hs hown hx ?_
    exact h v W (by rw [List.append_nil]; exact hown) (World.grownBy.refl W _) (own_old hown)
  | some ad =>
    obtain ⟨i0, hi, hz0, hz1, hz2⟩ := info_parts infoB
    obtain ⟨v', w', hrun, h1, h2, h3⟩ := run_keep (P := Try.prog) W base 29 o.type 5 i0 _ 1 1 Try.underlying29 hi hz0 hz1 hz2 rfl (by decide) v l.length (bc l) hown ad m.length cap (bc m) (by rw [bc_len]; omega) (fun j u hu => by
      have hj : j < m.length := by have := (List.getElem?_eq_some_iff.1 hu).1; rw [bc_len] at this; exact this
      obtain ⟨b, o, e, hcell⟩ := hr (fun e => by rw [e] at hj; simp at hj)
      cases e
      rw [Addr.add_mid, hcell j hj, ← hu]
      simp [bc, hj]) (bc_one m) (by unfold maxLen; omega) (by omega) hbase
    refine apl.list_app hgd s x _ _ ho v _ v' w' hs hx hrun (h v' w' ?_ h2 (old_of hown h3))
    unfold Own
    rw [bc_app, List.length_append]
    exact h1
/-- 'append(b, c, ..)' where b has no room: a new row. -/
theorem app_full {ops : Array Oper} {rest : List Oper} {o : Oper} {a : Act} {Q : Exit → Act → World → Prop} (hgd : o.guard = none) (s x : Operand)
    (ho : o.op = .call { callee := .builtin .append, args := #[s, x], argTypes := #[29, 29] }) (base : Nat) (W : World) (g n : Nat) (l m : List Nat) (c0 cs : Array Value) (fr : Nat × Nat) (k : Nat) (hk : k = m.length) (hcs : cs.toList = bc m)
    (hs : a.eval s = .slice (some ⟨g, 0, none⟩) n n) (p : Nat) (hp : p = W.heap.size) (hx : a.eval x = .slice (some ⟨p, 0, none⟩) k k) (hn : n = l.length) (hg : W.heap[g]? = some (.cells c0 5 fr)) (hc0 : c0.toList = bc l) (hm : 0 < m.length) (hl : l.length + m.length < 8000000000000) (hbase : base ≤ W.heap.size)
    (h : ∀ v' w', Own base w' v' (l ++ m) → Below W.heap.size W w' → wpList Try.prog ops Q rest (a.put o.dst v') w') :
    wpList Try.prog ops Q (o :: rest) a (W.alloc (.cells cs 5)) := by
  subst hk hn hp
  obtain ⟨i0, hi, hz0, hz1, hz2⟩ := info_parts infoB
  obtain ⟨v', w', hr, h1, h2⟩ := run_append_arg_grows (P := Try.prog) (W.alloc (.cells cs 5)) 29 o.type 5 i0 _ 1 1 Try.underlying29 hi hz0 hz1 hz2 rfl (by decide) ⟨g, 0, none⟩ l.length l.length (bc l) (by rw [bc_len]; omega) (fun j u hu => by
    rw [Addr.add_mid, Nat.zero_add, row_cell (hp_old hg _) j, ← Array.getElem?_toList, hc0]; exact hu) ⟨W.heap.size, 0, none⟩ m.length m.length (bc m) (by rw [bc_len]; omega) (cell_lit W m _ cs hcs) (by omega) (by unfold maxLen; omega) (by omega)
  have hsz : (W.alloc (.cells cs 5)).heap.size = W.heap.size + 1 := by simp
  refine apl.list_app hgd s x _ _ ho _ _ v' w' hs hx hr (h v' w' (own_mono (base := (W.alloc (.cells cs 5)).heap.size) ?_ (by omega)) (btr (bal (Below.refl _ _) (.cells cs 5)) ((Below.refl _ _).grown h2 (Nat.le_refl _) (fun k hk => by cases hk))))
  unfold Own
  rw [bc_app, List.length_append]
  exact h1
end Go.Proofs.Ytllficloadncfaa.oct

/-
  Heads compared; and the small case that each statement of layer 15 begins with comes out true. No condition.
-/
namespace Go.Proofs.Ytllficloadncfaa.head
open Go.ChangeShapes Go.WideShapes Go.ChangeAt Go.RowKit
open om mem oct hd
set_option linter.unusedVariables false
set_option maxRecDepth 100000

/-- are two heads the same? -/
def hdB (a b : Hd) : Bool := a.v == b.v && (a.ut == b.ut && (a.sd == b.sd && (a.lp == b.lp && (a.tm == b.tm && (a.ty == b.ty && a.ch == b.ch)))))
theorem hdb_iff {a b : Hd} : hdB a b = true ↔ a = b := by
  unfold hdB
  simp only [Bool.and_eq_true, beq_iff_eq]
  constructor
  · rintro ⟨h1, h2, h3, h4, h5, h6, h7⟩
    exact Hd.ext7 h1 h2 h3 h4 h5 h6 h7
  · rintro rfl
    exact ⟨rfl, rfl, rfl, rfl, rfl, rfl, rfl⟩
theorem hdb_self (a : Hd) : hdB a a = true := hdb_iff.2 rfl
set_option maxHeartbeats 4000000 in
theorem eqH (a b : Hd) (W : World) : (Op.equalIn 10000 28 (.agg #[.int .i64 a.v, .int .i64 a.ut, .int .i64 a.sd, .int .i64 a.lp, .int .i64 a.tm, .int .i64 a.ty, .int .i64 a.ch]) (.agg #[.int .i64 b.v, .int .i64 b.ut, .int .i64 b.sd, .int .i64 b.lp, .int .i64 b.tm, .int .i64 b.ty, .int .i64 b.ch])).run Try.prog W = .ok (hdB a b) W := by
  obtain ⟨a0, a1, a2, a3, a4, a5, a6⟩ := a
  obtain ⟨b0, b1, b2, b3, b4, b5, b6⟩ := b
  unfold hdB
  simp only
  rw [run_equalIn_struct W 9999 28 _ _ (by kernel_rfl) (by kernel_rfl)]
  have hf : Try.prog.fieldsOf 28 = (match Try.prog.underlying 28 with | some (.struct fs) => fs | _ => #[]) := by kernel_rfl
  rw [Try.underlying28] at hf
  simp only at hf
  rw [hf]
  have p0 : ∀ x0 x1 x2 x3 x4 x5 x6 : Int, (part 3 #[.int .i64 x0, .int .i64 x1, .int .i64 x2, .int .i64 x3, .int .i64 x4, .int .i64 x5, .int .i64 x6] 0).run Try.prog W = .ok (.int .i64 x0) W := fun x0 x1 x2 x3 x4 x5 x6 => by simp [part, isAgg, run_underlying Try.underlying3]
  have p1 : ∀ x0 x1 x2 x3 x4 x5 x6 : Int, (part 3 #[.int .i64 x0, .int .i64 x1, .int .i64 x2, .int .i64 x3, .int .i64 x4, .int .i64 x5, .int .i64 x6] 1).run Try.prog W = .ok (.int .i64 x1) W := fun x0 x1 x2 x3 x4 x5 x6 => by simp [part, isAgg, run_underlying Try.underlying3]
  have p2 : ∀ x0 x1 x2 x3 x4 x5 x6 : Int, (part 3 #[.int .i64 x0, .int .i64 x1, .int .i64 x2, .int .i64 x3, .int .i64 x4, .int .i64 x5, .int .i64 x6] 2).run Try.prog W = .ok (.int .i64 x2) W := fun x0 x1 x2 x3 x4 x5 x6 => by simp [part, isAgg, run_underlying Try.underlying3]
  have p3 : ∀ x0 x1 x2 x3 x4 x5 x6 : Int, (part 3 #[.int .i64 x0, .int .i64 x1, .int .i64 x2, .int .i64 x3, .int .i64 x4, .int .i64 x5, .int .i64 x6] 3).run Try.prog W = .ok (.int .i64 x3) W := fun x0 x1 x2 x3 x4 x5 x6 => by simp [part, isAgg, run_underlying Try.underlying3]
  have p4 : ∀ x0 x1 x2 x3 x4 x5 x6 : Int, (part 3 #[.int .i64 x0, .int .i64 x1, .int .i64 x2, .int .i64 x3, .int .i64 x4, .int .i64 x5, .int .i64 x6] 4).run Try.prog W = .ok (.int .i64 x4) W := fun x0 x1 x2 x3 x4 x5 x6 => by simp [part, isAgg, run_underlying Try.underlying3]
  have p5 : ∀ x0 x1 x2 x3 x4 x5 x6 : Int, (part 3 #[.int .i64 x0, .int .i64 x1, .int .i64 x2, .int .i64 x3, .int .i64 x4, .int .i64 x5, .int .i64 x6] 5).run Try.prog W = .ok (.int .i64 x5) W := fun x0 x1 x2 x3 x4 x5 x6 => by simp [part, isAgg, run_underlying Try.underlying3]
  have p6 : ∀ x0 x1 x2 x3 x4 x5 x6 : Int, (part 3 #[.int .i64 x0, .int .i64 x1, .int .i64 x2, .int .i64 x3, .int .i64 x4, .int .i64 x5, .int .i64 x6] 6).run Try.prog W = .ok (.int .i64 x6) W := fun x0 x1 x2 x3 x4 x5 x6 => by simp [part, isAgg, run_underlying Try.underlying3]
  have e3 : ∀ x y : Int, (Op.equalIn 9999 3 (.int .i64 x) (.int .i64 y)).run Try.prog W = .ok (x == y) W := fun x y => run_equalIn_int W 9998 3 .i64 .i64 x y Try.underlying3
  by_cases h0 : a0 = b0
  rotate_left
  · simp [Op.eqFields, Sem.run_bind, p0, e3, h0]
  by_cases h1 : a1 = b1
  rotate_left
  · simp [Op.eqFields, Sem.run_bind, p0, p1, e3, h0, h1]
  by_cases h2 : a2 = b2
  rotate_left
  · simp [Op.eqFields, Sem.run_bind, p0, p1, p2, e3, h0, h1, h2]
  by_cases h3 : a3 = b3
  rotate_left
  · simp [Op.eqFields, Sem.run_bind, p0, p1, p2, p3, e3, h0, h1, h2, h3]
  by_cases h4 : a4 = b4
  rotate_left
  · simp [Op.eqFields, Sem.run_bind, p0, p1, p2, p3, p4, e3, h0, h1, h2, h3, h4]
  by_cases h5 : a5 = b5
  rotate_left
  · simp [Op.eqFields, Sem.run_bind, p0, p1, p2, p3, p4, p5, e3, h0, h1, h2, h3, h4, h5]
  by_cases h6 : a6 = b6
  · simp [Op.eqFields, Sem.run_bind, p0, p1, p2, p3, p4, p5, p6, e3, h0, h1, h2, h3, h4, h5, h6]
  · simp [Op.eqFields, Sem.run_bind, p0, p1, p2, p3, p4, p5, p6, e3, h0, h1, h2, h3, h4, h5, h6]
def H1 : Hd := ⟨2, 0, 1, 0, 3, 1, 4⟩
def H2 : Hd := ⟨5, 0, 0, 0, 0, 1, 4⟩
def H3 : Hd := ⟨1, 0, 0, 0, 0, 1, 4⟩
theorem byts1 : byts H1 = [84, 90, 105, 102, 50, 0, 0, 0, 0, 0, 0, 0, 0, 0, 0, 0, 0, 0, 0, 0, 0, 0, 0, 0, 0, 0, 0, 1, 0, 0, 0, 0, 0, 0, 0, 3, 0, 0, 0, 1, 0, 0, 0, 4] := by decide +kernel
theorem ok1 : hd.okB H1 = true := by decide +kernel
theorem ok2 : hd.okB H2 = false := by decide +kernel
theorem ok3 : hd.okB H3 = true := by decide +kernel
def L1 : List Nat := [84, 90, 105, 102, 50, 0, 0, 0, 0, 0, 0, 0, 0, 0, 0, 0, 0, 0, 0, 0, 0, 0, 0, 0, 0, 0, 0, 1, 0, 0, 0, 0, 0, 0, 0, 3, 0, 0, 0, 1, 0, 0, 0, 4]
def L3 : List Nat := [84, 90, 105, 102, 0, 0, 0, 0, 0, 0, 0, 0, 0, 0, 0, 0, 0, 0, 0, 0, 0, 0, 0, 0, 0, 0, 0, 0, 0, 0, 0, 0, 0, 0, 0, 0, 0, 0, 0, 1, 0, 0, 0, 4]
theorem byts1' : byts H1 = L1 := by decide +kernel
theorem byts3' : byts H3 = L3 := by decide +kernel
theorem bys1 : Bys L1 := bys_lit (by decide +kernel)
theorem own44 {base : Nat} {W : World} {v : Value} {l : List Nat} (h : Own base W v l) (hl : l.length = 44) : ∃ g c, v = .slice (some ⟨g, 0, none⟩) 44 c ∧ 44 ≤ c := by
  rcases h.2 with ⟨rfl, hn⟩ | ⟨g, cap, cur, rfl, hb, hh, hnc, _⟩
  · omega
  · exact ⟨g, cap, by rw [hl], by omega⟩
theorem old_cells {W : World} {g c : Nat} {l : List Nat} (h : Old W (.slice (some ⟨g, 0, none⟩) 44 c) l) (hl : l.length = 44) (k : Nat) (hk : k < 44) : W.cell? ⟨g, k, none⟩ = some (.int .u8 (l[k]'(by omega) : Nat)) := by
  rcases h with ⟨e, _⟩ | ⟨b, o, cap, e, hc, hp, hr⟩
  · cases e
  · injection e with e1 e2 e3
    injection e1 with e1
    injection e1 with e1 e4
    subst e1 e4
    have := hr k (by omega)
    rw [Nat.zero_add] at this
    exact this
theorem old_rd44 {W : World} {g c : Nat} {l : List Nat} (h : Old W (.slice (some ⟨g, 0, none⟩) 44 c) l) (hl : l.length = 44) (f : Nat) (hf : f ≤ 44) : RdW W (.slice (some ⟨g, 0, none⟩) f c) (l.take f) := by
  refine RdW.head (l := l) ?_ f (by omega)
  rw [hl]
  exact h.rd
theorem str6 : strN (L1.take 6) = ⟨#[84, 90, 105, 102, 50, 0]⟩ := by decide +kernel
end Go.Proofs.Ytllficloadncfaa.head

/-
  Heads that came in by value. Conditions: the row's own.
-/
namespace Go.Proofs.Ytllficloadncfaa.head
open Go.ChangeShapes Go.WideShapes Go.ChangeAt Go.RowKit
open om mem oct hd
set_option linter.unusedVariables false
set_option maxRecDepth 100000

/-- its numbers are of 64 bits. -/
def Bd (h : Hd) : Prop := I64 h.v ∧ I64 h.ut ∧ I64 h.sd ∧ I64 h.lp ∧ I64 h.tm ∧ I64 h.ty ∧ I64 h.ch
theorem cH : Try.prog.cellsOf 28 = 7 := by kernel_rfl
theorem cI : Try.prog.cellsOf 3 = 1 := by kernel_rfl
theorem one_field {H : Type} {enc : TypeId × Value → H} {W : World} {n : Nat} {l : List Value} {k : Nat} {c : Value} {xs : List (DataW H × List MemPlace)} (hl : l[k]? = some c) (hk : k < xs.length)
    (h : DataW.trod enc Try.prog W 0 (fun _ => true) true n 3 ((l.drop k).take (Try.prog.cellsOf 3)) = xs[k]?) : ∃ z, c = .int .i64 z ∧ I64 z := by
  rw [List.getElem?_eq_getElem hk] at h
  obtain ⟨z, e0, _, hw⟩ := DataW.trod_int Try.underlying3 h
  rw [cI] at e0
  refine ⟨z, ?_, bounds_i64 hw⟩
  have := congrArg (fun l => l[0]?) e0
  simp only [List.getElem?_take, List.getElem?_drop, Nat.add_zero, List.getElem?_cons_zero] at this
  rw [hl] at this
  simpa using this
theorem open_head {H : Type} {enc : TypeId × Value → H} {W : World} {base : Nat} {v : Value} {d : DataW H} {p : List MemPlace} (hv : Value.okWide Try.prog W .any base 28 v) (h : DataW.Trod enc Try.prog W 0 (fun _ => true) true 28 v d p) :
    ∃ h : Hd, v = (.agg #[.int .i64 h.v, .int .i64 h.ut, .int .i64 h.sd, .int .i64 h.lp, .int .i64 h.tm, .int .i64 h.ty, .int .i64 h.ch]) ∧ Bd h := by
  obtain ⟨cs, rfl, hsz⟩ := okWide_struct Try.underlying28 hv
  rw [cH] at hsz
  obtain ⟨l⟩ := cs
  obtain ⟨fuel, hf⟩ := h
  have hf' : DataW.trod enc Try.prog W 0 (fun _ => true) true fuel 28 l = some (d, p) := hf
  obtain ⟨xs, m, _, hx, hl, hn, hel⟩ := DataW.trod_struct Try.underlying28 hf'
  have hsz' : l.length = 7 := hsz
  have hn' : xs.length = 7 := hn
  match l, hsz' with
  | [c0, c1, c2, c3, c4, c5, c6], _ =>
    obtain ⟨z0, rfl, b0⟩ := one_field (k := 0) rfl (by omega) (hel 0 _ rfl)
    obtain ⟨z1, rfl, b1⟩ := one_field (k := 1) rfl (by omega) (hel 1 _ rfl)
    obtain ⟨z2, rfl, b2⟩ := one_field (k := 2) rfl (by omega) (hel 2 _ rfl)
    obtain ⟨z3, rfl, b3⟩ := one_field (k := 3) rfl (by omega) (hel 3 _ rfl)
    obtain ⟨z4, rfl, b4⟩ := one_field (k := 4) rfl (by omega) (hel 4 _ rfl)
    obtain ⟨z5, rfl, b5⟩ := one_field (k := 5) rfl (by omega) (hel 5 _ rfl)
    obtain ⟨z6, rfl, b6⟩ := one_field (k := 6) rfl (by omega) (hel 6 _ rfl)
    exact ⟨⟨z0, z1, z2, z3, z4, z5, z6⟩, rfl, b0, b1, b2, b3, b4, b5, b6⟩
end Go.Proofs.Ytllficloadncfaa.head

/-
  What Encode and Decode answer, as the walks of layer 15's statements want it. Condition: as said.
-/
namespace Go.Proofs.Ytllficloadncfaa.head
open Go.ChangeShapes Go.WideShapes Go.ChangeAt Go.RowKit
open om mem oct hd
set_option linter.unusedVariables false
set_option maxRecDepth 100000

theorem eqZ (W : World) : (Op.equalIn 10000 28 (.agg #[.int .i64 0, .int .i64 0, .int .i64 0, .int .i64 0, .int .i64 0, .int .i64 0, .int .i64 0]) (.agg #[.int .i64 0, .int .i64 0, .int .i64 0, .int .i64 0, .int .i64 0, .int .i64 0, .int .i64 0])).run Try.prog W = .ok true W := by
  have := eqH zero zero W
  rw [hdb_self] at this
  exact this
/-- a conversion at a step of a region that draws its order around calls that make memory. -/
theorem qconv {P : Program} {ops : Array Oper} {C : World → Prop} {Q : Act → Prop} {a : Act} {o : Oper} {rest : List Oper} (hw : Region.wanted o (yielded ops a.tmps) = true) (ft tt : TypeId) (x : Operand) (ho : o.op = .convert ft tt x) (s : Value)
    (hl : ∀ W, C W → (convert ft tt (a.eval x)).run P W = .ok s W) (h : wpQuiet P ops C Q rest (a.put o.dst s)) : wpQuiet P ops C Q (o :: rest) a := by
  refine wpQuiet_step (fun K hK => ?_)
  rw [if_pos hw]
  refine ⟨s, fun W hW => ?_, hK _ h⟩
  have := hl W hW
  unfold Oper.quietAt execOp
  simp only [ho, Sem.run_bind, Sem.run_pure, Result.andThen_ok, this]
  exact ⟨rfl, rfl⟩
end Go.Proofs.Ytllficloadncfaa.head

/-
  Contracts of the library's functions strings_Cut, Builder_String_any, stringslite_Clone at this program, each one application of the kit's own theorem, laid by the kit's command. No condition beside those in the statements.
-/
namespace Go.Proofs
open Go.Shelf
def Try.lays169_ren : Go.Shelf.Ren := ⟨fun | 169 => 41 | n => n, fun | 70 => 76 | 9 => 9 | 0 => 0 | 72 => 78 | 37 => 29 | 127 => 103 | 3 => 3 | 5 => 5 | n => n, fun | n => n⟩
theorem Try.lays169 : Go.Proofs.Lays.n169 Try.prog Try.lays169_ren := {
  mixed := by kernel_rfl
  f169 := Try.func41.trans (congrArg some (by kernel_rfl))
  t0 := Try.underlying0
  a0 := Try.isAgg0
  z0 := Try.sizeOf0
  v0 := Try.zeroValue0
  t3 := Try.underlying3
  a3 := Try.isAgg3
  z3 := Try.sizeOf3
  v3 := Try.zeroValue3
  t9 := Try.underlying9
  a9 := Try.isAgg9
  z9 := Try.sizeOf9
  v9 := Try.zeroValue9
  t37 := Try.underlying29
  a37 := Try.isAgg29
  z37 := Try.sizeOf29
  v37 := Try.zeroValue29
  t70 := Try.underlying76
  a70 := Try.isAgg76
  z70 := Try.sizeOf76
  v70 := Try.zeroValue76
  t72 := Try.underlying78
  a72 := Try.isAgg78
  z72 := Try.sizeOf78
  v72 := Try.zeroValue78
  t127 := Try.underlying103
  a127 := Try.isAgg103
  z127 := Try.sizeOf103
  v127 := Try.zeroValue103 }
theorem Try.Builder_Extra_169 : Builder.Extra Try.prog Try.lays169_ren := {
  sizeBuilder := by kernel_rfl
  liesBuilder := by kernel_rfl
  t5 := Try.underlying5
  a5 := Try.isAgg5
  z5 := Try.sizeOf5
  v5 := Try.zeroValue5
  infoByte := by kernel_rfl
  cellsByte := by kernel_rfl
  sizeByte := by kernel_rfl
  neB5 := by decide }
open Go.RowKit in
theorem Try.Builder_String_any (B b : Nat) (l : List UInt8) (w : World) (h : Lib.IsBuilder 78 5 B b (Lib.byteCells l) w) (hBw : B ≤ w.heap.size) :
    Calls Try.prog 41 #[.pointer (some ⟨b, 0, none⟩)] w fun e w' => e = .returned (.string ⟨l.toArray⟩) ∧ Below B w w' := Any.Builder_String_any Try.lays169 Try.Builder_Extra_169 B b l w h hBw
open Go.RowKit in
theorem Try.Builder_String_any_f (B b : Nat) (l : List UInt8) (w : World) (h : Lib.IsBuilderF 78 5 B b (Lib.byteCells l) w) (hBw : B ≤ w.heap.size) :
    Calls Try.prog 41 #[.pointer (some ⟨b, 0, none⟩)] w fun e w' => e = .returned (.string ⟨l.toArray⟩) ∧ (Lib.IsBuilderF 78 5 B b (Lib.byteCells l) w' ∧ Below B w w') := Any.Builder_String_any_f Try.lays169 Try.Builder_Extra_169 B b l w h hBw
open Go.RowKit in
theorem Try.Builder_String_any_k (B b : Nat) (l : List UInt8) (w : World) (h : Lib.IsBuilderF 78 5 B b (Lib.byteCells l) w) (hBw : B ≤ w.heap.size) :
    Calls Try.prog 41 #[.pointer (some ⟨b, 0, none⟩)] w fun e w' => e = .returned (.string ⟨l.toArray⟩) ∧ (Lib.IsBuilderF 78 5 B b (Lib.byteCells l) w' ∧ Below B w w' ∧ Lib.OthersKept 5 (some b) w w') := Any.Builder_String_any_k Try.lays169 Try.Builder_Extra_169 B b l w h hBw
def Try.laysM316_ren : Go.Shelf.Ren := ⟨fun | 316 => 65 | n => n, fun | 9 => 9 | 3 => 3 | 4 => 4 | 37 => 29 | 0 => 0 | 127 => 103 | 5 => 5 | n => n, fun | n => n⟩
theorem Try.laysM316 : Go.Proofs.LaysM.n316 Try.prog Try.laysM316_ren := {
  mixed := by kernel_rfl
  f316 := Try.func65.trans (congrArg some (by kernel_rfl))
  t0 := Try.underlying0
  a0 := Try.isAgg0
  z0 := Try.sizeOf0
  v0 := Try.zeroValue0
  t3 := Try.underlying3
  a3 := Try.isAgg3
  z3 := Try.sizeOf3
  v3 := Try.zeroValue3
  t4 := Try.underlying4
  a4 := Try.isAgg4
  z4 := Try.sizeOf4
  v4 := Try.zeroValue4
  t9 := Try.underlying9
  a9 := Try.isAgg9
  z9 := Try.sizeOf9
  v9 := Try.zeroValue9
  t37 := Try.underlying29
  a37 := Try.isAgg29
  z37 := Try.sizeOf29
  v37 := Try.zeroValue29
  t127 := Try.underlying103
  a127 := Try.isAgg103
  z127 := Try.sizeOf103
  v127 := Try.zeroValue103
  t5 := Try.underlying5
  a5 := Try.isAgg5
  z5 := Try.sizeOf5
  v5 := Try.zeroValue5
  i0 := by kernel_rfl
  i3 := by kernel_rfl
  i4 := by kernel_rfl
  i5 := by kernel_rfl
  i9 := by kernel_rfl
  i37 := by kernel_rfl
  i127 := by kernel_rfl }
open Go.RowKit in
theorem Try.stringslite_Clone (s : ByteArray) (w : World) (hlim : s.size ≤ 281474976710656) :
    Calls Try.prog 65 #[.string s] w fun e w' => e = .returned (.string s) ∧ Below w.heap.size w w' := Any.stringslite_Clone Try.laysM316 s w hlim
def Try.lays145_ren : Go.Shelf.Ren := ⟨fun | 145 => 59 | 220 => 64 | 219 => 66 | 217 => 67 | 225 => 68 | 224 => 69 | 267 => 70 | 266 => 71 | 314 => 72 | n => n, fun | 9 => 9 | 4 => 4 | 59 => 105 | 3 => 3 | 5 => 5 | 46 => 100 | 146 => 113 | 51 => 101 | n => n, fun | 1 => 0 | n => n⟩
theorem Try.lays145 : Go.Proofs.Lays.n145 Try.prog Try.lays145_ren := {
  mixed := by kernel_rfl
  f145 := Try.func59.trans (congrArg some (by kernel_rfl))
  f217 := Try.func67.trans (congrArg some (by kernel_rfl))
  f219 := Try.func66.trans (congrArg some (by kernel_rfl))
  f220 := Try.func64.trans (congrArg some (by kernel_rfl))
  f224 := Try.func69.trans (congrArg some (by kernel_rfl))
  f225 := Try.func68.trans (congrArg some (by kernel_rfl))
  f266 := Try.func71.trans (congrArg some (by kernel_rfl))
  f267 := Try.func70.trans (congrArg some (by kernel_rfl))
  f314 := Try.func72.trans (congrArg some (by kernel_rfl))
  t3 := Try.underlying3
  a3 := Try.isAgg3
  z3 := Try.sizeOf3
  v3 := Try.zeroValue3
  t4 := Try.underlying4
  a4 := Try.isAgg4
  z4 := Try.sizeOf4
  v4 := Try.zeroValue4
  t5 := Try.underlying5
  a5 := Try.isAgg5
  z5 := Try.sizeOf5
  v5 := Try.zeroValue5
  t9 := Try.underlying9
  a9 := Try.isAgg9
  z9 := Try.sizeOf9
  v9 := Try.zeroValue9
  t46 := Try.underlying100
  a46 := Try.isAgg100
  z46 := Try.sizeOf100
  v46 := Try.zeroValue100
  t51 := Try.underlying101
  a51 := Try.isAgg101
  z51 := Try.sizeOf101
  v51 := Try.zeroValue101
  t59 := Try.underlying105
  a59 := Try.isAgg105
  z59 := Try.sizeOf105
  v59 := Try.zeroValue105
  t146 := Try.underlying113
  a146 := Try.isAgg113
  z146 := Try.sizeOf113
  v146 := Try.zeroValue113
  g1 := by kernel_rfl }
open Go.RowKit Go.Lib in
theorem Try.strings_Cut (s sep : ByteArray) (m : Int) (w : World) (hs : s.size < 4294967281) (hm : w.cell? ⟨0, 0, none⟩ = some (.int .i64 m)) :
    Calls Try.prog 59 #[.string s, .string sep] w fun e w' => e = .returned (.tuple #[.string ⟨(Lib.cut s.data.toList sep.data.toList).1.toArray⟩, .string ⟨(Lib.cut s.data.toList sep.data.toList).2.1.toArray⟩, .bool (Lib.cut s.data.toList sep.data.toList).2.2]) ∧ ∃ n, w' = w.drewN n := Any.strings_Cut Try.lays145 s sep m w hs hm
def Try.laysM145_ren : Go.Shelf.Ren := ⟨fun | 145 => 59 | 220 => 64 | 219 => 66 | 217 => 67 | 225 => 68 | 224 => 69 | 267 => 70 | 266 => 71 | 314 => 72 | n => n, fun | 9 => 9 | 4 => 4 | 59 => 105 | 3 => 3 | 5 => 5 | 46 => 100 | 146 => 113 | 51 => 101 | n => n, fun | 1 => 0 | n => n⟩
theorem Try.laysM145 : Go.Proofs.LaysM.n145 Try.prog Try.laysM145_ren := {
  mixed := by kernel_rfl
  f145 := Try.func59.trans (congrArg some (by kernel_rfl))
  f217 := Try.func67.trans (congrArg some (by kernel_rfl))
  f219 := Try.func66.trans (congrArg some (by kernel_rfl))
  f220 := Try.func64.trans (congrArg some (by kernel_rfl))
  f224 := Try.func69.trans (congrArg some (by kernel_rfl))
  f225 := Try.func68.trans (congrArg some (by kernel_rfl))
  f266 := Try.func71.trans (congrArg some (by kernel_rfl))
  f267 := Try.func70.trans (congrArg some (by kernel_rfl))
  f314 := Try.func72.trans (congrArg some (by kernel_rfl))
  t3 := Try.underlying3
  a3 := Try.isAgg3
  z3 := Try.sizeOf3
  v3 := Try.zeroValue3
  t4 := Try.underlying4
  a4 := Try.isAgg4
  z4 := Try.sizeOf4
  v4 := Try.zeroValue4
  t5 := Try.underlying5
  a5 := Try.isAgg5
  z5 := Try.sizeOf5
  v5 := Try.zeroValue5
  t9 := Try.underlying9
  a9 := Try.isAgg9
  z9 := Try.sizeOf9
  v9 := Try.zeroValue9
  t46 := Try.underlying100
  a46 := Try.isAgg100
  z46 := Try.sizeOf100
  v46 := Try.zeroValue100
  t51 := Try.underlying101
  a51 := Try.isAgg101
  z51 := Try.sizeOf101
  v51 := Try.zeroValue101
  t59 := Try.underlying105
  a59 := Try.isAgg105
  z59 := Try.sizeOf105
  v59 := Try.zeroValue105
  t146 := Try.underlying113
  a146 := Try.isAgg113
  z146 := Try.sizeOf113
  v146 := Try.zeroValue113
  g1 := by kernel_rfl
  i3 := by kernel_rfl
  i4 := by kernel_rfl
  i5 := by kernel_rfl
  i9 := by kernel_rfl
  i46 := by kernel_rfl
  i51 := by kernel_rfl
  i59 := by kernel_rfl
  i146 := by kernel_rfl
  m1 := by kernel_rfl
  s1_3 := fun w h => Go.Proofs.cell_of_shapedOpen_int (zero := #[.int .i64 0]) (t := 3) h (of_decide_eq_true (by kernel_rfl)) (by kernel_rfl) rfl (by kernel_rfl) (by kernel_rfl) Try.underlying3 }
open Go.RowKit Go.Lib in
theorem Try.strings_Cut_shaped (s sep : ByteArray) (w : World) (h : w.ShapedOpen Try.prog) (hs : s.size < 4294967281) :
    Calls Try.prog 59 #[.string s, .string sep] w fun e w' => e = .returned (.tuple #[.string ⟨(Lib.cut s.data.toList sep.data.toList).1.toArray⟩, .string ⟨(Lib.cut s.data.toList sep.data.toList).2.1.toArray⟩, .bool (Lib.cut s.data.toList sep.data.toList).2.2]) ∧ ∃ n, w' = w.drewN n := Any.strings_Cut_shaped Try.laysM145 s sep w h hs
end Go.Proofs
