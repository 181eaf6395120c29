/-
  'append' onto a row of bytes of a call's own: what was read of the old row is still read of it. Nothing of any one function. Conditions: as said.
-/
import Derived.Test.YtkdmecpelfcbmaaOctWalk
import Derived.Test.YtkdmecpelfcbmaaAppLoc
import Derived.ArgAppend
namespace Go.Proofs.Ytkdmecpelfcbmaa.oct
open Go.ChangeShapes Go.WideShapes Go.ChangeAt Go.RowKit
open om mem
set_option linter.unusedVariables false
set_option maxRecDepth 100000

theorem run_keep {P : Program} (w : World) (base : Nat) (t ty e : TypeId) (i : TypeInfo) (z : Value) (size bytes : Nat) (ht : P.underlying t = some (.slice e)) (hi : P.info? e = some i) (hz : i.zero = some z)
    (hsize : i.size = size) (hby : i.bytes = bytes) (hzs : z.cells.size = size) (hsz : 0 < size)
    (v : Value) (n : Nat) (xs : List Value) (hown : w.ownsRow base e size v n xs)
    (a : Addr) (m c : Nat) (news : List Value) (hl : news.length = m * size) (hnews : ∀ j u, news[j]? = some u → w.cell? (a.add j) = some u) (h1 : ∀ u ∈ news, u.oneCell' = true)
    (h63 : n + m ≤ maxLen) (hbytes : (n + m) * bytes ≤ 140737488355328) (hbase : base ≤ w.heap.size) :
    ∃ v' w', (Builtin.append_ #[t, t] ty #[v, .slice (some a) m c]).run P w = .ok v' w' ∧ w'.ownsRow base e size v' (n + m) (xs ++ news) ∧ w.grownBy w' v.ownBlock ∧
      (∀ g cap, v = .slice (some ⟨g, 0, none⟩) n cap → g < w'.heap.size ∧ ∀ j u, xs[j]? = some u → w'.cell? ⟨g, j, none⟩ = some u) := by
  obtain ⟨v', w', hr, ho, hg, _⟩ := run_append_own (P := P) w base t ty e i z size bytes ht hi hz hsize hby hzs hsz v n xs hown a m c news hl hnews h1 h63 hbytes hbase
  refine ⟨v', w', hr, ho, hg, ?_⟩
  have hsmall : n + m ≤ 9223372036854775807 := by simp only [maxLen] at h63; omega
  rcases hown.2 with ⟨rfl, rfl⟩ | ⟨g, cap, cur, rfl, hbg, hh, hnc, hcm, hcs, htake⟩
  · intro g cap e; cases e
  · intro g' cap' e'
    cases e'
    by_cases hroom : n + m ≤ cap
    · have hfit : n * i.size + news.length ≤ cur.size := by rw [hl, hcs, hsize, ← Nat.add_mul]; exact Nat.mul_le_mul_right _ hroom
      have := run_append_room (P := P) w t ty e i ht hi g n cap cur hh a m c news (by rw [hl, hsize]) hnews h1 hroom hfit
      rw [this] at hr
      injection hr with h1 h2
      subst h1
      refine ⟨Nat.lt_of_lt_of_le (hp_lt hh) hg.size, fun j u hj => ?_⟩
      have hjl := (List.getElem?_eq_some_iff.1 hj).1
      have hxl : xs.length = n * size := hown.1
      rw [World.ownsRow.cellAt ho j (by rw [Nat.add_mul]; omega), List.getElem?_append_left hjl]
      exact hj
    · have := run_append_grow (P := P) w t ty e i z ht hi hz ⟨g, 0, none⟩ n cap xs (by rw [hown.1, hsize]) (fun j u hu => hown.cells (g := g) rfl j u hu) a m c news (by rw [hl, hsize]) hnews (by omega) (by omega) (by rw [hby]; exact growslice_fits (by omega) hbytes)
      rw [this] at hr
      injection hr with h1 h2
      subst h1 h2
      refine ⟨Nat.lt_of_lt_of_le (hp_lt hh) hg.size, fun j u hj => ?_⟩
      have hc := hown.cells (g := g) rfl j u hj
      rw [Addr.add_mid, Nat.zero_add] at hc
      exact ((bal (w := w.drew) (Below.refl _ _) _).cell (p := ⟨g, j, none⟩) (World.block_lt_of_cell? w _ hc)).trans hc
theorem old_of {W W' : World} {base : Nat} {v : Value} {l : List Nat} (h : Own base W v l) (hk : ∀ g cap, v = .slice (some ⟨g, 0, none⟩) l.length cap → g < W'.heap.size ∧ ∀ j u, (bc l)[j]? = some u → W'.cell? ⟨g, j, none⟩ = some u) : Old W' v l := by
  rcases h.2 with ⟨rfl, hn⟩ | ⟨g, cap, cur, rfl, hb, hh, hnc, _⟩
  · exact Or.inl ⟨rfl, List.eq_nil_of_length_eq_zero hn⟩
  · obtain ⟨h1, h2⟩ := hk g cap rfl
    refine Or.inr ⟨g, 0, cap, rfl, hnc, h1, fun k hk' => ?_⟩
    rw [Nat.zero_add]
    exact h2 k _ (by simp [bc, hk'])
/-- 'append(a, c, ..)', a a row of bytes of the call's own, the new ones a row just laid: a is read as it was. -/
theorem app_lit2 {ops : Array Oper} {rest : List Oper} {o : Oper} {a : Act} {Q : Exit → Act → World → Prop} (hgd : o.guard = none) (s x : Operand)
    (ho : o.op = .call { callee := .builtin .append, args := #[s, x], argTypes := #[29, 29] }) (base : Nat) (W : World) (v : Value) (l m : List Nat) (cs : Array Value) (k : Nat) (hk : k = m.length) (hcs : cs.toList = bc m)
    (hs : a.eval s = v) (hx : a.eval x = .slice (some ⟨W.heap.size, 0, none⟩) k k) (hown : Own base W v l) (hn : l.length + m.length < 8000000000000) (hbase : base ≤ W.heap.size)
    (h : ∀ v' w', Own base w' v' (l ++ m) → W.grownBy w' v.ownBlock → Old w' v l → wpList Try.prog ops Q rest (a.put o.dst v') w') :
    wpList Try.prog ops Q (o :: rest) a (W.alloc (.cells cs 5)) := by
  subst hk
  obtain ⟨i0, hi, hz0, hz1, hz2⟩ := info_parts infoB
  have hown' : Own base (W.alloc (.cells cs 5)) v l := World.ownsRow.alloc hown _
  obtain ⟨v', w', hr, h1, h2, h3⟩ := run_keep (P := Try.prog) (W.alloc (.cells cs 5)) base 29 o.type 5 i0 _ 1 1 Try.underlying29 hi hz0 hz1 hz2 rfl (by decide) v l.length (bc l) hown' ⟨W.heap.size, 0, none⟩ m.length m.length (bc m) (by rw [bc_len]; omega) (cell_lit W m _ cs hcs) (bc_one m) (by unfold maxLen; omega) (by omega) (by simp; omega)
  refine apl.list_app hgd s x _ _ ho v _ v' w' hs hx hr (h v' w' ?_ ((World.grownBy_alloc W _ _).trans h2) (old_of hown' h3))
  unfold Own
  rw [bc_app, List.length_append]
  exact h1
/-- 'append(a, xs...)'. -/
theorem app_any2 {ops : Array Oper} {rest : List Oper} {o : Oper} {a : Act} {Q : Exit → Act → World → Prop} (hgd : o.guard = none) (s x : Operand)
    (ho : o.op = .call { callee := .builtin .append, args := #[s, x], argTypes := #[29, 29] }) (base : Nat) (W : World) (v xv : Value) (l m : List Nat)
    (hs : a.eval s = v) (hx : a.eval x = xv) (hown : Own base W v l) (hr : RdW W xv m) (hn : l.length + m.length < 8000000000000) (hbase : base ≤ W.heap.size)
    (h : ∀ v' w', Own base w' v' (l ++ m) → W.grownBy w' v.ownBlock → Old w' v l → wpList Try.prog ops Q rest (a.put o.dst v') w') :
    wpList Try.prog ops Q (o :: rest) a W := by
  obtain ⟨A, cap, rfl, hc, hz, hr⟩ := hr
  cases A with
  | none =>
    have hm : m = [] := by
      refine Classical.byContradiction fun hne => ?_
      obtain ⟨b, o, e, _⟩ := hr hne
      cases e
    subst hm
    have hcap := hz rfl
    subst hcap
    obtain ⟨i0, hi, hz0, hz1, hz2⟩ := info_parts infoB
    refine wpList_append_own_none hgd s x 29 ho base 5 i0 1 Try.underlying29 hi v l.length (bc l) hs hown hx ?_
    exact h v W (by rw [List.append_nil]; exact hown) (World.grownBy.refl W _) (own_old hown)
  | some ad =>
    obtain ⟨i0, hi, hz0, hz1, hz2⟩ := info_parts infoB
    obtain ⟨v', w', hrun, h1, h2, h3⟩ := run_keep (P := Try.prog) W base 29 o.type 5 i0 _ 1 1 Try.underlying29 hi hz0 hz1 hz2 rfl (by decide) v l.length (bc l) hown ad m.length cap (bc m) (by rw [bc_len]; omega) (fun j u hu => by
      have hj : j < m.length := by have := (List.getElem?_eq_some_iff.1 hu).1; rw [bc_len] at this; exact this
      obtain ⟨b, o, e, hcell⟩ := hr (fun e => by rw [e] at hj; simp at hj)
      cases e
      rw [Addr.add_mid, hcell j hj, ← hu]
      simp [bc, hj]) (bc_one m) (by unfold maxLen; omega) (by omega) hbase
    refine apl.list_app hgd s x _ _ ho v _ v' w' hs hx hrun (h v' w' ?_ h2 (old_of hown h3))
    unfold Own
    rw [bc_app, List.length_append]
    exact h1
/-- 'append(b, c, ..)' where b has no room: a new row. -/
theorem app_full {ops : Array Oper} {rest : List Oper} {o : Oper} {a : Act} {Q : Exit → Act → World → Prop} (hgd : o.guard = none) (s x : Operand)
    (ho : o.op = .call { callee := .builtin .append, args := #[s, x], argTypes := #[29, 29] }) (base : Nat) (W : World) (g n : Nat) (l m : List Nat) (c0 cs : Array Value) (fr : Nat × Nat) (k : Nat) (hk : k = m.length) (hcs : cs.toList = bc m)
    (hs : a.eval s = .slice (some ⟨g, 0, none⟩) n n) (p : Nat) (hp : p = W.heap.size) (hx : a.eval x = .slice (some ⟨p, 0, none⟩) k k) (hn : n = l.length) (hg : W.heap[g]? = some (.cells c0 5 fr)) (hc0 : c0.toList = bc l) (hm : 0 < m.length) (hl : l.length + m.length < 8000000000000) (hbase : base ≤ W.heap.size)
    (h : ∀ v' w', Own base w' v' (l ++ m) → Below W.heap.size W w' → wpList Try.prog ops Q rest (a.put o.dst v') w') :
    wpList Try.prog ops Q (o :: rest) a (W.alloc (.cells cs 5)) := by
  subst hk hn hp
  obtain ⟨i0, hi, hz0, hz1, hz2⟩ := info_parts infoB
  obtain ⟨v', w', hr, h1, h2⟩ := run_append_arg_grows (P := Try.prog) (W.alloc (.cells cs 5)) 29 o.type 5 i0 _ 1 1 Try.underlying29 hi hz0 hz1 hz2 rfl (by decide) ⟨g, 0, none⟩ l.length l.length (bc l) (by rw [bc_len]; omega) (fun j u hu => by
    rw [Addr.add_mid, Nat.zero_add, row_cell (hp_old hg _) j, ← Array.getElem?_toList, hc0]; exact hu) ⟨W.heap.size, 0, none⟩ m.length m.length (bc m) (by rw [bc_len]; omega) (cell_lit W m _ cs hcs) (by omega) (by unfold maxLen; omega) (by omega)
  have hsz : (W.alloc (.cells cs 5)).heap.size = W.heap.size + 1 := by simp
  refine apl.list_app hgd s x _ _ ho _ _ v' w' hs hx hr (h v' w' (own_mono (base := (W.alloc (.cells cs 5)).heap.size) ?_ (by omega)) (btr (bal (Below.refl _ _) (.cells cs 5)) ((Below.refl _ _).grown h2 (Nat.le_refl _) (fun k hk => by cases hk))))
  unfold Own
  rw [bc_app, List.length_append]
  exact h1
end Go.Proofs.Ytkdmecpelfcbmaa.oct
