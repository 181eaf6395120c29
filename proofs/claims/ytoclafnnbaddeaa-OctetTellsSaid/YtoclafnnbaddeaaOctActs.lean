/-
  Rows of calls of a call's own: what they hold, and what 'append' makes of them; and what is laid of calls that may be laid. Conditions: as said.
-/
import Derived.Test.YtoclafnnbaddeaaOctWalk
namespace Go.Proofs.Ytoclafnnbaddeaa.oct
open Go.ChangeShapes Go.WideShapes Go.ChangeAt Go.RowKit
open om mem
set_option linter.unusedVariables false
set_option maxRecDepth 100000

/-- the cells of a row of calls. -/
def acs : List Ac → List Value
  | [] => []
  | f :: l => .int .i64 f.1 :: .int .i64 f.2 :: acs l
theorem acs_len : ∀ l : List Ac, (acs l).length = l.length * 2
  | [] => rfl
  | f :: l => by rw [acs, List.length_cons, List.length_cons, acs_len l, List.length_cons]; omega
theorem acs_app : ∀ l m : List Ac, acs (l ++ m) = acs l ++ acs m
  | [], m => rfl
  | f :: l, m => by rw [List.cons_append, acs, acs, acs_app l m]; rfl
theorem acs_one : ∀ (l : List Ac), ∀ u ∈ acs l, u.oneCell' = true
  | [], u, h => by cases h
  | f :: l, u, h => by
    rw [acs] at h
    rcases List.mem_cons.1 h with rfl | h
    · rfl
    · rcases List.mem_cons.1 h with rfl | h
      · rfl
      · exact acs_one l u h
theorem acs_at : ∀ (l : List Ac) (k : Nat) (h : k < l.length), (acs l)[k * 2]? = some (.int .i64 l[k].1) ∧ (acs l)[k * 2 + 1]? = some (.int .i64 l[k].2)
  | f :: l, 0, _ => ⟨rfl, rfl⟩
  | f :: l, k + 1, h => by
    have h' : k < l.length := by simpa using h
    have := acs_at l k h'
    rw [acs, show (k + 1) * 2 = k * 2 + 1 + 1 by omega]
    exact this
/-- a row of calls in blocks below a place. -/
def AcB (M : Nat) (W : World) (A : Option Addr) (l : List Ac) : Prop :=
  l ≠ [] → ∃ b o, A = some ⟨b, o, none⟩ ∧ b < M ∧ ∀ k (h : k < l.length), W.cell? ⟨b, o + k * 2, none⟩ = some (.int .i64 l[k].1) ∧ W.cell? ⟨b, o + k * 2 + 1, none⟩ = some (.int .i64 l[k].2)
theorem AcB.below {M : Nat} {w W : World} {A : Option Addr} {l : List Ac} (h : AcB M w A l) (hb : Below w.heap.size w W) : AcB M W A l := by
  intro hl
  obtain ⟨b, o, e, hlt, hc⟩ := h hl
  refine ⟨b, o, e, hlt, fun k hk => ?_⟩
  obtain ⟨h1, h2⟩ := hc k hk
  exact ⟨(hb.cell (p := ⟨b, o + k * 2, none⟩) (World.block_lt_of_cell? w _ h1)).trans h1, (hb.cell (p := ⟨b, o + k * 2 + 1, none⟩) (World.block_lt_of_cell? w _ h2)).trans h2⟩
theorem AcB.keep {M : Nat} {w W : World} {A : Option Addr} {l : List Ac} (h : AcB M w A l) {g : Nat} (hk : Keep g w W) (hg : M ≤ g) : AcB M W A l := by
  intro hl
  obtain ⟨b, o, e, hlt, hc⟩ := h hl
  refine ⟨b, o, e, hlt, fun k hk' => ?_⟩
  obtain ⟨h1, h2⟩ := hc k hk'
  exact ⟨hk.cell (p := ⟨b, o + k * 2, none⟩) (by simp; omega) h1, hk.cell (p := ⟨b, o + k * 2 + 1, none⟩) (by simp; omega) h2⟩
theorem Acs.acB {w : World} {A : Option Addr} {l : List Ac} (h : Acs w A l) : AcB w.heap.size w A l := h
theorem acB_own {w : World} {base : Nat} {v : Value} {l : List Ac} (h : w.ownsRow base 32 2 v l.length (acs l)) : ∃ A c, v = .slice A l.length c ∧ AcB w.heap.size w A l := by
  have h0 := h
  rcases h.2 with ⟨rfl, hn⟩ | ⟨g, cap, cur, rfl, hb, hh, hnc, _⟩
  · rw [hn]
    exact ⟨none, 0, rfl, fun hl => absurd (List.eq_nil_of_length_eq_zero hn) hl⟩
  · refine ⟨_, _, rfl, fun hl => ⟨g, 0, rfl, hp_lt hh, fun k hk => ?_⟩⟩
    have := acs_at l k hk
    rw [Nat.zero_add]
    exact ⟨(h0.cellAt (k * 2) (by omega)).trans this.1, (h0.cellAt (k * 2 + 1) (by omega)).trans this.2⟩
theorem infoA : (Try.prog.info? 32).map (fun i => (i.zero, i.size, i.bytes)) = some (some (.agg #[.int .i64 0, .int .i64 0]), 2, 16) := by kernel_rfl
theorem cell_two (w : World) (x y : Value) (t : TypeId) : ∀ j u, [x, y][j]? = some u → (w.alloc (.cells #[x, y] t)).cell? ((⟨w.heap.size, 0, none⟩ : Addr).add j) = some u := by
  intro j u hj
  rw [Addr.add_mid, Nat.zero_add, row_cell (hp_new w (.cells #[x, y] t)) j]
  simpa using hj
/-- 'all = append(all, y)', all a row of the call's own. -/
theorem app_act {ops : Array Oper} {rest : List Oper} {o : Oper} {a : Act} {Q : Exit → Act → World → Prop} (hgd : o.guard = none) (s x : Operand)
    (ho : o.op = .call { callee := .builtin .append, args := #[s, x], argTypes := #[23, 23] }) (base : Nat) (W : World) (v : Value) (ls : List Ac) (y0 y1 : Int)
    (hs : a.eval s = v) (hx : a.eval x = .slice (some ⟨W.heap.size, 0, none⟩) 1 1) (hown : W.ownsRow base 32 2 v ls.length (acs ls)) (hn : ls.length < 8000000000000) (hbase : base ≤ W.heap.size)
    (h : ∀ v' w', w'.ownsRow base 32 2 v' (ls ++ [(y0, y1)]).length (acs (ls ++ [(y0, y1)])) → W.grownBy w' v.ownBlock → wpList Try.prog ops Q rest (a.put o.dst v') w') :
    wpList Try.prog ops Q (o :: rest) a (W.alloc (.cells #[.int .i64 y0, .int .i64 y1] 32)) := by
  obtain ⟨i0, hi, hz0, hz1, hz2⟩ := info_parts infoA
  refine wpList_append_own _ hgd s x 23 ho base 32 i0 _ 2 16 Try.underlying23 hi hz0 hz1 hz2 rfl (by decide) v ls.length (acs ls) hs (hown.alloc _) ⟨W.heap.size, 0, none⟩ 1 1 [.int .i64 y0, .int .i64 y1] hx rfl (cell_two _ _ _ _) (acs_one [(y0, y1)]) ?_ (by omega) (by simp; omega) ?_
  · unfold maxLen; omega
  · intro v' w' h1 h2 _
    refine h v' w' ?_ ((World.grownBy_alloc W _ _).trans h2)
    rw [acs_app, List.length_append]
    exact h1
/-! what may be laid -/
def keptA (l : List Ac) : List Ac := l.filter fun a => fitB a.2 a.1
def bytA (l : List Ac) : List Nat := l.flatMap fun a => lay a.2 a.1.toNat
theorem kept_take_yes (l : List Ac) (k : Nat) (h : k < l.length) (hf : fitB l[k].2 l[k].1 = true) : keptA (l.take (k + 1)) = keptA (l.take k) ++ [l[k]] := by
  unfold keptA; rw [List.take_succ_eq_append_getElem h, List.filter_append, List.filter_cons, if_pos hf, List.filter_nil]
theorem kept_take_no (l : List Ac) (k : Nat) (h : k < l.length) (hf : fitB l[k].2 l[k].1 = false) : keptA (l.take (k + 1)) = keptA (l.take k) := by
  unfold keptA; rw [List.take_succ_eq_append_getElem h, List.filter_append, List.filter_cons, if_neg (by rw [hf]; decide), List.filter_nil, List.append_nil]
theorem kept_len (l : List Ac) : (keptA l).length ≤ l.length := List.length_filter_le _ _
theorem byt_snoc (l : List Ac) (a : Ac) : bytA (l ++ [a]) = bytA l ++ lay a.2 a.1.toNat := by unfold bytA; simp
theorem byt_cons (a : Ac) (l : List Ac) : bytA (a :: l) = lay a.2 a.1.toNat ++ bytA l := rfl
theorem byt_bys : ∀ l : List Ac, Bys (bytA l)
  | [] => bys_nil
  | a :: l => by rw [byt_cons]; exact (lay_bys _ _).app (byt_bys l)
theorem kept_fit {l : List Ac} {a : Ac} (h : a ∈ keptA l) : fitB a.2 a.1 = true := by unfold keptA at h; exact (List.mem_filter.1 h).2
theorem byt_len : ∀ (l : List Ac), (∀ a ∈ l, fitB a.2 a.1 = true) → (bytA l).length ≤ 8 * l.length
  | [], _ => by simp [bytA]
  | a :: l, h => by
    have h1 := byt_len l (fun x hx => h x (List.mem_cons_of_mem _ hx))
    have h2 := fit_sz (fit_iff.1 (h a (List.mem_cons_self ..)))
    unfold Sz at h2
    rw [byt_cons, List.length_append, lay_len, List.length_cons]
    omega
theorem byt_len_take (l : List Ac) (k : Nat) (h : k ≤ l.length) : (bytA (keptA (l.take k))).length ≤ 8 * l.length := by
  have h1 := byt_len (keptA (l.take k)) (fun a ha => kept_fit ha)
  have h2 := kept_len (l.take k)
  have h3 := List.length_take_le k l
  rw [List.length_take] at h2
  omega
theorem kept_bd {l : List Ac} (h : I64s l) : ∀ a ∈ keptA l, I64 a.1 ∧ I64 a.2 := fun a ha => by
  obtain ⟨k, hk, rfl⟩ := List.getElem_of_mem (List.mem_filter.1 (show a ∈ l.filter _ from ha)).1
  exact h k hk
end Go.Proofs.Ytoclafnnbaddeaa.oct
