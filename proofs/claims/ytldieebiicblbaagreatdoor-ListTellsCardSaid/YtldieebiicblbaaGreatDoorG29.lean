/-
  'append' onto a row of a call's own: where the new row lies. Nothing of any program.
-/
import Derived.Test.YtldieebiicblbaaGreatDoorG13
import Derived.Laws.OwnMore
import Derived.Test.YtldieebiicblbaaGreatDoorG26
import Derived.Test.YtldieebiicblbaaGreatDoorG28
import Derived.Test.YtldieebiicblbaaGreatDoorG15
import Derived.Test.YtldieebiicblbaaGreatDoorG12
namespace Go.Proofs.YtldieebiicblbaaGreatDoor.apl
open Go.ChangeShapes Go.WideShapes Go.ChangeAt Go.RowKit
set_option linter.unusedVariables false
set_option maxRecDepth 100000

theorem run_where {P : Program} (w : World) (base : Nat) (t ty e : TypeId) (i : TypeInfo) (z : Value) (size bytes : Nat) (ht : P.underlying t = some (.slice e)) (hi : P.info? e = some i) (hz : i.zero = some z)
    (hsize : i.size = size) (hby : i.bytes = bytes) (hzs : z.cells.size = size) (hsz : 0 < size)
    (v : Value) (n : Nat) (xs : List Value) (hown : w.ownsRow base e size v n xs)
    (a : Addr) (m c : Nat) (news : List Value) (hm : 0 < m) (hl : news.length = m * size) (hnews : ∀ j u, news[j]? = some u → w.cell? (a.add j) = some u) (h1 : ∀ u ∈ news, u.oneCell' = true)
    (h63 : n + m ≤ maxLen) (hbytes : (n + m) * bytes ≤ 140737488355328) (hbase : base ≤ w.heap.size) :
    ∃ v' w', (Builtin.append_ #[t, t] ty #[v, .slice (some a) m c]).run P w = .ok v' w' ∧ w'.ownsRow base e size v' (n + m) (xs ++ news) ∧ w.grownBy w' v.ownBlock ∧
      (v'.ownBlock = v.ownBlock ∨ ∃ g, v'.ownBlock = some g ∧ w.heap.size ≤ g) := by
  obtain ⟨v', w', hr, ho, hg, _⟩ := run_append_own (P := P) w base t ty e i z size bytes ht hi hz hsize hby hzs hsz v n xs hown a m c news hl hnews h1 h63 hbytes hbase
  refine ⟨v', w', hr, ho, hg, ?_⟩
  have hsmall : n + m ≤ 9223372036854775807 := by simp only [maxLen] at h63; omega
  rcases hown.2 with ⟨rfl, rfl⟩ | ⟨g, cap, cur, rfl, hbg, hh, hnc, hcm, hcs, htake⟩
  · right
    have := run_append_nil (P := P) w t ty e i z ht hi hz a m c news (by rw [hl, hsize]) hnews (by omega) (by omega) (by rw [hby]; have hb := hbytes; simp only [Nat.zero_add] at hb; omega)
    rw [this] at hr
    injection hr with h1 h2
    subst h1
    exact ⟨_, rfl, Nat.le_refl _⟩
  · by_cases hroom : n + m ≤ cap
    · left
      have hfit : n * i.size + news.length ≤ cur.size := by rw [hl, hcs, hsize, ← Nat.add_mul]; exact Nat.mul_le_mul_right _ hroom
      have := run_append_room (P := P) w t ty e i ht hi g n cap cur hh a m c news (by rw [hl, hsize]) hnews h1 hroom hfit
      rw [this] at hr
      injection hr with h1 h2
      subst h1
      rfl
    · right
      have := run_append_grow (P := P) w t ty e i z ht hi hz ⟨g, 0, none⟩ n cap xs (by rw [hown.1, hsize]) (fun j u hu => hown.cells (g := g) rfl j u hu) a m c news (by rw [hl, hsize]) hnews (by omega) (by omega) (by rw [hby]; exact growslice_fits (by omega) hbytes)
      rw [this] at hr
      injection hr with h1 h2
      subst h1
      exact ⟨_, rfl, Nat.le_refl _⟩
theorem list_app {P : Program} {ops : Array Oper} {o : Oper} {rest : List Oper} {a : Act} {W : World} {Q : Exit → Act → World → Prop} (hgd : o.guard = none) (s x : Operand) (t u : TypeId)
    (ho : o.op = .call { callee := .builtin .append, args := #[s, x], argTypes := #[t, u] }) (va vx v : Value) (W' : World) (hs : a.eval s = va) (hx : a.eval x = vx)
    (run : (Builtin.append_ #[t, u] o.type #[va, vx]).run P W = .ok v W') (h : wpList P ops Q rest (a.put o.dst v) W') : wpList P ops Q (o :: rest) a W := by
  refine wpList_plain hgd fun K hK => ?_
  unfold Oper.wp execOp
  simp only [ho, resolve, invoke, builtin, Sem.run_bind, Sem.run_pure, Result.andThen_ok, List.map_toArray, List.map_cons, List.map_nil, hs, hx, run]
  exact hK _ _ h
end Go.Proofs.YtldieebiicblbaaGreatDoor.apl

/-
  What the document's own Same, Fold, Split and Words of layer 5 are: the same answers as the plain functions of rows of bytes. Conditions: the texts are no longer than a slice can count; of Same: two slices that read alike.
-/
namespace Go.Proofs.YtldieebiicblbaaGreatDoor.ref05
open Go.ChangeShapes Go.WideShapes Go.ChangeAt Go.RowKit
open lx lines
set_option linter.unusedVariables false
set_option maxRecDepth 100000

/-! Same -/
def EHead (n : Nat) (w : World) (i : Value) (W : World) : Prop := ∃ k d : Nat, k ≤ n ∧ i = .int .i64 k ∧ W = w.drewN d
/-! Fold -/
/-! Split -/
def PHead (s : ByteArray) (w : World) (t f i : Value) (W : World) : Prop :=
  ∃ (a p : Nat) (ls : List ByteArray) (v : Value), v = t ∧ f = .int .i64 a ∧ i = .int .i64 p ∧ a ≤ p ∧ p ≤ s.size ∧ ls.map L ++ spl (cur s a p) ((L s).drop p) = spl [] (L s) ∧ W.ownsRow w.heap.size 9 1 v ls.length (ls.map Value.string) ∧ Below w.heap.size w W
theorem plen {s : ByteArray} {ls : List ByteArray} {r : List (List UInt8)} (e : ls.map L ++ r = spl [] (L s)) : ls.length ≤ s.size := by
  have h := spl_len (L s) []
  rw [← e] at h
  have : (L s).length = s.size := rfl
  simp at h
  omega
theorem phead_cut {s : ByteArray} {w W W1 : World} {v v' : Value} {ls : List ByteArray} {a p : Nat} (e : ls.map L ++ spl (cur s a p) ((L s).drop p) = spl [] (L s)) (ho : W.ownsRow w.heap.size 9 1 v ls.length (ls.map Value.string)) (hb : Below w.heap.size w W)
    (hp : p < s.size) (h10 : bt s p = 10) (ho' : W1.ownsRow w.heap.size 9 1 v' (ls ++ [B (trim (L (s.extract a p)))]).length ((ls ++ [B (trim (L (s.extract a p)))]).map Value.string)) (hg : W.grownBy W1 v.ownBlock) :
    PHead s w v' (.int .i64 ((p : Int) + 1)) (.int .i64 ((p : Int) + 1)) W1 := by
  refine ⟨p + 1, p + 1, _, v', rfl, rfl, rfl, by omega, by omega, ?_, ho', hb.grown hg hb.size fun k hk => (ho.lt k hk).1⟩
  rw [← e, spl_cut s a p hp h10, List.map_append, List.map_cons, List.map_nil, L_B, cur_ext, List.append_assoc, List.singleton_append]
theorem split_told {s : ByteArray} {w W : World} {v : Value} {ls : List ByteArray} (e : ls.map L = spl [] (L s)) (ho : W.ownsRow w.heap.size 9 1 v ls.length (ls.map Value.string)) (hb : Below w.heap.size w W) : lines.Told w (splitS s) (.returned v) W := by
  have e2 : splitS s = ls := by
    unfold splitS
    rw [← e, map_BL]
  rw [e2]
  obtain ⟨A, c, rfl, hs, hc⟩ := Strs.of_own ho
  exact ⟨A, c, rfl, hs, ⟨hc, fun b o e => (ho.lt b (by rw [e]; rfl)).1⟩, hb⟩
theorem split_last {s : ByteArray} {w W W1 : World} {v v' : Value} {ls : List ByteArray} {a : Nat} (e : ls.map L ++ spl (cur s a s.size) ((L s).drop s.size) = spl [] (L s)) (ho : W.ownsRow w.heap.size 9 1 v ls.length (ls.map Value.string)) (hb : Below w.heap.size w W)
    (ha : a < s.size) (ho' : W1.ownsRow w.heap.size 9 1 v' (ls ++ [B (trim (L (s.extract a s.size)))]).length ((ls ++ [B (trim (L (s.extract a s.size)))]).map Value.string)) (hg : W.grownBy W1 v.ownBlock) : lines.Told w (splitS s) (.returned v') W1 := by
  refine split_told ?_ ho' (hb.grown hg hb.size fun k hk => (ho.lt k hk).1)
  rw [← e, spl_last s a s.size ha (Nat.le_refl _) (Nat.le_refl _), List.map_append, List.map_cons, List.map_nil, L_B, cur_ext]
set_option maxHeartbeats 1000000 in
theorem split_at (s : ByteArray) (w : World) (hs : s.size < 4294967281) : Calls Tryz.prog 44 #[.string s] w (lines.Told w (splitS s)) := by
  go_enter Tryz.func44, Tryz.ntmps44
  go_wp2
  go_loopw [3, 4, 5] (fun t f i W => PHead s w t f i W) (fun _ _ i _ => s.size - (intOf i).toNat)
  case atStart => exact ⟨0, 0, [], _, rfl, rfl, rfl, by omega, by omega, rfl, World.ownsRow_nil _ _ _ _, Below.refl _ _⟩
  case round =>
    obtain ⟨a, p, ls, v, rfl, rfl, rfl, ha, hp, e, ho, hb⟩ := hrel
    have hl := plen e
    have HO := Lib.hid ho
    by_cases hlt : p < s.size
    · have hbt := bt_at s p hlt
      by_cases h10 : bt s p = 10
      · have R := Lib.hid (fun v' W1 ho' hg => phead_cut (v' := v') (W1 := W1) e ho hb hlt h10 ho' hg)
        have TR := Lib.hid (fun W => trimmed_is (s.extract a p) W (by simp; omega))
        clear e ho
        go_wp2_with (first
          | (go_at_call 73; (with_reducible refine (TR.out _).mono ?_); rintro e w' ⟨rfl, rfl⟩)
          | (at_builtin; refine app_one rfl _ _ rfl w.heap.size wr v ls _ rfl rfl HO.out (by omega) hb.size ?_; intro v' w1 ho' hg))
        go_roundw
        case rel => exact R.out _ _ ho' hg
        case measure => simp [intOf]; omega
      · have t1 : ((bt s p : Int) == 10) = false := by simp; omega
        have E := Lib.hid e
        have G := Lib.hid (spl_go s a p ha hlt h10)
        clear e h10
        go_wp2
        go_roundw
        case rel => exact ⟨a, p + 1, ls, v, rfl, rfl, by go_num, by omega, by omega, by rw [← G.out]; exact E.out, ho, hb⟩
        case measure => simp [intOf]; omega
    · obtain rfl : s.size = p := by omega
      by_cases hfp : a < s.size
      · have R := Lib.hid (fun v' W1 ho' hg => split_last (v' := v') (W1 := W1) e ho hb hfp ho' hg)
        have TR := Lib.hid (fun W => trimmed_is (s.extract a s.size) W (by simp; omega))
        clear e ho
        go_wp2_with (first
          | (go_at_call 73; (with_reducible refine (TR.out _).mono ?_); rintro e w' ⟨rfl, rfl⟩)
          | (at_builtin; refine app_one rfl _ _ rfl w.heap.size wr v ls _ rfl rfl HO.out (by omega) hb.size ?_; intro v' w1 ho' hg))
        go_ret
        exact R.out _ _ ho' hg
      · obtain rfl : a = s.size := by omega
        rw [spl_none s s.size (Nat.le_refl _), List.append_nil] at e
        have R := Lib.hid (split_told e ho hb)
        clear e ho
        go_wp2
        go_ret
        exact R.out
theorem split_on {w : World} (W : World) (hb : Below w.heap.size w W) (s : ByteArray) (hs : s.size < 4294967281) : Calls Tryz.prog 44 #[.string s] W (lines.Told W (splitS s)) := split_at s W hs
end Go.Proofs.YtldieebiicblbaaGreatDoor.ref05

/-
  The document's own rows of a list, layer 10: all lines of a text as rows of five; their finder. Conditions: texts of at most 300000 bytes.
-/
namespace Go.Proofs.YtldieebiicblbaaGreatDoor.ref10
open Go.ChangeShapes Go.WideShapes Go.ChangeAt Go.RowKit
open lx ls mem
set_option linter.unusedVariables false
set_option maxRecDepth 100000

abbrev Pl := Option Addr × Nat
def p0 : Pl := (none, 0)
def rcells (ls : List (List UInt8)) (ps : List Pl) : List Value := (ls.zip ps).flatMap fun z => (rcell z.1 z.2.1 z.2.2).toList
theorem rcells_snoc {ls : List (List UInt8)} {ps : List Pl} (h : ps.length = ls.length) (y : List UInt8) (p : Pl) : rcells (ls ++ [y]) (ps ++ [p]) = rcells ls ps ++ (rcell y p.1 p.2).toList := by
  unfold rcells
  rw [List.zip_append h.symm, List.flatMap_append]
  simp
theorem rcells_len : ∀ (ls : List (List UInt8)) (ps : List Pl), ps.length = ls.length → (rcells ls ps).length = ls.length * 5
  | [], [], _ => rfl
  | [], _ :: _, h => by simp at h
  | _ :: _, [], h => by simp at h
  | l :: ls, p :: ps, h => by
    have e : rcells (l :: ls) (p :: ps) = (rcell l p.1 p.2).toList ++ rcells ls ps := rfl
    rw [e, List.length_append, rcells_len ls ps (by simpa using h), List.length_cons]
    show 5 + ls.length * 5 = _
    omega
theorem rcells_at : ∀ (ls : List (List UInt8)) (ps : List Pl), ps.length = ls.length → ∀ k j, k < ls.length → j < 5 → (rcells ls ps)[k * 5 + j]? = (rcell (ls.getD k []) (ps.getD k p0).1 (ps.getD k p0).2).toList[j]?
  | [], _, _, k, _, hk, _ => by simp at hk
  | _ :: _, [], h, _, _, _, _ => by simp at h
  | l :: ls, p :: ps, h, 0, j, _, hj => by
    have e : rcells (l :: ls) (p :: ps) = (rcell l p.1 p.2).toList ++ rcells ls ps := rfl
    rw [e, List.getElem?_append_left (by show 0 * 5 + j < 5; omega), Nat.zero_mul, Nat.zero_add]
    rfl
  | l :: ls, p :: ps, h, k + 1, j, hk, hj => by
    have e : rcells (l :: ls) (p :: ps) = (rcell l p.1 p.2).toList ++ rcells ls ps := rfl
    have e5 : (rcell l p.1 p.2).toList.length = 5 := rfl
    rw [e, List.getElem?_append_right (by rw [e5]; omega), e5, show (k + 1) * 5 + j - 5 = k * 5 + j by omega, rcells_at ls ps (by simpa using h) k j (by simpa using hk) hj]
    rfl
/-- a slice reads as the rows of lines. -/
def Rws (W : World) (A : Option Addr) (ls : List (List UInt8)) : Prop :=
  ls ≠ [] → ∃ b o, ∃ ps : Nat → Pl, A = some ⟨b, o, none⟩ ∧ b < W.heap.size ∧ ∀ k, k < ls.length →
    (W.cell? ⟨b, o + k * 5, none⟩ = some (.int .i64 (kd (ls.getD k []) : Nat)) ∧ W.cell? ⟨b, o + k * 5 + 1, none⟩ = some (.bool (ok (ls.getD k []))) ∧ W.cell? ⟨b, o + k * 5 + 2, none⟩ = some (.slice (ps k).1 (wo (ls.getD k [])).length (ps k).2) ∧
      W.cell? ⟨b, o + k * 5 + 3, none⟩ = some (.int .i64 (o1 (ls.getD k []))) ∧ W.cell? ⟨b, o + k * 5 + 4, none⟩ = some (.int .i64 (o2 (ls.getD k [])))) ∧ lines.Strs W (ps k).1 ((wo (ls.getD k [])).map B)
theorem Rws.below {w W : World} {A : Option Addr} {ls : List (List UInt8)} (h : Rws w A ls) (hb : Below w.heap.size w W) : Rws W A ls := by
  intro hl
  obtain ⟨b, o, ps, e, hlt, hc⟩ := h hl
  refine ⟨b, o, ps, e, Nat.lt_of_lt_of_le hlt hb.size, fun k hk => ?_⟩
  obtain ⟨⟨a0, a1, a2, a3, a4⟩, hS⟩ := hc k hk
  exact ⟨⟨(hb.cell (p := ⟨b, o + k * 5, none⟩) hlt).trans a0, (hb.cell (p := ⟨b, o + k * 5 + 1, none⟩) hlt).trans a1, (hb.cell (p := ⟨b, o + k * 5 + 2, none⟩) hlt).trans a2, (hb.cell (p := ⟨b, o + k * 5 + 3, none⟩) hlt).trans a3, (hb.cell (p := ⟨b, o + k * 5 + 4, none⟩) hlt).trans a4⟩, hS.below hb⟩
/-- the words of a row of the call's own lie elsewhere. -/
def Wof (W : World) (t : Value) (ls : List (List UInt8)) (ps : List Pl) : Prop :=
  ps.length = ls.length ∧ ∀ k, k < ls.length → lines.Strs W (ps.getD k p0).1 ((wo (ls.getD k [])).map B) ∧ ∀ b o, (ps.getD k p0).1 = some ⟨b, o, none⟩ → b < W.heap.size ∧ t.ownBlock ≠ some b
theorem Rws.of_own {W : World} {B0 : Nat} {v : Value} {ls : List (List UInt8)} {ps : List Pl} (h : W.ownsRow B0 53 5 v ls.length (rcells ls ps)) (hw : Wof W v ls ps) : ∃ A c, v = .slice A ls.length c ∧ Rws W A ls := by
  have h0 := h
  rcases h.2 with ⟨rfl, hn⟩ | ⟨g, cap, cur, rfl, hb, hh, hnc, _, _, ht⟩
  · rw [hn]
    exact ⟨none, 0, rfl, fun hl => absurd (List.eq_nil_of_length_eq_zero hn) hl⟩
  · refine ⟨_, _, rfl, fun hl => ⟨g, 0, fun k => ps.getD k p0, rfl, hp_lt hh, fun k hk => ?_⟩⟩
    have at' : ∀ j, j < 5 → W.cell? ⟨g, 0 + k * 5 + j, none⟩ = (rcell (ls.getD k []) (ps.getD k p0).1 (ps.getD k p0).2).toList[j]? := fun j hj => by
      rw [← rcells_at ls ps hw.1 k j hk hj, Nat.zero_add]
      exact h0.cellAt (k * 5 + j) (by omega)
    exact ⟨⟨at' 0 (by omega), at' 1 (by omega), at' 2 (by omega), at' 3 (by omega), at' 4 (by omega)⟩, (hw.2 k hk).1⟩
theorem infoR : (Tryz.prog.info? 53).map (fun i => (i.zero, i.size, i.bytes)) = some (some (.agg zrow), 5, 56) := by kernel_rfl
/-- 'out = append(out, y)', y a row. -/
theorem app_row {ops : Array Oper} {rest : List Oper} {o : Oper} {a : Act} {Q : Exit → Act → World → Prop} (hgd : o.guard = none) (s x : Operand)
    (ho : o.op = .call { callee := .builtin .append, args := #[s, x], argTypes := #[50, 50] }) (base : Nat) (W : World) (v : Value) (n : Nat) (xs : List Value) (y : List UInt8) (A : Option Addr) (c N : Nat)
    (hs : a.eval s = v) (hx : a.eval x = .slice (some ⟨N, 0, none⟩) 1 1) (hN : W.heap.size = N) (hown : W.ownsRow base 53 5 v n xs) (hn : n < 800000000) (hbase : base ≤ W.heap.size)
    (h : ∀ v' w', w'.ownsRow base 53 5 v' (n + 1) (xs ++ (rcell y A c).toList) → W.grownBy w' v.ownBlock → (v'.ownBlock = v.ownBlock ∨ ∃ g, v'.ownBlock = some g ∧ W.heap.size ≤ g) → wpList Tryz.prog ops Q rest (a.put o.dst v') w') :
    wpList Tryz.prog ops Q (o :: rest) a (W.alloc (.cells (rcell y A c) 53)) := by
  subst hN
  obtain ⟨i0, hi, hz0, hz1, hz2⟩ := info_parts infoR
  obtain ⟨v', w', hr, h1, h2, h3⟩ := apl.run_where (P := Tryz.prog) (W.alloc (.cells (rcell y A c) 53)) base 50 o.type 53 i0 _ 5 56 Tryz.underlying50 hi hz0 hz1 hz2 rfl (by decide) v n xs (hown.alloc _) ⟨W.heap.size, 0, none⟩ 1 1 (rcell y A c).toList (by decide) rfl
    (fun j u hj => by rw [Addr.add_mid, Nat.zero_add, row_cell (hp_new W _) j]; simpa using hj) (fun u hu => by
      have := row_one (kd y : Nat) (o1 y) (o2 y) (ok y) A (wo y).length c
      rw [Array.all_eq_true_iff_forall_mem] at this
      exact this u (Array.mem_toList_iff.1 hu)) (by unfold maxLen; omega) (by omega) (by simp; omega)
  refine apl.list_app hgd s x _ _ ho v _ v' w' hs hx hr (h v' w' h1 ((World.grownBy_alloc W _ _).trans h2) ?_)
  rcases h3 with e | ⟨g, e, hg⟩
  · exact .inl e
  · exact .inr ⟨g, e, by simp at hg; omega⟩
theorem row_below {w W : World} {B0 n : Nat} {t : Value} {xs : List Value} (h : w.ownsRow B0 53 5 t n xs) (hb : Below w.heap.size w W) : W.ownsRow B0 53 5 t n xs := by
  refine ⟨h.1, ?_⟩
  rcases h.2 with e | ⟨g, cap, cur, e, hb', hh, a⟩
  · exact Or.inl e
  · exact Or.inr ⟨g, cap, cur, e, hb', kept hh hb, a⟩
/-- at the head of a round of rows. -/
def GHead (X : List ByteArray) (w : World) (v i : Value) (W : World) : Prop :=
  ∃ k t ps, k ≤ X.length ∧ i = .int .i64 (k : Nat) ∧ t = v ∧ Below w.heap.size w W ∧ W.ownsRow w.heap.size 53 5 t k (rcells ((X.take k).map L) ps) ∧ Wof W t ((X.take k).map L) ps
theorem take_map {X : List ByteArray} {k : Nat} (h : k < X.length) : (X.take (k + 1)).map L = (X.take k).map L ++ [L X[k]] := by
  rw [List.take_add_one, List.getElem?_eq_getElem h, List.map_append]
  rfl
theorem getD_snoc {T : Type} (l : List T) (y d : T) (k : Nat) : (l ++ [y]).getD k d = if k < l.length then l.getD k d else if k = l.length then y else d := by
  rw [List.getD_eq_getElem?_getD, List.getD_eq_getElem?_getD, List.getElem?_append]
  by_cases h : k < l.length
  · rw [if_pos h, if_pos h]
  · rw [if_neg h, if_neg h]
    by_cases g : k = l.length
    · rw [if_pos g, g, Nat.sub_self]; rfl
    · rw [if_neg g, List.getElem?_eq_none (by simp; omega)]; rfl
theorem own_ne {t : Value} {W : World} {base n : Nat} {xs : List Value} (h : W.ownsRow base 53 5 t n xs) {b : Nat} (hb : W.heap.size ≤ b) : t.ownBlock ≠ some b := fun e => by have := (World.ownsRow.lt h b e).2; omega
theorem gstep {X : List ByteArray} {w wr w2 W4 : World} {k : Nat} {t v' : Value} {ps : List Pl} {A : Option Addr} {c : Nat} (hk : k < X.length) (hb : Below w.heap.size w wr) (ho : wr.ownsRow w.heap.size 53 5 t k (rcells ((X.take k).map L) ps)) (hw : Wof wr t ((X.take k).map L) ps)
    (hS : lines.Strs w2 A ((wo (L X[k])).map B)) (hf : ∀ b o, A = some ⟨b, o, none⟩ → wr.heap.size ≤ b ∧ b < w2.heap.size) (hb2 : Below wr.heap.size wr w2)
    (ho' : W4.ownsRow w.heap.size 53 5 v' (k + 1) (rcells ((X.take k).map L) ps ++ (rcell (L X[k]) A c).toList)) (hg : w2.grownBy W4 t.ownBlock) (hl : v'.ownBlock = t.ownBlock ∨ ∃ g, v'.ownBlock = some g ∧ w2.heap.size ≤ g) :
    GHead X w v' (.int .i64 ((k : Int) + 1)) W4 := by
  have hlen : ((X.take k).map L).length = k := by rw [List.length_map, List.length_take]; omega
  have hne : ∀ b, b < w2.heap.size → t.ownBlock ≠ some b → v'.ownBlock ≠ some b := fun b hb' h => by
    rcases hl with e | ⟨g, e, hgl⟩
    · rw [e]; exact h
    · rw [e]; intro q; cases q; omega
  have keep : ∀ A' Y, lines.Strs w2 A' Y → (∀ b o, A' = some ⟨b, o, none⟩ → t.ownBlock ≠ some b) → lines.Strs W4 A' Y := fun A' Y h hn hl => by
    obtain ⟨b, o, e, hlt, hc⟩ := h hl
    exact ⟨b, o, e, Nat.lt_of_lt_of_le hlt hg.size, fun q hq => hg.cell (hc q hq) (fun z => hn b o e z.symm)⟩
  refine ⟨k + 1, v', ps ++ [(A, c)], hk, rfl, rfl, (btr hb hb2).grown hg (btr hb hb2).size (fun j hj => (World.ownsRow.lt ho j hj).1), ?_, ?_⟩
  · rw [take_map hk, rcells_snoc hw.1]; exact ho'
  · rw [take_map hk]
    refine ⟨by rw [List.length_append, List.length_append, hw.1]; rfl, fun j hj => ?_⟩
    rw [List.length_append, hlen] at hj
    rw [getD_snoc, getD_snoc, hw.1, hlen]
    by_cases hjk : j < k
    · rw [if_pos hjk, if_pos hjk]
      obtain ⟨h1, h2⟩ := hw.2 j (by rw [hlen]; exact hjk)
      refine ⟨keep _ _ (h1.below hb2) (fun b o e => (h2 b o e).2), fun b o e => ?_⟩
      obtain ⟨h3, h4⟩ := h2 b o e
      have := hb2.size
      exact ⟨by have := hg.size; omega, hne b (by omega) h4⟩
    · have e1 : [L X[k]].length = 1 := rfl
      obtain rfl : j = k := by omega
      rw [if_neg (Nat.lt_irrefl _), if_neg (Nat.lt_irrefl _), if_pos rfl, if_pos rfl]
      have h4 : ∀ b o, A = some ⟨b, o, none⟩ → t.ownBlock ≠ some b := fun b o e => own_ne ho (hf b o e).1
      refine ⟨keep _ _ hS h4, fun b o e => ?_⟩
      obtain ⟨h5, h6⟩ := hf b o e
      exact ⟨by have := hg.size; omega, hne b h6 (h4 b o e)⟩
def RowsTold (ls : List (List UInt8)) (w : World) (e : Ending) (w' : World) : Prop := ∃ A c, e = .returned (.slice A ls.length c) ∧ Rws w' A ls ∧ Below w.heap.size w w'
set_option maxHeartbeats 4000000 in
theorem rows_at (s : ByteArray) (w : World) (hs : s.size ≤ 300000) : Calls Tryz.prog 18 #[.string s] w (RowsTold ((splitS s).map L) w) := by
  have SP := Lib.hid (ref05.split_at s w (by omega))
  unfold lines.Told at SP
  have hx : ∀ x ∈ splitS s, x.size ≤ 300000 := fun x h => by have := list.line_size h; omega
  have hn := list.lines_len s
  generalize splitS s = X at *
  go_enter Tryz.func18, Tryz.ntmps18
  go_wp2_with (go_at_call 44; with_reducible refine SP.out.mono ?_; rintro e w1 ⟨A, c, rfl, hS, _, hb1⟩)
  have HS := Lib.hid hS
  clear SP hS
  go_loopw [3, 5] (fun v i W => GHead X w1 v i W) (fun _ i _ => X.length - (intOf i).toNat)
  case atStart => exact ⟨0, _, [], Nat.zero_le _, rfl, rfl, Below.refl _ _, ⟨rfl, Or.inl ⟨rfl, rfl⟩⟩, ⟨rfl, fun k hk => by simp at hk⟩⟩
  case round =>
    obtain ⟨k, t, ps, hk, rfl, rfl, hb, ho, hw⟩ := hrel
    by_cases hlt : k < X.length
    · obtain ⟨b, oo, rfl, hbl, hc⟩ := HS.out.below hb (fun e => by rw [e] at hlt; simp at hlt)
      have x0 := hc k hlt
      have RD := Lib.hid (read_at X[k] wr (hx _ (List.getElem_mem hlt)))
      unfold RowTold rcell at RD
      have R : Hid (∀ A2 c2 w2 v' W4, lines.Strs w2 A2 ((wo (L X[k])).map B) → (∀ b o, A2 = some ⟨b, o, none⟩ → wr.heap.size ≤ b ∧ b < w2.heap.size) → Below wr.heap.size wr w2 → W4.ownsRow w1.heap.size 53 5 v' (k + 1) (rcells ((X.take k).map L) ps ++ (rcell (L X[k]) A2 c2).toList) → w2.grownBy W4 t.ownBlock → (v'.ownBlock = t.ownBlock ∨ ∃ g, v'.ownBlock = some g ∧ w2.heap.size ≤ g) → GHead X w1 v' (.int .i64 ((k : Int) + 1)) W4) := fun A2 c2 w2 v' W4 a b c d e f => gstep hlt hb ho hw a b c d e f
      have HO := Lib.hid (fun w2 (hb2 : Below wr.heap.size wr w2) => (⟨row_below ho hb2, Nat.le_trans hb.size hb2.size⟩ : w2.ownsRow w1.heap.size 53 5 t k (rcells ((X.take k).map L) ps) ∧ w1.heap.size ≤ w2.heap.size))
      have HX := Lib.hid hx
      clear hc ho hw hx
      generalize rcells ((X.take k).map L) ps = xs at *
      generalize X[k] = x at *
      generalize L x = y at *
      generalize hm : X.length = m at *
      go_wp2_with (first
        | (go_at_call 45; (with_reducible refine RD.out.mono ?_); rintro e w2 ⟨A2, c2, rfl, hS2, hf2, hb2⟩; have hO := Lib.hid (HO.out _ hb2))
        | (at_builtin; refine app_row rfl _ _ rfl w1.heap.size w2 t k xs y A2 c2 _ rfl rfl rfl hO.out.1 (by omega) hO.out.2 ?_; intro v' w4 ho' hg4 hl4))
      exact ⟨R.out _ _ _ _ _ hS2 hf2 hb2 ho' hg4 hl4, by simp [intOf]; omega⟩
    · obtain rfl : k = X.length := by omega
      have R : Hid (RowsTold (X.map L) w (.returned t) wr) := by
        rw [List.take_of_length_le (Nat.le_refl _)] at ho hw
        obtain ⟨A', c', e, h⟩ := Rws.of_own (by rw [List.length_map]; exact ho) hw
        exact ⟨A', c', by rw [e], h, btr hb1 hb⟩
      clear ho hw HS
      generalize X.length = m at *
      go_wp2_with fail
      go_ret
      exact R.out
/-- at the head of a round of find. -/
def NHead (ls : List (List UInt8)) (kind : Nat) (w : World) (i : Value) (W : World) : Prop := ∃ k : Nat, k ≤ ls.length ∧ i = .int .i64 (k : Nat) ∧ Below w.heap.size w W ∧ ∀ j, j < k → kd (ls.getD j []) ≠ kind
/-- the place of the first line of a kind. -/
def fd (kind : Nat) : List (List UInt8) → Nat
  | [] => 0
  | l :: r => if kd l = kind then 0 else fd kind r + 1
theorem fd_le (kind : Nat) : ∀ ls, fd kind ls ≤ ls.length
  | [] => Nat.le_refl _
  | l :: r => by
    have := fd_le kind r
    rw [fd, List.length_cons]
    split <;> omega
theorem fd_at (kind : Nat) : ∀ (ls : List (List UInt8)) (k : Nat), k < ls.length → kd (ls.getD k []) = kind → (∀ j, j < k → kd (ls.getD j []) ≠ kind) → fd kind ls = k
  | [], k, h, _, _ => by simp at h
  | l :: r, 0, _, h, _ => by rw [fd, if_pos (show kd l = kind from h)]
  | l :: r, k + 1, h, h1, h2 => by
    rw [fd, if_neg (show ¬ kd l = kind from h2 0 (by omega)), fd_at kind r k (by simpa using h) h1 (fun j hj => h2 (j + 1) (by omega))]
theorem fd_no (kind : Nat) : ∀ (ls : List (List UInt8)), (∀ j, j < ls.length → kd (ls.getD j []) ≠ kind) → fd kind ls = ls.length
  | [], _ => rfl
  | l :: r, h => by
    rw [fd, if_neg (show ¬ kd l = kind from h 0 (by simp)), fd_no kind r (fun j hj => h (j + 1) (by simpa using hj)), List.length_cons]
def fdI (kind : Nat) (ls : List (List UInt8)) : Int := if fd kind ls < ls.length then (fd kind ls : Nat) else -1
set_option maxHeartbeats 1000000 in
theorem find_at (ls : List (List UInt8)) (A : Option Addr) (c kind : Nat) (w : World) (h : Rws w A ls) (hn : ls.length ≤ 1000000) (hk5 : kind ≤ 5) : Calls Tryz.prog 19 #[.slice A ls.length c, .int .i64 (kind : Nat)] w fun e w' => e = .returned (.int .i64 (fdI kind ls)) ∧ Below w.heap.size w w' := by
  go_enter Tryz.func19, Tryz.ntmps19
  go_wp2
  go_loopw [5] (fun i W => NHead ls kind w i W) (fun i _ => ls.length - (intOf i).toNat)
  case atStart => exact ⟨0, Nat.zero_le _, rfl, Below.refl _ _, fun j hj => by omega⟩
  case round =>
    obtain ⟨k, hk, rfl, hb, hok⟩ := hrel
    by_cases hlt : k < ls.length
    · obtain ⟨b, o, ps, rfl, hbl, hc⟩ := h.below hb (fun e => by rw [e] at hlt; simp at hlt)
      obtain ⟨⟨x0, _⟩, _⟩ := hc k hlt
      by_cases he : kd (ls.getD k []) = kind
      · have E : Hid (fdI kind ls = (k : Nat)) := by show _ = _; unfold fdI; rw [fd_at kind ls k hlt he hok, if_pos hlt]
        have t : ((kd (ls.getD k []) : Int) == (kind : Int)) = true := by rw [he]; simp
        clear hc h he hok
        generalize kd (ls.getD k []) = K at *
        generalize ls.length = n at *
        go_wp2_with fail
        go_ret
        exact ⟨by rw [E.out]; rfl, hb⟩
      · have R : Hid (NHead ls kind w (.int .i64 ((k : Int) + 1)) wr) := ⟨k + 1, hlt, rfl, hb, fun j hj => by
          rcases Nat.eq_or_lt_of_le (Nat.le_of_lt_succ hj) with rfl | q
          · exact he
          · exact hok j q⟩
        have t : ((kd (ls.getD k []) : Int) == (kind : Int)) = false := by rw [beq_eq_false_iff_ne]; omega
        clear hc h he hok
        generalize kd (ls.getD k []) = K at *
        generalize hm : ls.length = n at *
        go_wp2_with fail
        exact ⟨R.out, by simp [intOf]; omega⟩
    · obtain rfl : k = ls.length := by omega
      have E : Hid (fdI kind ls = -1) := by show _ = _; unfold fdI; rw [fd_no kind ls hok, if_neg (Nat.lt_irrefl _)]
      clear h hok
      generalize ls.length = n at *
      go_wp2_with fail
      go_ret
      exact ⟨by rw [E.out]; rfl, hb⟩
end Go.Proofs.YtldieebiicblbaaGreatDoor.ref10

/-
  What the document's own padded answers: the bytes, with what is laid behind them, in new memory. Condition: the slice reads as bytes, at most 1000000 of them.
-/
namespace Go.Proofs.YtldieebiicblbaaGreatDoor.ref06
open Go.ChangeShapes Go.WideShapes Go.ChangeAt Go.RowKit
open sx sha
set_option linter.unusedVariables false
set_option maxRecDepth 100000

def PHead (l : List Nat) (w : World) (t : Value) (W : World) : Prop :=
  ∃ z g cap, z ≤ zz l.length ∧ t = .slice (some ⟨g, 0, none⟩) (l.length + 1 + z) cap ∧ Own w.heap.size W t (l ++ 128 :: List.replicate z 0) ∧ Below w.heap.size w W
def QHead (l : List Nat) (w : World) (t i : Value) (W : World) : Prop :=
  ∃ k g cap, k ≤ 8 ∧ i = .int .i64 (k : Nat) ∧ t = .slice (some ⟨g, 0, none⟩) (l.length + zz l.length + 1 + k) cap ∧ Own w.heap.size W t (l ++ 128 :: (List.replicate (zz l.length) 0 ++ (eight l.length).take k)) ∧ Below w.heap.size w W
def PadTold (l : List Nat) (w : World) (e : Ending) (w' : World) : Prop := ∃ g cap, e = .returned (.slice (some ⟨g, 0, none⟩) (l ++ pad l.length).length cap) ∧ Own w.heap.size w' (.slice (some ⟨g, 0, none⟩) (l ++ pad l.length).length cap) (l ++ pad l.length) ∧ Below w.heap.size w w'
theorem own_empty (w : World) : Own w.heap.size (w.alloc (.cells #[] 5)) (.slice (some ⟨w.heap.size, 0, none⟩) 0 0) [] :=
  ⟨rfl, Or.inr ⟨w.heap.size, 0, #[], rfl, Nat.le_refl _, hp_new w _, Nat.le_refl _, by unfold maxLen; omega, rfl, rfl⟩⟩
set_option maxHeartbeats 2000000 in
theorem padded_any (l : List Nat) (v : Value) (w : World) (hr : RdW w v l) (hn : l.length ≤ 1000000) : Calls Tryz.prog 64 #[v] w (PadTold l w) := by
  have hzz : zz l.length < 64 := Nat.mod_lt _ (by decide)
  have HR := Lib.hid (hr.below (bal (Below.refl _ _) (.cells #[] 5)))
  obtain ⟨A, cap0, rfl, _⟩ := hr
  go_enter Tryz.func64, Tryz.ntmps64
  go_wp2_with (at_builtin; first
    | (refine app_any rfl _ _ rfl w.heap.size (w.alloc (.cells #[] 5)) (.slice (some ⟨w.heap.size, 0, none⟩) 0 0) (.slice A l.length cap0) [] l rfl rfl (own_empty w) HR.out (by simp; omega) (by simp) ?_; intro v1 w1 ho1 hg1)
    | (refine app_byte rfl _ _ rfl w.heap.size w1 v1 l 128 128 rfl rfl rfl ho1 (by omega) (by have := hg1.size; simp at this; omega) ?_; intro g2 cap2 w2 ho2 hg2))
  have hs1 : w.heap.size ≤ w1.heap.size := by have := hg1.size; simp at this; omega
  have b1 : Below w.heap.size w w1 := own_below (own_empty w) (bal (Below.refl _ _) _) (by simp) hg1
  have b2 : Below w.heap.size w w2 := own_below ho1 b1 hs1 hg2
  clear ho1 hg1 hg2
  go_loopw [3] (fun t W => PHead l w t W) (fun t _ => l.length + 66 - lenOf t)
  case atStart =>
    refine ⟨0, g2, cap2, by omega, rfl, ?_, b2⟩
    rw [List.length_append] at ho2
    exact ho2
  case round =>
    obtain ⟨z, g, cap, hz, rfl, ho, hb⟩ := hrel
    have HO := Lib.hid ho
    have hbs := hb.size
    by_cases hlt : z < zz l.length
    · have t1 : (((l.length : Int) + 1 + (z : Int)) % 64 != 56) = true := by unfold zz at hlt; simp; omega
      clear ho
      go_wp2_with (at_builtin; refine app_byte rfl _ _ rfl w.heap.size wr (.slice (some ⟨g, 0, none⟩) (l.length + 1 + z) cap) (l ++ 128 :: List.replicate z 0) 0 0 rfl rfl rfl HO.out (by simp; omega) hbs ?_; intro g' cap' w1 ho' hg)
      go_roundw
      case rel =>
        have e : (l ++ 128 :: List.replicate z 0 ++ [0] : List Nat) = l ++ 128 :: List.replicate (z + 1) 0 := by rw [List.replicate_succ', List.append_assoc, List.cons_append]
        have e2 : (l ++ 128 :: List.replicate z 0 ++ [0] : List Nat).length = l.length + 1 + (z + 1) := by simp; omega
        rw [e2, e] at ho'
        have e3 : l.length + (z + 1 + 1) = l.length + 1 + (z + 1) := by omega
        rw [e3]
        exact ⟨z + 1, g', cap', by omega, rfl, ho', own_below HO.out hb hbs hg⟩
      case measure => simp [lenOf]; omega
    · obtain rfl : z = zz l.length := by omega
      have t1 : (((l.length : Int) + 1 + ((zz l.length : Nat) : Int)) % 64 != 56) = false := by
        have := pad_mult l.length
        rw [pad_len] at this
        simp; omega
      go_wp2
      go_loopw [3, 5] (fun t i W => QHead l w t i W) (fun _ i _ => 8 - (intOf i).toNat)
      case atStart => exact ⟨0, g, cap, by omega, rfl, by congr 1 <;> omega, by simpa using ho, hb⟩
      case round =>
        obtain ⟨k, g, cap, hk, rfl, rfl, ho, hb⟩ := hrel
        have HO := Lib.hid ho
        have hbs := hb.size
        by_cases hlt : k < 8
        · have hd : ((l.length : Int) * 8) / 2 ^ (56 - 8 * k) % 256 = ((l.length * 8 / 2 ^ (8 * (7 - k)) % 256 : Nat) : Int) := by
            rw [show 56 - 8 * k = 8 * (7 - k) by omega, Int.natCast_emod, Int.natCast_ediv, Int.natCast_pow, Int.natCast_mul]; rfl
          have ET := Lib.hid (eight_take l.length k hlt)
          have el := eight_len l.length k (by omega)
          generalize l.length * 8 / 2 ^ (8 * (7 - k)) % 256 = c at *
          clear ho
          go_wp2_with (at_builtin; refine app_byte rfl _ _ rfl w.heap.size wr (.slice (some ⟨g, 0, none⟩) (l.length + zz l.length + 1 + k) cap) (l ++ 128 :: (List.replicate (zz l.length) 0 ++ (eight l.length).take k)) c (c : Nat) rfl rfl rfl HO.out (by simp only [List.length_cons, List.length_append, List.length_replicate]; omega) hbs ?_; intro g' cap' w1 ho' hg)
          have e2 : (l ++ 128 :: (List.replicate (zz l.length) 0 ++ (eight l.length).take k) ++ [c] : List Nat).length = l.length + zz l.length + 1 + (k + 1) := by
            simp only [List.length_cons, List.length_append, List.length_replicate, List.length_nil]; omega
          have e3 : l.length + (zz l.length + (k + 1) + 1) = l.length + zz l.length + 1 + (k + 1) := by omega
          rw [e2] at ho'
          rw [e3]
          refine ⟨⟨k + 1, g', cap', by omega, by go_num, rfl, ?_, own_below HO.out hb hbs hg⟩, by simp [intOf]; omega⟩
          rw [ET.out, ← List.append_assoc (List.replicate (zz l.length) 0), ← List.cons_append, ← List.append_assoc]
          exact ho'
        · obtain rfl : k = 8 := by omega
          go_wp2
          go_ret
          have e : (eight l.length).take 8 = eight l.length := List.take_of_length_le (by simp [eight])
          rw [e] at ho
          have e2 : (l ++ pad l.length).length = l.length + zz l.length + 1 + 8 := by rw [List.length_append, pad_len]; omega
          exact ⟨g, cap, by rw [e2]; rfl, by rw [e2]; exact ho, hb⟩
end Go.Proofs.YtldieebiicblbaaGreatDoor.ref06
