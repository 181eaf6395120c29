/-
  Rows of records of a call's own: what they hold, what 'append' makes of them; and what record's Same answers. Conditions: as said.
-/
import Derived.Test.YtcikcdeihlmbcaaDoorRec
import Derived.Test.YtcikcdeihlmbcaaDoorRecTab
import Derived.Maps.AppendAt
import Derived.Laws.OwnMore
namespace Go.Proofs.YtcikcdeihlmbcaaDoor.rec
open Go.ChangeShapes Go.WideShapes Go.ChangeAt Go.RowKit
open rm mem
set_option linter.unusedVariables false
set_option maxRecDepth 100000

/-- the cells of a row of records. -/
def ccs : List Cr → List Value
  | [] => []
  | f :: l => .int .i64 f.1 :: .int .i64 f.2 :: ccs l
theorem ccs_len : ∀ l : List Cr, (ccs l).length = l.length * 2
  | [] => rfl
  | f :: l => by rw [ccs, List.length_cons, List.length_cons, ccs_len l, List.length_cons]; omega
theorem ccs_app : ∀ l m : List Cr, ccs (l ++ m) = ccs l ++ ccs m
  | [], m => rfl
  | f :: l, m => by rw [List.cons_append, ccs, ccs, ccs_app l m]; rfl
theorem ccs_one : ∀ (l : List Cr), ∀ u ∈ ccs l, u.oneCell' = true
  | [], u, h => by cases h
  | f :: l, u, h => by
    rw [ccs] at h
    rcases List.mem_cons.1 h with rfl | h
    · rfl
    · rcases List.mem_cons.1 h with rfl | h
      · rfl
      · exact ccs_one l u h
theorem ccs_at : ∀ (l : List Cr) (k : Nat) (h : k < l.length), (ccs l)[k * 2]? = some (.int .i64 (ra l k)) ∧ (ccs l)[k * 2 + 1]? = some (.int .i64 (rc l k))
  | f :: l, 0, _ => ⟨rfl, rfl⟩
  | f :: l, k + 1, h => by
    have h' : k < l.length := by simpa using h
    have := ccs_at l k h'
    rw [ccs, show (k + 1) * 2 = k * 2 + 1 + 1 by omega, show ra (f :: l) (k + 1) = ra l k by unfold ra; simp, show rc (f :: l) (k + 1) = rc l k by unfold rc; simp]
    exact this
theorem Crs.of_own {w : World} {base : Nat} {e : TypeId} {v : Value} {l : List Cr} (h : w.ownsRow base e 2 v l.length (ccs l)) (hf : Fit l) (hn : l.length ≤ 9223372036854775807) :
    ∃ A c, v = .slice A l.length c ∧ Crs w A l ∧ l.length ≤ c := by
  have h0 := h
  rcases h.2 with ⟨rfl, hn0⟩ | ⟨g, cap, cur, rfl, hb, hh, hnc, _⟩
  · rw [hn0]
    exact ⟨none, 0, rfl, ⟨⟨hf, hn⟩, fun hl => absurd hn0 hl⟩, Nat.le_refl _⟩
  · refine ⟨_, _, rfl, ⟨⟨hf, hn⟩, fun hl => ⟨g, 0, rfl, hp_lt hh, fun k hk => ?_⟩⟩, hnc⟩
    have := ccs_at l k hk
    rw [Nat.zero_add]
    exact ⟨(h0.cellAt (k * 2) (by omega)).trans this.1, (h0.cellAt (k * 2 + 1) (by omega)).trans this.2⟩
theorem infoC : (Tryd.prog.info? 44).map (fun i => (i.zero, i.size, i.bytes)) = some (some (.agg #[.int .i64 0, .int .i64 0]), 2, 16) := by kernel_rfl
theorem cell_two (w : World) (x y : Value) (t : TypeId) : ∀ j u, [x, y][j]? = some u → (w.alloc (.cells #[x, y] t)).cell? ((⟨w.heap.size, 0, none⟩ : Addr).add j) = some u := by
  intro j u hj
  rw [Addr.add_mid, Nat.zero_add, row_cell (hp_new w (.cells #[x, y] t)) j]
  simpa using hj
/-- 'all = append(all, y)', all a row of the call's own. -/
theorem app_corr {ops : Array Oper} {rest : List Oper} {o : Oper} {a : Act} {Q : Exit → Act → World → Prop} (hgd : o.guard = none) (s x : Operand)
    (ho : o.op = .call { callee := .builtin .append, args := #[s, x], argTypes := #[25, 25] }) (base : Nat) (W : World) (v : Value) (ls : List Cr) (y0 y1 : Int) (N : Nat)
    (hs : a.eval s = v) (hx : a.eval x = .slice (some ⟨N, 0, none⟩) 1 1) (hN : W.heap.size = N) (hown : W.ownsRow base 44 2 v ls.length (ccs ls)) (hn : ls.length < 8000000000000) (hbase : base ≤ W.heap.size)
    (h : ∀ v' w', w'.ownsRow base 44 2 v' (ls ++ [(y0, y1)]).length (ccs (ls ++ [(y0, y1)])) → W.grownBy w' v.ownBlock → wpList Tryd.prog ops Q rest (a.put o.dst v') w') :
    wpList Tryd.prog ops Q (o :: rest) a (W.alloc (.cells #[.int .i64 y0, .int .i64 y1] 44)) := by
  subst hN
  obtain ⟨i0, hi, hz0, hz1, hz2⟩ := info_parts infoC
  refine wpList_append_own _ hgd s x 25 ho base 44 i0 _ 2 16 Tryd.underlying25 hi hz0 hz1 hz2 rfl (by decide) v ls.length (ccs ls) hs (hown.alloc _) ⟨W.heap.size, 0, none⟩ 1 1 [.int .i64 y0, .int .i64 y1] hx rfl (cell_two _ _ _ _) (ccs_one [(y0, y1)]) ?_ (by omega) (by simp; omega) ?_
  · unfold maxLen; omega
  · intro v' w' h1 h2 _
    refine h v' w' ?_ ((World.grownBy_alloc W _ _).trans h2)
    rw [ccs_app, List.length_append]
    exact h1
set_option maxRecDepth 100000 in
theorem eqC (a b c d : Int) (W : World) : (Op.equalIn 10000 44 (.agg #[.int .i64 a, .int .i64 b]) (.agg #[.int .i64 c, .int .i64 d])).run Tryd.prog W = .ok (decide ((a, b) = (c, d))) W := by
  rw [run_equalIn_struct W 9999 44 _ _ (by kernel_rfl) (by kernel_rfl)]
  have hf : Tryd.prog.fieldsOf 44 = (match Tryd.prog.underlying 44 with | some (.struct fs) => fs | _ => #[]) := by kernel_rfl
  rw [Tryd.underlying44] at hf
  simp only at hf
  rw [hf]
  have p0 : ∀ x y : Int, (part 3 #[.int .i64 x, .int .i64 y] 0).run Tryd.prog W = .ok (.int .i64 x) W := fun x y => by simp [part, isAgg, run_underlying Tryd.underlying3]
  have p1 : ∀ x y : Int, (part 3 #[.int .i64 x, .int .i64 y] 1).run Tryd.prog W = .ok (.int .i64 y) W := fun x y => by simp [part, isAgg, run_underlying Tryd.underlying3]
  have e3 : ∀ x y : Int, (Op.equalIn 9999 3 (.int .i64 x) (.int .i64 y)).run Tryd.prog W = .ok (x == y) W := fun x y => run_equalIn_int W 9998 3 .i64 .i64 x y Tryd.underlying3
  by_cases h : a = c <;> by_cases h2 : b = d <;> simp [Op.eqFields, Sem.run_bind, p0, p1, e3, h, h2]
/-- at the head of a round. -/
def SHead (l m : List Cr) (w : World) (i : Value) (W : World) : Prop :=
  ∃ k : Nat, k ≤ l.length ∧ i = .int .i64 (k : Nat) ∧ Below w.heap.size w W ∧ ∀ j, j < k → (ra l j, rc l j) = (ra m j, rc m j)
set_option maxHeartbeats 1000000 in
theorem equal_at (l m : List Cr) (A B : Option Addr) (c d : Nat) (w : World) (h : Crs w A l) (g : Crs w B m) :
    Calls Tryd.prog 37 #[.slice A l.length c, .slice B m.length d] w fun e w' => e = .returned (.bool (decide (l = m))) ∧ Below w.heap.size w w' := by
  have hl := h.1.2
  have hm := g.1.2
  by_cases hlen : l.length = m.length
  · go_enter Tryd.func37, Tryd.ntmps37
    go_wp2
    go_loopw [13] (fun i W => SHead l m w i W) (fun i _ => l.length - (intOf i).toNat)
    case atStart => exact ⟨0, Nat.zero_le _, rfl, Below.refl _ _, fun j hj => by omega⟩
    case round =>
      obtain ⟨k, hk, rfl, hb, hok⟩ := hrel
      by_cases hlt : k < l.length
      · obtain ⟨b, o, rfl, hb0, hc⟩ := (h.below hb).2 (by omega)
        obtain ⟨b', o', rfl, hb1, hc'⟩ := (g.below hb).2 (by omega)
        obtain ⟨x0, x1⟩ := hc k hlt
        obtain ⟨y0, y1⟩ := hc' k (by omega)
        have q := eqC (ra l k) (rc l k) (ra m k) (rc m k)
        by_cases he : (ra l k, rc l k) = (ra m k, rc m k)
        · rw [decide_eq_true he] at q
          have R : Hid (∀ W', Below w.heap.size w W' → SHead l m w (.int .i64 ((k : Int) + 1)) W') := fun W' hb' => ⟨k + 1, by omega, rfl, hb', fun j hj => by
            rcases Nat.eq_or_lt_of_le (Nat.le_of_lt_succ hj) with rfl | e
            · exact he
            · exact hok j e⟩
          clear hok he hc hc' h g
          generalize ra l k = a0 at *
          generalize rc l k = a1 at *
          generalize ra m k = b0 at *
          generalize rc m k = b1 at *
          generalize l.length = n at *
          generalize m.length = n' at *
          go_wp2_with fail
          go_quiet (fail)
          go_wp2
          go_roundw
          case rel => exact R.out _ (bel_drewN hb _)
          case measure => simp [intOf]; omega
        · rw [decide_eq_false he] at q
          have E : Hid (decide (l = m) = false) := decide_eq_false fun e => he (by rw [e])
          clear hok he hc hc' h g
          generalize ra l k = a0 at *
          generalize rc l k = a1 at *
          generalize ra m k = b0 at *
          generalize rc m k = b1 at *
          generalize l.length = n at *
          generalize m.length = n' at *
          go_wp2_with fail
          go_quiet (fail)
          go_wp2
          go_ret
          exact ⟨(congrArg (fun b => Ending.returned (Value.bool b)) E.out).symm, bel_drewN hb _⟩
      · obtain rfl : k = l.length := by omega
        have E : Hid (decide (l = m) = true) := decide_eq_true (ext2 hlen (fun k hk => by have := hok k hk; exact ⟨congrArg Prod.fst this, congrArg Prod.snd this⟩))
        clear hok h g
        go_wp2
        go_ret
        exact ⟨(congrArg (fun b => Ending.returned (Value.bool b)) E.out).symm, hb⟩
  · have e : decide (l = m) = false := decide_eq_false fun e => hlen (by rw [e])
    rw [e]
    clear e h g
    have t : ((l.length : Int) != (m.length : Int)) = true := by simp; omega
    clear hlen
    generalize l.length = n at *
    generalize m.length = n' at *
    go_enter Tryd.func37, Tryd.ntmps37
    go_wp2
    go_ret
    exact ⟨rfl, Below.refl _ _⟩
theorem same_at (l m : List Cr) (A B : Option Addr) (c d : Nat) (w : World) (h : Crs w A l) (g : Crs w B m) :
    Calls Tryd.prog 18 #[.slice A l.length c, .slice B m.length d] w fun e w' => e = .returned (.bool (decide (l = m))) ∧ Below w.heap.size w w' := by
  have C := Lib.hid (equal_at l m A B c d w h g)
  clear h g
  generalize decide (l = m) = z at *
  generalize l.length = n at *
  generalize m.length = n' at *
  go_enter Tryd.func18, Tryd.ntmps18
  go_wp2_with (go_at_call 37; with_reducible refine (C.out).mono ?_; rintro e w1 ⟨rfl, hb1⟩)
  go_ret
  exact ⟨rfl, hb1⟩
end Go.Proofs.YtcikcdeihlmbcaaDoor.rec
