/-
  What layChanges, layLeaps, layKinds and Encode answer. Conditions: the zone is read; its rows are not too long.
-/
import Derived.Test.YtllficloadncfaaG10
import Derived.Test.YtllficloadncfaaG11
namespace Go.Proofs.Ytllficloadncfaa.blk
open Go.ChangeShapes Go.WideShapes Go.ChangeAt Go.RowKit
open om mem oct bk
open abr (Fr)
set_option linter.unusedVariables false
set_option maxRecDepth 100000

/-- rows of pairs and of kinds are kept where a sheet is written. -/
theorem cell_fr {P : Obj → Prop} {W W' : World} {b o : Nat} {x : Value} (hf : Fr P W W') {ob : Obj} (hb : W.heap[b]? = some ob) (hn : ¬ P ob) (h : W.cell? ⟨b, o, none⟩ = some x) : W'.cell? ⟨b, o, none⟩ = some x := by
  rw [World.cell?_of_block (w := W) (by rw [hf.keep b ob hb hn, hb])]
  exact h
/-- the head of a round of a loop that lays. -/
def LHead {α : Type} (f : α → List Nat) (k : α → Bool) (l : List α) (base : Nat) (W0 : World) (g : Nat) (m : List Nat) (b : Bool) (i : Value) (W : World) : Prop :=
  ∃ j : Nat, j ≤ l.length ∧ i = .int .i64 (j : Nat) ∧ Sh base W g (m ++ (l.take j).flatMap f) (b || !(l.take j).all k) ∧ Below base W0 W ∧ Fr isS W0 W
theorem lhead_start {α : Type} (f : α → List Nat) (k : α → Bool) (l : List α) {base : Nat} {W0 : World} {g : Nat} {m : List Nat} {b : Bool} (h : Sh base W0 g m b) : LHead f k l base W0 g m b (.int .i64 0) W0 :=
  ⟨0, Nat.zero_le _, rfl, by simpa using h, Below.refl _ _, Fr.refl _ _⟩
theorem lhead_step {α : Type} {f : α → List Nat} {k : α → Bool} {l : List α} {base : Nat} {W0 W W' : World} {g : Nat} {m : List Nat} {b : Bool} {j : Nat} (hj : j < l.length) (hb : Below base W0 W) (hf : Fr isS W0 W)
    (h : Sh base W' g (m ++ (l.take j).flatMap f ++ f l[j]) ((b || !(l.take j).all k) || !k l[j])) (hb' : Below base W W') (hf' : Fr isS W W') : LHead f k l base W0 g m b (.int .i64 ((j : Int) + 1)) W' :=
  ⟨j + 1, hj, rfl, by
    rw [flat_take l f j hj, all_take l k j hj, Bool.not_and, ← Bool.or_assoc, ← List.append_assoc]
    exact h, hb.trans hb', hf.trans hf'⟩
theorem drew_fr {P : Obj → Prop} {a : World} (n : Nat) : Fr P a (a.drewN n) := (Fr.refl P a).drewN n
theorem drew_bel (B : Nat) (a : World) (n : Nat) : Below B a (a.drewN n) := bel_drewN (Below.refl _ _) n
/-- a pair's numbers, behind a sheet that was written. -/
structure PrsL (base : Nat) (W : World) (A : Option Addr) (l : List Pr) : Prop where
  rows : Prs W A l
  old : l ≠ [] → ∀ b o, A = some ⟨b, o, none⟩ → b < base
theorem PrsL.at {base : Nat} {W W' : World} {A : Option Addr} {l : List Pr} (h : PrsL base W A l) (hb : Below base W W') (j : Nat) (hj : j < l.length) : ∃ b o, A = some ⟨b, o, none⟩ ∧ W'.cell? ⟨b, o + j * 2, none⟩ = some (.int .i64 l[j].1) ∧ W'.cell? ⟨b, o + j * 2 + 1, none⟩ = some (.int .i64 l[j].2) := by
  have hne : l ≠ [] := fun e => by rw [e] at hj; simp at hj
  obtain ⟨b, o, e, _, hc⟩ := h.rows hne
  have hlt := h.old hne b o e
  exact ⟨b, o, e, (hb.cell (p := ⟨b, o + j * 2, none⟩) hlt).trans (hc j hj).1, (hb.cell (p := ⟨b, o + j * 2 + 1, none⟩) hlt).trans (hc j hj).2⟩
set_option maxHeartbeats 2000000 in
theorem changes_at (base : Nat) (W0 : World) (g : Nat) (m : List Nat) (f : Bool) (A : Option Addr) (c : Nat) (l : List Pr) (s : Nat) (hs : s = 4 ∨ s = 8) (h : Sh base W0 g m f) (hl : PrsL base W0 A l) (hbd : PrsBd l) (hbs : base ≤ W0.heap.size) (hn : l.length ≤ 10000) (hm : m.length ≤ 100000) :
    Calls Try.prog 20 #[.pointer (some ⟨g, 0, none⟩), .slice A l.length c, .int .i64 (s : Nat)] W0 (LTold base W0 g (m ++ l.flatMap (trA s) ++ l.flatMap trB) ((f || !l.all (fA s)) || !l.all fB)) := by
  have LA : Hid (∀ W l f n z, Sh base W g l f → oct.I64 n → oct.I64 z → l.length < 1000000000 → base ≤ W.heap.size → Calls Try.prog 45 #[.pointer (some ⟨g, 0, none⟩), .int .i64 n, .int .i64 z] W (LTold base W g (l ++ nb n z) (f || !fitB n z))) := Lib.hid fun W l f n z => lay_at base W g l f n z
  have hs64 : oct.I64 (s : Nat) := by unfold oct.I64; omega
  have S0 := Lib.hid (lhead_start (trA s) (fA s) l h)
  clear h
  go_enter Try.func20, Try.ntmps20
  go_wp2
  go_loopw [10] (fun i W => LHead (trA s) (fA s) l base W0 g m f i W) (fun i _ => l.length - (intOf i).toNat)
  case atStart => exact S0.out
  case round =>
    obtain ⟨j, hj, rfl, hsh, hb, hf⟩ := hrel
    by_cases hlt : j < l.length
    · obtain ⟨b, o, rfl, x0, x1⟩ := hl.at hb j hlt
      have hm2 : (m ++ (l.take j).flatMap (trA s)).length < 1000000000 := by
        have := flat_le (trA s) 8 (fun x => nb_len _ _) (l.take j)
        rw [List.length_append]
        rw [List.length_take] at this
        omega
      have C := Lib.hid (LA.out wr _ _ l[j].1 s hsh (hbd _ (List.getElem_mem hlt)).1 hs64 hm2 (Nat.le_trans hbs hb.size))
      have R := Lib.hid (fun W' (h1 : Sh base W' g (m ++ (l.take j).flatMap (trA s) ++ nb l[j].1 s) ((f || !(l.take j).all (fA s)) || !fitB l[j].1 s)) h2 h3 => lhead_step (k := fA s) (f := trA s) (g := g) (m := m) (b := f) (W' := W') hlt hb hf h1 h2 h3)
      clear hsh hb hf hl hm2 S0
      generalize l[j].1 = n1 at *
      generalize l[j].2 = n2 at *
      go_wp2_with (go_at_call 45; (with_reducible refine C.out.mono ?_); rintro e w1 ⟨rfl, h1, h2, h3⟩; have Q := Lib.hid (R.out _ h1 h2 h3); clear h1 h2 h3)
      go_roundw
      case rel => exact Q.out
      case measure => simp [intOf]; omega
    · obtain rfl : j = l.length := by omega
      rw [List.take_length] at hsh
      have S1 := Lib.hid (lhead_start trB fB l hsh)
      have HB1 := Lib.hid hb
      have HF1 := Lib.hid hf
      have hl1 := fun W (h : Below base wr W) => hl.at (hb.trans h)
      have hbs1 := Nat.le_trans hbs hb.size
      have hm1 : (m ++ l.flatMap (trA s)).length ≤ 180000 := by
        have := flat_le (trA s) 8 (fun x => nb_len _ _) l
        rw [List.length_append]
        omega
      clear hsh S0 hb hf hl
      generalize m ++ l.flatMap (trA s) = m1 at *
      generalize (f || !l.all (fA s)) = f1 at *
      go_wp2
      generalize wr = W1 at *
      go_loopw [24] (fun i W => LHead trB fB l base W1 g m1 f1 i W) (fun i _ => l.length - (intOf i).toNat)
      case atStart => exact S1.out
      case round =>
        obtain ⟨j, hj, rfl, hsh, hb, hf⟩ := hrel
        by_cases hlt : j < l.length
        · obtain ⟨b, o, rfl, x0, x1⟩ := hl1 _ hb j hlt
          have hm2 : (m1 ++ (l.take j).flatMap trB).length < 1000000000 := by
            have := flat_le trB 8 (fun x => nb_len _ _) (l.take j)
            rw [List.length_append]
            rw [List.length_take] at this
            omega
          have C := Lib.hid (LA.out wr _ _ l[j].2 1 hsh (hbd _ (List.getElem_mem hlt)).2 (by unfold oct.I64; omega) hm2 (Nat.le_trans hbs1 hb.size))
          have R := Lib.hid (fun W' (h1 : Sh base W' g (m1 ++ (l.take j).flatMap trB ++ nb l[j].2 1) ((f1 || !(l.take j).all fB) || !fitB l[j].2 1)) h2 h3 => lhead_step (k := fB) (f := trB) (g := g) (m := m1) (b := f1) (W' := W') hlt hb hf h1 h2 h3)
          clear hsh hb hf hl1 hm2 S1
          generalize l[j].1 = n1 at *
          generalize l[j].2 = n2 at *
          go_wp2_with (go_at_call 45; (with_reducible refine C.out.mono ?_); rintro e w1 ⟨rfl, h1, h2, h3⟩; have Q := Lib.hid (R.out _ h1 h2 h3); clear h1 h2 h3)
          go_roundw
          case rel => exact Q.out
          case measure => simp [intOf]; omega
        · obtain rfl : j = l.length := by omega
          rw [List.take_length] at hsh
          have E : Hid (LTold base W0 g (m1 ++ l.flatMap trB) (f1 || !l.all fB) (.returned (.tuple #[])) wr) := Lib.hid ⟨rfl, hsh, HB1.out.trans hb, HF1.out.trans hf⟩
          clear hsh hb hf S1
          go_wp2
          go_end0
          exact E.out
theorem fl_not (f x y : Bool) : ((f || !x) || !y) = (f || !(x && y)) := by cases f <;> cases x <;> cases y <;> rfl
set_option maxHeartbeats 2000000 in
theorem leaps_at (base : Nat) (W0 : World) (g : Nat) (m : List Nat) (f : Bool) (A : Option Addr) (c : Nat) (l : List Pr) (s : Nat) (hs : s = 4 ∨ s = 8) (h : Sh base W0 g m f) (hl : PrsL base W0 A l) (hbd : PrsBd l) (hbs : base ≤ W0.heap.size) (hn : l.length ≤ 10000) (hm : m.length ≤ 500000) :
    Calls Try.prog 22 #[.pointer (some ⟨g, 0, none⟩), .slice A l.length c, .int .i64 (s : Nat)] W0 (LTold base W0 g (m ++ l.flatMap (lpD s)) (f || !l.all (fL s))) := by
  have LA : Hid (∀ W l f n z, Sh base W g l f → oct.I64 n → oct.I64 z → l.length < 1000000000 → base ≤ W.heap.size → Calls Try.prog 45 #[.pointer (some ⟨g, 0, none⟩), .int .i64 n, .int .i64 z] W (LTold base W g (l ++ nb n z) (f || !fitB n z))) := Lib.hid fun W l f n z => lay_at base W g l f n z
  have hs64 : oct.I64 (s : Nat) := by unfold oct.I64; omega
  have S0 := Lib.hid (lhead_start (lpD s) (fL s) l h)
  clear h
  go_enter Try.func22, Try.ntmps22
  go_wp2
  go_loopw [9] (fun i W => LHead (lpD s) (fL s) l base W0 g m f i W) (fun i _ => l.length - (intOf i).toNat)
  case atStart => exact S0.out
  case round =>
    obtain ⟨j, hj, rfl, hsh, hb, hf⟩ := hrel
    by_cases hlt : j < l.length
    · obtain ⟨b, o, rfl, x0, x1⟩ := hl.at hb j hlt
      have hm2 : (m ++ (l.take j).flatMap (lpD s)).length + 8 < 1000000000 := by
        have := flat_le (lpD s) 16 (lpD_len s) (l.take j)
        rw [List.length_append]
        rw [List.length_take] at this
        omega
      have hb1 := (hbd _ (List.getElem_mem hlt)).1
      have hb2 := (hbd _ (List.getElem_mem hlt)).2
      have C1 := Lib.hid (LA.out wr _ _ l[j].1 s hsh hb1 hs64 (by omega) (Nat.le_trans hbs hb.size))
      have C2 := Lib.hid (fun W (h1 : Sh base W g (m ++ (l.take j).flatMap (lpD s) ++ nb l[j].1 s) ((f || !(l.take j).all (fL s)) || !fitB l[j].1 s)) (h2 : Below base wr W) => LA.out W _ _ l[j].2 4 h1 hb2 (by unfold oct.I64; omega) (by rw [List.length_append]; have := nb_len l[j].1 s; omega) (Nat.le_trans (Nat.le_trans hbs hb.size) h2.size))
      have HC := Lib.hid (fun W (h2 : Below base wr W) => hl.at (hb.trans h2) j hlt)
      have R := Lib.hid (fun W' w1 (h1 : Sh base W' g (m ++ (l.take j).flatMap (lpD s) ++ nb l[j].1 s ++ nb l[j].2 4) (((f || !(l.take j).all (fL s)) || !fitB l[j].1 s) || !fitB l[j].2 4)) (h2 : Below base wr w1) (h3 : Fr isS wr w1) (h4 : Below base w1 W') (h5 : Fr isS w1 W') => lhead_step (k := fL s) (f := lpD s) (g := g) (m := m) (b := f) (W' := W') hlt hb hf (by rw [fl_not, List.append_assoc _ (nb _ _)] at h1; exact h1) (h2.trans h4) (h3.trans h5))
      clear hsh hb hf hl hm2 S0 hb1 hb2
      generalize l[j].1 = n1 at *
      generalize l[j].2 = n2 at *
      go_wp2_with (first
        | (go_at_call 45; (with_reducible refine C1.out.mono ?_); rintro e w1 ⟨rfl, h1, h2, h3⟩; have H1 := Lib.hid h1; have H2 := Lib.hid h2; have H3 := Lib.hid h3; clear x0 x1; obtain ⟨b2, o2, e2, x0, x1⟩ := HC.out _ h2; cases e2; clear h1 h2 h3)
        | (go_at_call 45; (with_reducible refine (C2.out _ H1.out H2.out).mono ?_); rintro e w2 ⟨rfl, h1, h2, h3⟩; have Q := Lib.hid (R.out _ _ h1 H2.out H3.out h2 h3); clear h1 h2 h3))
      go_roundw
      case rel => exact Q.out
      case measure => simp [intOf]; omega
    · obtain rfl : j = l.length := by omega
      rw [List.take_length] at hsh
      have E : Hid (LTold base W0 g (m ++ l.flatMap (lpD s)) (f || !l.all (fL s)) (.returned (.tuple #[])) wr) := Lib.hid ⟨rfl, hsh, hb, hf⟩
      clear hsh hb hf S0
      go_wp2
      go_end0
      exact E.out
end Go.Proofs.Ytllficloadncfaa.blk

/-
  What markOf, layKinds and Encode answer. Conditions: the zone is read; its rows are not too long.
-/
namespace Go.Proofs.Ytllficloadncfaa.blk
open Go.ChangeShapes Go.WideShapes Go.ChangeAt Go.RowKit
open om mem oct bk
open abr (Fr IOwn)
set_option linter.unusedVariables false
set_option maxRecDepth 100000

theorem markof_at (b : Bool) (W : World) : Calls Try.prog 46 #[.bool b] W fun e w' => e = .returned (.int .i64 (b01 b)) ∧ W = w' := by
  cases b
  all_goals
    go_enter Try.func46, Try.ntmps46
    go_wp2
    go_ret
    exact ⟨rfl, rfl⟩
/-- 's.bytes = append(s.bytes, pool...)'. -/
theorem app_text {ops : Array Oper} {rest : List Oper} {o : Oper} {a : Act} {Q : Exit → Act → World → Prop} (hgd : o.guard = none) (sl x : Operand)
    (ho : o.op = .call { callee := .builtin .append, args := #[sl, x], argTypes := #[29, 9] }) (base : Nat) (W : World) (v : Value) (l : List Nat) (p : List UInt8)
    (hs : a.eval sl = v) (hx : a.eval x = .string (lx.B p)) (hown : Own base W v l) (hn : l.length + p.length < 8000000000000) (hbase : base ≤ W.heap.size)
    (h : ∀ v' w', Own base w' v' (l ++ p.map UInt8.toNat) → W.grownBy w' v.ownBlock → wpList Try.prog ops Q rest (a.put o.dst v') w') :
    wpList Try.prog ops Q (o :: rest) a W := by
  obtain ⟨i0, hi, hz0, hz1, hz2⟩ := info_parts infoB
  have hps : (lx.B p).size = p.length := lx.B_size p
  refine Lib.wpList_append_own_string _ hgd sl x 29 9 ho base 5 i0 Try.underlying29 Try.underlying9 hi hz0 hz1 hz2 v l.length (bc l) hs hown (lx.B p) hx (by unfold maxLen; omega) (by omega) hbase ?_
  intro v' w' h1 h2 _
  refine h v' w' ?_ h2
  have e : Lib.byteCells (lx.L (lx.B p)) = bc (p.map UInt8.toNat) := by
    rw [lx.L_B]
    unfold bc Lib.byteCells
    rw [List.map_map]
    rfl
  have h1' : w'.ownsRow base 5 1 v' (l.length + (lx.B p).size) (bc l ++ Lib.byteCells (lx.L (lx.B p))) := h1
  unfold Own
  rw [bc_app, List.length_append, List.length_map, ← e, ← hps]
  exact h1'
theorem iown_cell {base : Nat} {W : World} {A : Option Addr} {c : Nat} {l : List Int} {n : Nat} (h : IOwn base W (.slice A n c) l) (k : Nat) (hk : k < l.length) : ∃ b o, A = some ⟨b, o, none⟩ ∧ W.cell? ⟨b, o + k, none⟩ = some (.int .i64 l[k]) := by
  obtain ⟨A', c', e, hi, _⟩ := abr.ints_own h
  cases e
  obtain ⟨b, o, e, _, hc⟩ := hi (fun e => by rw [e] at hk; simp at hk)
  exact ⟨b, o, e, hc k hk⟩
theorem iown_len {base : Nat} {W : World} {u : Value} {α : Type} {l : List α} {f : α → Int} (h : IOwn base W u (l.map f)) : ∃ A c, u = .slice A l.length c := by
  obtain ⟨A, c, e, _⟩ := abr.ints_own h
  rw [List.length_map] at e
  exact ⟨A, c, e⟩
theorem ltold_from {base : Nat} {W0 W1 : World} {g : Nat} {l : List Nat} {f : Bool} {e : Ending} {w' : World} (hb : Below base W0 W1) (hf : Fr isS W0 W1) (h : LTold base W1 g l f e w') : LTold base W0 g l f e w' :=
  ⟨h.1, h.2.1, hb.trans h.2.2.1, hf.trans h.2.2.2⟩
theorem notS_int (o : Obj) (h : abr.isI o) : ¬ isS o := by
  rintro (⟨_, _, rfl⟩ | ⟨_, _, rfl⟩)
  · obtain ⟨_, _, e⟩ := h; cases e
  · obtain ⟨_, _, e⟩ := h; cases e
theorem notS_zone (cs : Array Value) (fz : Nat × Nat) : ¬ isS (.cells cs 26 fz) := by
  rintro (⟨_, _, e⟩ | ⟨_, _, e⟩) <;> cases e
structure TysL (base : Nat) (W : World) (A : Option Addr) (l : List Ty) : Prop where
  rows : Tys W A l
  old : l ≠ [] → ∀ b o, A = some ⟨b, o, none⟩ → b < base
theorem TysL.at {base : Nat} {W W' : World} {A : Option Addr} {l : List Ty} (h : TysL base W A l) (hb : Below base W W') (j : Nat) (hj : j < l.length) : ∃ b o, A = some ⟨b, o, none⟩ ∧ W'.cell? ⟨b, o + j * 3, none⟩ = some (.int .i64 l[j].off) ∧ W'.cell? ⟨b, o + j * 3 + 1, none⟩ = some (.bool l[j].dst) := by
  have hne : l ≠ [] := fun e => by rw [e] at hj; simp at hj
  obtain ⟨b, o, e, _, hc⟩ := h.rows hne
  have hlt := h.old hne b o e
  exact ⟨b, o, e, (hb.cell (p := ⟨b, o + j * 3, none⟩) hlt).trans (hc j hj).1, (hb.cell (p := ⟨b, o + j * 3 + 1, none⟩) hlt).trans (hc j hj).2.1⟩
theorem fl_not3 (f x y z : Bool) : (((f || !x) || !y) || !z) = (f || !(x && y && z)) := by cases f <;> cases x <;> cases y <;> cases z <;> rfl
/-- behind the loop: the pool is laid. -/
theorem lay_pool {base : Nat} {W w2 : World} {g : Nat} {v v' : Value} {f : Bool} {l l' : List Nat} (hg : base ≤ g) (hs : base ≤ W.heap.size) (h1 : W.heap[g]? = some (.cells #[v, .bool f] 55)) (ho : Own base W v l) (ho' : Own base w2 v' l') (hgr : W.grownBy w2 v.ownBlock) :
    LTold base W g l' f (.returned (.tuple #[])) (w2.setCell ⟨g, 0, none⟩ v') := by
  have h2 := sheet_grown h1 ho hgr
  have k1 : (w2.setCell ⟨g, 0, none⟩ v').heap[g]? = some (.cells #[v', .bool f] 55) := heap_setCell_same _ g 0 _ _ _ h2
  have F := (Fr.setCell h2 ⟨_, _, rfl⟩ 0 v' : Fr isX _ _)
  have K := (Keep.refl g w2).setCell 0 v'
  have B2 : Below base W w2 := own_below ho (Below.refl _ _) hs hgr
  refine ⟨rfl, ⟨hg, v', k1, abr.row_fr ho' F uint8_notX⟩, ?_, ?_⟩
  · exact K.to_below B2 hg (Nat.le_trans hs B2.size)
  · refine (Fr.grown hgr fun k e => ?_).trans (fr_imp F fun o ho => Or.inl ho)
    obtain ⟨cs, hc⟩ := abr.row_kind ho k e
    exact ⟨_, hc, Or.inr ⟨_, _, rfl⟩⟩
set_option maxHeartbeats 4000000 in
theorem kinds_at (base : Nat) (W0 : World) (g : Nat) (m : List Nat) (f : Bool) (A : Option Addr) (a : Nat) (B : Option Addr) (b : Nat) (C : Option Addr) (c : Nat) (z : Zn) (hok : okC z = true) (h : Sh base W0 g m f) (hl : TysL base W0 A z.ty) (bd : Bd z) (hbs : base ≤ W0.heap.size) (hn : z.ty.length ≤ 1000) (hm : m.length ≤ 200000) :
    Calls Try.prog 21 #[.pointer (some ⟨g, 0, none⟩), (.agg #[.slice A z.ty.length a, .slice B z.tr.length b, .slice C z.lp.length c, .string z.ft, .int .i64 z.v])] W0 (LTold base W0 g (m ++ z.ty.flatMap (tyD (nmL z.ty)) ++ poolN z.ty) (f || !z.ty.all (fT (nmL z.ty)))) := by
  have LA : Hid (∀ W l f n z, Sh base W g l f → oct.I64 n → oct.I64 z → l.length < 1000000000 → base ≤ W.heap.size → Calls Try.prog 45 #[.pointer (some ⟨g, 0, none⟩), .int .i64 n, .int .i64 z] W (LTold base W g (l ++ nb n z) (f || !fitB n z))) := Lib.hid fun W l f n z => lay_at base W g l f n z
  have MO := Lib.hid markof_at
  have hw0 : Hid (Below W0.heap.size W0 (W0.alloc (.cells #[.slice A z.ty.length a, .slice B z.tr.length b, .slice C z.lp.length c, .string z.ft, .int .i64 z.v] 26))) := Lib.hid (bal (Below.refl _ _) _)
  have NM : Hid (∀ W, Below W0.heap.size W0 W → Calls Try.prog 14 #[(.agg #[.slice A z.ty.length a, .slice B z.tr.length b, .slice C z.lp.length c, .string z.ft, .int .i64 z.v])] W (NTold z.ty W)) := Lib.hid fun W hb => names_at A a B b C c z W (hl.rows.below hb) hn
  have PO : Hid (∀ W A' c', lines.Strs W A' (nm z.ty) → Calls Try.prog 13 #[.slice A' (nm z.ty).length c'] W (fun e w' => ∃ u, e = .returned (.tuple #[.string (lx.B (ab.pl (ab.dst (nmL z.ty)))), u, .bool true]) ∧ IOwn W.heap.size w' u (z.ty.map (plc (nmL z.ty))) ∧ Below W.heap.size W w')) := Lib.hid fun W A' c' hs =>
    (abr.pool_own (nm z.ty) A' c' W hs (by rw [nm_len]; exact hn) bd.ab).mono fun e w' ⟨u, h1, h2, h3⟩ => by
      have e1 : ab.pT ((nm z.ty).map lx.L) = ab.pl (ab.dst (nmL z.ty)) := okC_pool hok
      have e2 : ab.okB ((nm z.ty).map lx.L) = true := okC_names hok
      have e3 : ab.pN ((nm z.ty).map lx.L) = z.ty.map (plc (nmL z.ty)) := by
        refine (okC_places hok).trans ?_
        unfold nmL nm
        rw [List.map_map, List.map_map, List.map_map]
        rfl
      rw [e1, e2] at h1
      rw [e3] at h2
      exact ⟨u, h1, h2, h3⟩
  have BX := Lib.hid (hp_new W0 (.cells #[.slice A z.ty.length a, .slice B z.tr.length b, .slice C z.lp.length c, .string z.ft, .int .i64 z.v] 26))
  have hpl : (ab.pl (ab.dst (nmL z.ty))).length ≤ 256 := ((ab.ok_iff _).1 (okC_names hok)).2
  have hplc := fun t (ht : t ∈ z.ty) => plc_lt ht
  have hbd := bd.ty
  have hpN : poolN z.ty = (ab.pl (ab.dst (nmL z.ty))).map UInt8.toNat := rfl
  clear hok bd
  obtain ⟨l, tr, lp, ft, v⟩ := z
  simp only at *
  rw [hpN]
  clear hpN
  generalize hX : nmL l = X at *
  generalize ab.pl (ab.dst X) = P at *
  go_enter Try.func21, Try.ntmps21
  go_wp2_with (first
    | (go_at_call 14; (with_reducible refine (NM.out _ hw0.out).mono ?_); rintro e w1 ⟨A1, c1, rfl, hs1, hb1⟩; have S1 := Lib.hid hs1; have HA1 := Lib.hid hb1; clear hs1 hb1)
    | (go_at_call 13; (with_reducible refine (PO.out _ _ _ S1.out).mono ?_); rintro e w2 ⟨u, rfl, hi2, hb2⟩; have HA2 := Lib.hid (btr HA1.out hb2); have HI2 := Lib.hid hi2; have BX2 := Lib.hid (kept BX.out HA2.out); obtain ⟨Au, cu, rfl⟩ := iown_len hi2; have x0 := row_cell BX2.out 0; clear hi2 hb2 HA1))
  have HB2 := Lib.hid (btr hw0.out HA2.out)
  have S0 := Lib.hid (lhead_start (tyD X) (fT X) l (sh_below h HB2.out))
  have hbs2 := Nat.le_trans hbs HB2.out.size
  have hl2 := fun W (hb : Below base w2 W) => hl.at ((HB2.out.mono hbs).trans hb)
  have IB : Hid (∀ W, Fr isS w2 W → W.heap[W0.heap.size]? = some (.cells #[.slice A l.length a, .slice B tr.length b, .slice C lp.length c, .string ft, .int .i64 v] 26) ∧ IOwn w1.heap.size W (.slice Au l.length cu) (l.map (plc X))) := Lib.hid fun W hf => ⟨hf.keep _ _ BX2.out (notS_zone _ _), abr.iown_fr HI2.out hf notS_int⟩
  clear h hl
  go_loopw [18] (fun i W => LHead (tyD X) (fT X) l base w2 g m f i W) (fun i _ => l.length - (intOf i).toNat)
  case atStart => exact S0.out
  case round =>
    obtain ⟨j, hj, rfl, hsh, hb, hf⟩ := hrel
    by_cases hlt : j < l.length
    · obtain ⟨q, o, rfl, y0, y1⟩ := hl2 _ hb j hlt
      obtain ⟨z0, zi⟩ := IB.out _ hf
      have z0 := row_cell z0 0
      obtain ⟨qi, oi, rfl, i0⟩ := iown_cell zi j (by simpa using hlt)
      rw [List.getElem_map] at i0
      have hm2 : (m ++ (l.take j).flatMap (tyD X)).length + 16 < 1000000000 := by
        have := flat_le (tyD X) 24 (tyD_len X) (l.take j)
        rw [List.length_append]
        rw [List.length_take] at this
        omega
      have hb1 := hbd _ (List.getElem_mem hlt)
      have hb3 : oct.I64 (plc X l[j]) := by have := hplc _ (List.getElem_mem hlt); unfold oct.I64; omega
      have C1 := Lib.hid (LA.out wr _ _ l[j].off 4 hsh hb1 (by unfold oct.I64; omega) (by omega) (Nat.le_trans hbs2 hb.size))
      have C2 := Lib.hid (fun W (h1 : Sh base W g (m ++ (l.take j).flatMap (tyD X) ++ nb l[j].off 4) ((f || !(l.take j).all (fT X)) || !fitB l[j].off 4)) (h2 : Below base wr W) => LA.out W _ _ (b01 l[j].dst) 1 h1 (b01_bd _) (by unfold oct.I64; omega) (by rw [List.length_append]; have := nb_len l[j].off 4; omega) (Nat.le_trans (Nat.le_trans hbs2 hb.size) h2.size))
      have C3 := Lib.hid (fun W (h1 : Sh base W g (m ++ (l.take j).flatMap (tyD X) ++ nb l[j].off 4 ++ nb (b01 l[j].dst) 1) (((f || !(l.take j).all (fT X)) || !fitB l[j].off 4) || !fitB (b01 l[j].dst) 1)) (h2 : Below base wr W) => LA.out W _ _ (plc X l[j]) 1 h1 hb3 (by unfold oct.I64; omega) (by rw [List.length_append, List.length_append]; have := nb_len l[j].off 4; have := nb_len (b01 l[j].dst) 1; omega) (Nat.le_trans (Nat.le_trans hbs2 hb.size) h2.size))
      have HC : Hid (∀ W, Below base wr W → Fr isS wr W → W.cell? ⟨W0.heap.size, 0, none⟩ = some (.slice (some ⟨q, o, none⟩) l.length a) ∧ W.cell? ⟨q, o + j * 3, none⟩ = some (.int .i64 l[j].off) ∧ W.cell? ⟨q, o + j * 3 + 1, none⟩ = some (.bool l[j].dst) ∧ W.cell? ⟨qi, oi + j, none⟩ = some (.int .i64 (plc X l[j]))) := Lib.hid fun W h2 h3 => by
        obtain ⟨q', o', e, u0, u1⟩ := hl2 _ (hb.trans h2) j hlt
        cases e
        obtain ⟨z0, zi⟩ := IB.out _ (hf.trans h3)
        obtain ⟨qi', oi', e, i0⟩ := iown_cell zi j (by simpa using hlt)
        cases e
        rw [List.getElem_map] at i0
        exact ⟨row_cell z0 0, u0, u1, i0⟩
      have R := Lib.hid (fun W' w1 (h1 : Sh base W' g (m ++ (l.take j).flatMap (tyD X) ++ nb l[j].off 4 ++ nb (b01 l[j].dst) 1 ++ nb (plc X l[j]) 1) ((((f || !(l.take j).all (fT X)) || !fitB l[j].off 4) || !fitB (b01 l[j].dst) 1) || !fitB (plc X l[j]) 1)) (h2 : Below base wr w1) (h3 : Fr isS wr w1) (h4 : Below base w1 W') (h5 : Fr isS w1 W') => lhead_step (k := fT X) (f := tyD X) (g := g) (m := m) (b := f) (W' := W') hlt hb hf (by rw [fl_not3, List.append_assoc _ (nb _ _), List.append_assoc _ (nb _ _), ← List.append_assoc (nb _ _)] at h1; exact h1) (h2.trans h4) (h3.trans h5))
      clear hsh hb hf hl2 hm2 S0 hb1 hb3 zi IB x0 BX BX2 hX
      generalize l[j].off = n1 at *
      generalize l[j].dst = n2 at *
      generalize plc X l[j] = n3 at *
      go_wp2_with (first
        | (go_at_call 45; (with_reducible refine C1.out.mono ?_); rintro e w3 ⟨rfl, h1, h2, h3⟩; have H1 := Lib.hid h1; have H2 := Lib.hid h2; have H3 := Lib.hid h3; clear z0 y0 y1 i0; obtain ⟨z0, y0, y1, i0⟩ := HC.out _ h2 h3; clear h1 h2 h3)
        | (go_at_call 46; (with_reducible refine (MO.out _ _).mono ?_); rintro e w' ⟨rfl, rfl⟩)
        | (go_at_call 45; (with_reducible refine (C2.out _ H1.out H2.out).mono ?_); rintro e w4 ⟨rfl, h1, h2, h3⟩; have K1 := Lib.hid h1; have K2 := Lib.hid (H2.out.trans h2); have K3 := Lib.hid (H3.out.trans h3); clear z0 y0 y1 i0; obtain ⟨z0, y0, y1, i0⟩ := HC.out _ K2.out K3.out; clear h1 h2 h3)
        | (go_at_call 45; (with_reducible refine (C3.out _ K1.out K2.out).mono ?_); rintro e w5 ⟨rfl, h1, h2, h3⟩; have Q := Lib.hid (R.out _ _ h1 K2.out K3.out h2 h3); clear h1 h2 h3))
      go_roundw
      case rel => exact Q.out
      case measure => simp [intOf]; omega
    · obtain rfl : j = l.length := by omega
      rw [List.take_length] at hsh
      obtain ⟨hg, v1, hv, ho⟩ := hsh
      obtain ⟨A1', c1', rfl⟩ := own_len ho
      have c0 := row_cell hv 0
      have HO := Lib.hid ho
      have HL : Hid ((m ++ l.flatMap (tyD X)).length + P.length < 8000000000000) := Lib.hid (by
        have := flat_le (tyD X) 24 (tyD_len X) l
        rw [List.length_append]
        omega)
      have HS := Lib.hid (Nat.le_trans hbs2 hb.size)
      have E := Lib.hid (fun w2' v' ho' hgr => ltold_from ((HB2.out.mono hbs).trans hb) ((Fr.below HB2.out).trans hf) (lay_pool (v' := v') (w2 := w2') (l' := m ++ l.flatMap (tyD X) ++ P.map UInt8.toNat) hg HS.out hv ho ho' hgr))
      have HV := Lib.hid hv
      clear hg hv ho hb hf hl2 S0 IB x0 BX BX2 hX hplc hbd
      generalize m ++ l.flatMap (tyD X) = m1 at *
      go_wp2_with (at_builtin; refine app_text rfl _ _ rfl base wr (.slice A1' m1.length c1') m1 P rfl rfl HO.out HL.out HS.out ?_; intro v2 w2' ho2 hg2; obtain ⟨A2, c2, rfl⟩ := own_len ho2; have h2 := sheet_grown HV.out HO.out hg2; have q0 := row_cell h2 0; have f0 := fz h2 0; have R := Lib.hid (E.out w2' _ ho2 hg2); clear c0 h2 ho2 hg2)
      go_end0
      have q := R.out
      rw [List.length_append, List.length_map] at q
      exact q
end Go.Proofs.Ytllficloadncfaa.blk
