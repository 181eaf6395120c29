/-
  What layChanges, layLeaps, layKinds and Encode answer. Conditions: the zone is read; its rows are not too long.
-/
import Derived.Test.YtkdmecpelfcbmaaBlkLay
import Derived.Test.YtkdmecpelfcbmaaBlkCount
namespace Go.Proofs.Ytkdmecpelfcbmaa.blk
open Go.ChangeShapes Go.WideShapes Go.ChangeAt Go.RowKit
open om mem oct bk
open abr (Fr)
set_option linter.unusedVariables false
set_option maxRecDepth 100000

/-- rows of pairs and of kinds are kept where a sheet is written. -/
theorem cell_fr {P : Obj → Prop} {W W' : World} {b o : Nat} {x : Value} (hf : Fr P W W') {ob : Obj} (hb : W.heap[b]? = some ob) (hn : ¬ P ob) (h : W.cell? ⟨b, o, none⟩ = some x) : W'.cell? ⟨b, o, none⟩ = some x := by
  rw [World.cell?_of_block (w := W) (by rw [hf.keep b ob hb hn, hb])]
  exact h
/-- the head of a round of a loop that lays. -/
def LHead {α : Type} (f : α → List Nat) (k : α → Bool) (l : List α) (base : Nat) (W0 : World) (g : Nat) (m : List Nat) (b : Bool) (i : Value) (W : World) : Prop :=
  ∃ j : Nat, j ≤ l.length ∧ i = .int .i64 (j : Nat) ∧ Sh base W g (m ++ (l.take j).flatMap f) (b || !(l.take j).all k) ∧ Below base W0 W ∧ Fr isS W0 W
theorem lhead_start {α : Type} (f : α → List Nat) (k : α → Bool) (l : List α) {base : Nat} {W0 : World} {g : Nat} {m : List Nat} {b : Bool} (h : Sh base W0 g m b) : LHead f k l base W0 g m b (.int .i64 0) W0 :=
  ⟨0, Nat.zero_le _, rfl, by simpa using h, Below.refl _ _, Fr.refl _ _⟩
theorem lhead_step {α : Type} {f : α → List Nat} {k : α → Bool} {l : List α} {base : Nat} {W0 W W' : World} {g : Nat} {m : List Nat} {b : Bool} {j : Nat} (hj : j < l.length) (hb : Below base W0 W) (hf : Fr isS W0 W)
    (h : Sh base W' g (m ++ (l.take j).flatMap f ++ f l[j]) ((b || !(l.take j).all k) || !k l[j])) (hb' : Below base W W') (hf' : Fr isS W W') : LHead f k l base W0 g m b (.int .i64 ((j : Int) + 1)) W' :=
  ⟨j + 1, hj, rfl, by
    rw [flat_take l f j hj, all_take l k j hj, Bool.not_and, ← Bool.or_assoc, ← List.append_assoc]
    exact h, hb.trans hb', hf.trans hf'⟩
theorem drew_fr {P : Obj → Prop} {a : World} (n : Nat) : Fr P a (a.drewN n) := (Fr.refl P a).drewN n
theorem drew_bel (B : Nat) (a : World) (n : Nat) : Below B a (a.drewN n) := bel_drewN (Below.refl _ _) n
/-- a pair's numbers, behind a sheet that was written. -/
structure PrsL (base : Nat) (W : World) (A : Option Addr) (l : List Pr) : Prop where
  rows : Prs W A l
  old : l ≠ [] → ∀ b o, A = some ⟨b, o, none⟩ → b < base
theorem PrsL.at {base : Nat} {W W' : World} {A : Option Addr} {l : List Pr} (h : PrsL base W A l) (hb : Below base W W') (j : Nat) (hj : j < l.length) : ∃ b o, A = some ⟨b, o, none⟩ ∧ W'.cell? ⟨b, o + j * 2, none⟩ = some (.int .i64 l[j].1) ∧ W'.cell? ⟨b, o + j * 2 + 1, none⟩ = some (.int .i64 l[j].2) := by
  have hne : l ≠ [] := fun e => by rw [e] at hj; simp at hj
  obtain ⟨b, o, e, _, hc⟩ := h.rows hne
  have hlt := h.old hne b o e
  exact ⟨b, o, e, (hb.cell (p := ⟨b, o + j * 2, none⟩) hlt).trans (hc j hj).1, (hb.cell (p := ⟨b, o + j * 2 + 1, none⟩) hlt).trans (hc j hj).2⟩
set_option maxHeartbeats 2000000 in
theorem changes_at (base : Nat) (W0 : World) (g : Nat) (m : List Nat) (f : Bool) (A : Option Addr) (c : Nat) (l : List Pr) (s : Nat) (hs : s = 4 ∨ s = 8) (h : Sh base W0 g m f) (hl : PrsL base W0 A l) (hbd : PrsBd l) (hbs : base ≤ W0.heap.size) (hn : l.length ≤ 10000) (hm : m.length ≤ 100000) :
    Calls Try.prog 24 #[.pointer (some ⟨g, 0, none⟩), .slice A l.length c, .int .i64 (s : Nat)] W0 (LTold base W0 g (m ++ l.flatMap (trA s) ++ l.flatMap trB) ((f || !l.all (fA s)) || !l.all fB)) := by
  have LA : Hid (∀ W l f n z, Sh base W g l f → oct.I64 n → oct.I64 z → l.length < 1000000000 → base ≤ W.heap.size → Calls Try.prog 49 #[.pointer (some ⟨g, 0, none⟩), .int .i64 n, .int .i64 z] W (LTold base W g (l ++ nb n z) (f || !fitB n z))) := Lib.hid fun W l f n z => lay_at base W g l f n z
  have hs64 : oct.I64 (s : Nat) := by unfold oct.I64; omega
  have S0 := Lib.hid (lhead_start (trA s) (fA s) l h)
  clear h
  go_enter Try.func24, Try.ntmps24
  go_wp2
  go_loopw [10] (fun i W => LHead (trA s) (fA s) l base W0 g m f i W) (fun i _ => l.length - (intOf i).toNat)
  case atStart => exact S0.out
  case round =>
    obtain ⟨j, hj, rfl, hsh, hb, hf⟩ := hrel
    by_cases hlt : j < l.length
    · obtain ⟨b, o, rfl, x0, x1⟩ := hl.at hb j hlt
      have hm2 : (m ++ (l.take j).flatMap (trA s)).length < 1000000000 := by
        have := flat_le (trA s) 8 (fun x => nb_len _ _) (l.take j)
        rw [List.length_append]
        rw [List.length_take] at this
        omega
      have C := Lib.hid (LA.out wr _ _ l[j].1 s hsh (hbd _ (List.getElem_mem hlt)).1 hs64 hm2 (Nat.le_trans hbs hb.size))
      have R := Lib.hid (fun W' (h1 : Sh base W' g (m ++ (l.take j).flatMap (trA s) ++ nb l[j].1 s) ((f || !(l.take j).all (fA s)) || !fitB l[j].1 s)) h2 h3 => lhead_step (k := fA s) (f := trA s) (g := g) (m := m) (b := f) (W' := W') hlt hb hf h1 h2 h3)
      clear hsh hb hf hl hm2 S0
      generalize l[j].1 = n1 at *
      generalize l[j].2 = n2 at *
      go_wp2_with (go_at_call 49; (with_reducible refine C.out.mono ?_); rintro e w1 ⟨rfl, h1, h2, h3⟩; have Q := Lib.hid (R.out _ h1 h2 h3); clear h1 h2 h3)
      go_roundw
      case rel => exact Q.out
      case measure => simp [intOf]; omega
    · obtain rfl : j = l.length := by omega
      rw [List.take_length] at hsh
      have S1 := Lib.hid (lhead_start trB fB l hsh)
      have HB1 := Lib.hid hb
      have HF1 := Lib.hid hf
      have hl1 := fun W (h : Below base wr W) => hl.at (hb.trans h)
      have hbs1 := Nat.le_trans hbs hb.size
      have hm1 : (m ++ l.flatMap (trA s)).length ≤ 180000 := by
        have := flat_le (trA s) 8 (fun x => nb_len _ _) l
        rw [List.length_append]
        omega
      clear hsh S0 hb hf hl
      generalize m ++ l.flatMap (trA s) = m1 at *
      generalize (f || !l.all (fA s)) = f1 at *
      go_wp2
      generalize wr = W1 at *
      go_loopw [24] (fun i W => LHead trB fB l base W1 g m1 f1 i W) (fun i _ => l.length - (intOf i).toNat)
      case atStart => exact S1.out
      case round =>
        obtain ⟨j, hj, rfl, hsh, hb, hf⟩ := hrel
        by_cases hlt : j < l.length
        · obtain ⟨b, o, rfl, x0, x1⟩ := hl1 _ hb j hlt
          have hm2 : (m1 ++ (l.take j).flatMap trB).length < 1000000000 := by
            have := flat_le trB 8 (fun x => nb_len _ _) (l.take j)
            rw [List.length_append]
            rw [List.length_take] at this
            omega
          have C := Lib.hid (LA.out wr _ _ l[j].2 1 hsh (hbd _ (List.getElem_mem hlt)).2 (by unfold oct.I64; omega) hm2 (Nat.le_trans hbs1 hb.size))
          have R := Lib.hid (fun W' (h1 : Sh base W' g (m1 ++ (l.take j).flatMap trB ++ nb l[j].2 1) ((f1 || !(l.take j).all fB) || !fitB l[j].2 1)) h2 h3 => lhead_step (k := fB) (f := trB) (g := g) (m := m1) (b := f1) (W' := W') hlt hb hf h1 h2 h3)
          clear hsh hb hf hl1 hm2 S1
          generalize l[j].1 = n1 at *
          generalize l[j].2 = n2 at *
          go_wp2_with (go_at_call 49; (with_reducible refine C.out.mono ?_); rintro e w1 ⟨rfl, h1, h2, h3⟩; have Q := Lib.hid (R.out _ h1 h2 h3); clear h1 h2 h3)
          go_roundw
          case rel => exact Q.out
          case measure => simp [intOf]; omega
        · obtain rfl : j = l.length := by omega
          rw [List.take_length] at hsh
          have E : Hid (LTold base W0 g (m1 ++ l.flatMap trB) (f1 || !l.all fB) (.returned (.tuple #[])) wr) := Lib.hid ⟨rfl, hsh, HB1.out.trans hb, HF1.out.trans hf⟩
          clear hsh hb hf S1
          go_wp2
          go_end0
          exact E.out
theorem fl_not (f x y : Bool) : ((f || !x) || !y) = (f || !(x && y)) := by cases f <;> cases x <;> cases y <;> rfl
set_option maxHeartbeats 2000000 in
theorem leaps_at (base : Nat) (W0 : World) (g : Nat) (m : List Nat) (f : Bool) (A : Option Addr) (c : Nat) (l : List Pr) (s : Nat) (hs : s = 4 ∨ s = 8) (h : Sh base W0 g m f) (hl : PrsL base W0 A l) (hbd : PrsBd l) (hbs : base ≤ W0.heap.size) (hn : l.length ≤ 10000) (hm : m.length ≤ 500000) :
    Calls Try.prog 26 #[.pointer (some ⟨g, 0, none⟩), .slice A l.length c, .int .i64 (s : Nat)] W0 (LTold base W0 g (m ++ l.flatMap (lpD s)) (f || !l.all (fL s))) := by
  have LA : Hid (∀ W l f n z, Sh base W g l f → oct.I64 n → oct.I64 z → l.length < 1000000000 → base ≤ W.heap.size → Calls Try.prog 49 #[.pointer (some ⟨g, 0, none⟩), .int .i64 n, .int .i64 z] W (LTold base W g (l ++ nb n z) (f || !fitB n z))) := Lib.hid fun W l f n z => lay_at base W g l f n z
  have hs64 : oct.I64 (s : Nat) := by unfold oct.I64; omega
  have S0 := Lib.hid (lhead_start (lpD s) (fL s) l h)
  clear h
  go_enter Try.func26, Try.ntmps26
  go_wp2
  go_loopw [9] (fun i W => LHead (lpD s) (fL s) l base W0 g m f i W) (fun i _ => l.length - (intOf i).toNat)
  case atStart => exact S0.out
  case round =>
    obtain ⟨j, hj, rfl, hsh, hb, hf⟩ := hrel
    by_cases hlt : j < l.length
    · obtain ⟨b, o, rfl, x0, x1⟩ := hl.at hb j hlt
      have hm2 : (m ++ (l.take j).flatMap (lpD s)).length + 8 < 1000000000 := by
        have := flat_le (lpD s) 16 (lpD_len s) (l.take j)
        rw [List.length_append]
        rw [List.length_take] at this
        omega
      have hb1 := (hbd _ (List.getElem_mem hlt)).1
      have hb2 := (hbd _ (List.getElem_mem hlt)).2
      have C1 := Lib.hid (LA.out wr _ _ l[j].1 s hsh hb1 hs64 (by omega) (Nat.le_trans hbs hb.size))
      have C2 := Lib.hid (fun W (h1 : Sh base W g (m ++ (l.take j).flatMap (lpD s) ++ nb l[j].1 s) ((f || !(l.take j).all (fL s)) || !fitB l[j].1 s)) (h2 : Below base wr W) => LA.out W _ _ l[j].2 4 h1 hb2 (by unfold oct.I64; omega) (by rw [List.length_append]; have := nb_len l[j].1 s; omega) (Nat.le_trans (Nat.le_trans hbs hb.size) h2.size))
      have HC := Lib.hid (fun W (h2 : Below base wr W) => hl.at (hb.trans h2) j hlt)
      have R := Lib.hid (fun W' w1 (h1 : Sh base W' g (m ++ (l.take j).flatMap (lpD s) ++ nb l[j].1 s ++ nb l[j].2 4) (((f || !(l.take j).all (fL s)) || !fitB l[j].1 s) || !fitB l[j].2 4)) (h2 : Below base wr w1) (h3 : Fr isS wr w1) (h4 : Below base w1 W') (h5 : Fr isS w1 W') => lhead_step (k := fL s) (f := lpD s) (g := g) (m := m) (b := f) (W' := W') hlt hb hf (by rw [fl_not, List.append_assoc _ (nb _ _)] at h1; exact h1) (h2.trans h4) (h3.trans h5))
      clear hsh hb hf hl hm2 S0 hb1 hb2
      generalize l[j].1 = n1 at *
      generalize l[j].2 = n2 at *
      go_wp2_with (first
        | (go_at_call 49; (with_reducible refine C1.out.mono ?_); rintro e w1 ⟨rfl, h1, h2, h3⟩; have H1 := Lib.hid h1; have H2 := Lib.hid h2; have H3 := Lib.hid h3; clear x0 x1; obtain ⟨b2, o2, e2, x0, x1⟩ := HC.out _ h2; cases e2; clear h1 h2 h3)
        | (go_at_call 49; (with_reducible refine (C2.out _ H1.out H2.out).mono ?_); rintro e w2 ⟨rfl, h1, h2, h3⟩; have Q := Lib.hid (R.out _ _ h1 H2.out H3.out h2 h3); clear h1 h2 h3))
      go_roundw
      case rel => exact Q.out
      case measure => simp [intOf]; omega
    · obtain rfl : j = l.length := by omega
      rw [List.take_length] at hsh
      have E : Hid (LTold base W0 g (m ++ l.flatMap (lpD s)) (f || !l.all (fL s)) (.returned (.tuple #[])) wr) := Lib.hid ⟨rfl, hsh, hb, hf⟩
      clear hsh hb hf S0
      go_wp2
      go_end0
      exact E.out
end Go.Proofs.Ytkdmecpelfcbmaa.blk
