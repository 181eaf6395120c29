/-
  Zones in memory: rows of kinds of local time and of pairs of numbers as slices read them, a zone's box, and its names. Conditions: as said.
-/
import Derived.Test.YtkdmecpelfcbmaaBlkMath
import Derived.Test.YtkdmecpelfcbmaaHeadUse
import Derived.Test.YtkdmecpelfcbmaaLinesMem
import Derived.Deep.OwnRows
namespace Go.Proofs.Ytkdmecpelfcbmaa.blk
open Go.ChangeShapes Go.WideShapes Go.ChangeAt Go.RowKit
open om mem oct bk
set_option linter.unusedVariables false
set_option maxRecDepth 100000

/-- a slice that reads as a row of kinds of local time. -/
def Tys (W : World) (A : Option Addr) (l : List Ty) : Prop :=
  l ≠ [] → ∃ b o, A = some ⟨b, o, none⟩ ∧ b < W.heap.size ∧ ∀ k (h : k < l.length), W.cell? ⟨b, o + k * 3, none⟩ = some (.int .i64 l[k].off) ∧ W.cell? ⟨b, o + k * 3 + 1, none⟩ = some (.bool l[k].dst) ∧ W.cell? ⟨b, o + k * 3 + 2, none⟩ = some (.string l[k].ab)
/-- one that reads as a row of pairs of numbers. -/
def Prs (W : World) (A : Option Addr) (l : List Pr) : Prop :=
  l ≠ [] → ∃ b o, A = some ⟨b, o, none⟩ ∧ b < W.heap.size ∧ ∀ k (h : k < l.length), W.cell? ⟨b, o + k * 2, none⟩ = some (.int .i64 l[k].1) ∧ W.cell? ⟨b, o + k * 2 + 1, none⟩ = some (.int .i64 l[k].2)
theorem Tys.keep {W W' : World} {A : Option Addr} {l : List Ty} (h : Tys W A l) (hs : W.heap.size ≤ W'.heap.size) (hk : ∀ b o p, A = some ⟨b, o, none⟩ → b < W.heap.size → W'.cell? ⟨b, p, none⟩ = W.cell? ⟨b, p, none⟩) : Tys W' A l := by
  intro hl
  obtain ⟨b, o, e, hlt, hc⟩ := h hl
  exact ⟨b, o, e, Nat.lt_of_lt_of_le hlt hs, fun k hk' => by rw [hk b o _ e hlt, hk b o _ e hlt, hk b o _ e hlt]; exact hc k hk'⟩
theorem Prs.keep {W W' : World} {A : Option Addr} {l : List Pr} (h : Prs W A l) (hs : W.heap.size ≤ W'.heap.size) (hk : ∀ b o p, A = some ⟨b, o, none⟩ → b < W.heap.size → W'.cell? ⟨b, p, none⟩ = W.cell? ⟨b, p, none⟩) : Prs W' A l := by
  intro hl
  obtain ⟨b, o, e, hlt, hc⟩ := h hl
  exact ⟨b, o, e, Nat.lt_of_lt_of_le hlt hs, fun k hk' => by rw [hk b o _ e hlt, hk b o _ e hlt]; exact hc k hk'⟩
theorem Tys.below {W W' : World} {A : Option Addr} {l : List Ty} (h : Tys W A l) (hb : Below W.heap.size W W') : Tys W' A l :=
  h.keep hb.size fun b o p _ hlt => hb.cell (p := ⟨b, p, none⟩) hlt
theorem Prs.below {W W' : World} {A : Option Addr} {l : List Pr} (h : Prs W A l) (hb : Below W.heap.size W W') : Prs W' A l :=
  h.keep hb.size fun b o p _ hlt => hb.cell (p := ⟨b, p, none⟩) hlt
/-- a zone's rows. -/
structure Zr (W : World) (A B C : Option Addr) (z : Zn) : Prop where
  ty : Tys W A z.ty
  tr : Prs W B z.tr
  lp : Prs W C z.lp
theorem Zr.below {W W' : World} {A B C : Option Addr} {z : Zn} (h : Zr W A B C z) (hb : Below W.heap.size W W') : Zr W' A B C z := ⟨h.ty.below hb, h.tr.below hb, h.lp.below hb⟩
/-- a value that is a zone. -/
def IsZ (W : World) (v : Value) (z : Zn) : Prop := ∃ A a B b C c, v = (.agg #[.slice A z.ty.length a, .slice B z.tr.length b, .slice C z.lp.length c, .string z.ft, .int .i64 z.v]) ∧ Zr W A B C z
theorem IsZ.below {W W' : World} {v : Value} {z : Zn} (h : IsZ W v z) (hb : Below W.heap.size W W') : IsZ W' v z := by
  obtain ⟨A, a, B, b, C, c, e, hz⟩ := h
  exact ⟨A, a, B, b, C, c, e, hz.below hb⟩
/-- what a box that holds a zone tells, whatever memory came behind. -/
theorem zbox (A : Option Addr) (a : Nat) (B : Option Addr) (b : Nat) (C : Option Addr) (c : Nat) (z : Zn) (w : World) : Hid (∀ W, Below (w.alloc (.cells #[.slice A z.ty.length a, .slice B z.tr.length b, .slice C z.lp.length c, .string z.ft, .int .i64 z.v] 26)).heap.size (w.alloc (.cells #[.slice A z.ty.length a, .slice B z.tr.length b, .slice C z.lp.length c, .string z.ft, .int .i64 z.v] 26)) W →
    W.cell? ⟨w.heap.size, 0, none⟩ = some (.slice A z.ty.length a) ∧ W.cell? ⟨w.heap.size, 1, none⟩ = some (.slice B z.tr.length b) ∧ W.cell? ⟨w.heap.size, 2, none⟩ = some (.slice C z.lp.length c) ∧ W.cell? ⟨w.heap.size, 3, none⟩ = some (.string z.ft) ∧ W.cell? ⟨w.heap.size, 4, none⟩ = some (.int .i64 z.v) ∧ Below w.heap.size w W ∧ w.heap.size < W.heap.size) :=
  Lib.hid fun W hb => ⟨row_cell (kept (hp_new w _) hb) 0, row_cell (kept (hp_new w _) hb) 1, row_cell (kept (hp_new w _) hb) 2, row_cell (kept (hp_new w _) hb) 3, row_cell (kept (hp_new w _) hb) 4, btr (bal (Below.refl _ _) _) hb, by have := hb.size; rw [World.size_alloc] at this; omega⟩
/-! names -/
abbrev SOwn (base : Nat) (W : World) (v : Value) (l : List ByteArray) : Prop := W.ownsRow base 9 1 v l.length (l.map Value.string)
theorem makeS (W : World) (c : Nat) (z : Int) (hz : z = (c : Nat)) (hc : c < 8000000000) :
    (Instr.makeSlice 54 (.int .i64 0) (.int .i64 z)).run Try.prog W = .ok (.slice (some ⟨W.heap.size, 0, none⟩) 0 c) (W.alloc (.cells (madeCells #[.string ⟨#[]⟩] c) 9)) := by
  subst hz
  obtain ⟨i0, hi, hz0, hz1, hz2⟩ := info_parts lines.infoS
  have := run_make (P := Try.prog) W 54 9 i0 _ Try.underlying54 hi hz0 .i64 .i64 0 (c : Int) (Int.le_refl _) (by omega) (by rw [hz2]; omega) (by omega)
  rw [hz1, Nat.mul_one] at this
  exact this
theorem madeS (W : World) (c : Nat) (hc : c < 8000000000) (base : Nat) (hb : base ≤ W.heap.size) : SOwn base (W.alloc (.cells (madeCells #[.string ⟨#[]⟩] c) 9)) (.slice (some ⟨W.heap.size, 0, none⟩) 0 c) [] :=
  World.ownsRow_made W _ c hb (by unfold maxLen; omega) (by rw [size_madeCells, Nat.mul_one])
def NHead (l : List Ty) (w0 : World) (u t : Value) (W : World) : Prop :=
  ∃ (j : Nat) (v : Value), j ≤ l.length ∧ v = u ∧ t = .int .i64 (j : Nat) ∧ SOwn w0.heap.size W v (nm (l.take j)) ∧ Below w0.heap.size w0 W
def NTold (l : List Ty) (w : World) (e : Ending) (w' : World) : Prop := ∃ A c, e = .returned (.slice A (nm l).length c) ∧ lines.Strs w' A (nm l) ∧ Below w.heap.size w w'
theorem nm_len (l : List Ty) : (nm l).length = l.length := by simp [nm]
theorem nm_snoc (l : List Ty) (k : Nat) (h : k < l.length) : nm (l.take (k + 1)) = nm (l.take k) ++ [l[k].ab] := by
  unfold nm
  rw [List.take_succ_eq_append_getElem h, List.map_append]
  rfl
theorem nhead_step {l : List Ty} {w0 W W' : World} {k : Nat} {v v' : Value} (hk : k < l.length) (ho : SOwn w0.heap.size W v (nm (l.take k))) (hb : Below w0.heap.size w0 W) (ho' : SOwn w0.heap.size W' v' (nm (l.take k) ++ [l[k].ab])) (hg : W.grownBy W' v.ownBlock) : NHead l w0 v' (.int .i64 ((k : Int) + 1)) W' :=
  ⟨k + 1, v', hk, rfl, rfl, by rw [nm_snoc l k hk]; exact ho', hb.grown hg hb.size (fun j hj => (World.ownsRow.lt ho j hj).1)⟩
set_option maxHeartbeats 1000000 in
theorem names_at (A : Option Addr) (a : Nat) (B : Option Addr) (b : Nat) (C : Option Addr) (c : Nat) (z : Zn) (w : World) (h : Tys w A z.ty) (hn : z.ty.length ≤ 1000) : Calls Try.prog 20 #[(.agg #[.slice A z.ty.length a, .slice B z.tr.length b, .slice C z.lp.length c, .string z.ft, .int .i64 z.v])] w (NTold z.ty w) := by
  have hmk := fun W => makeS W z.ty.length (z.ty.length : Int) rfl (by omega)
  have T := zbox A a B b C c z w
  have h0 := h.below (bal (Below.refl _ w) (.cells #[.slice A z.ty.length a, .slice B z.tr.length b, .slice C z.lp.length c, .string z.ft, .int .i64 z.v] 26))
  obtain ⟨l, tr, lp, ft, v⟩ := z
  simp only at *
  go_enter Try.func20, Try.ntmps20
  go_wp2
  clear hmk
  generalize hw0 : w.alloc (.cells #[.slice A l.length a, .slice B tr.length b, .slice C lp.length c, .string ft, .int .i64 v] 26) = w0 at *
  have hws : w0.heap.size = w.heap.size + 1 := by rw [← hw0]; simp
  have ST : Hid (SOwn w0.heap.size _ (.slice (some ⟨w.heap.size + 1, 0, none⟩) 0 l.length) []) := Lib.hid (by
    have q := madeS w0 l.length (by omega) w0.heap.size (Nat.le_refl _)
    rw [show (Value.slice (some ⟨w0.heap.size, 0, none⟩) 0 l.length) = .slice (some ⟨w.heap.size + 1, 0, none⟩) 0 l.length by rw [hws]] at q
    exact q)
  clear hws
  go_loopw [3, 12] (fun u t W => NHead l w0 u t W) (fun _ t _ => l.length - (intOf t).toNat)
  case atStart => exact ⟨0, _, Nat.zero_le _, rfl, rfl, by simpa [nm] using ST.out, bal (Below.refl _ _) _⟩
  case round =>
    obtain ⟨j, v1, hj, rfl, rfl, ho, hb⟩ := hrel
    obtain ⟨c0, c1, c2, c3, c4, hb2, hs1⟩ := T.out _ hb
    by_cases hlt : j < l.length
    · obtain ⟨g, o, rfl, hg, hc⟩ := (h0.below hb) (fun e => by rw [e] at hlt; simp at hlt)
      have x2 := (hc j hlt).2.2
      have HO := Lib.hid ho
      have HB := Lib.hid hb
      have R := Lib.hid (fun v' W' => nhead_step (v' := v') (W' := W') hlt ho hb)
      have hlen : (nm (l.take j)).length < 8000000000000 := by rw [nm_len, List.length_take]; omega
      clear hc ho hb h0 h T ST
      generalize l[j].ab = s at *
      generalize nm (l.take j) = ls at *
      generalize l.length = n at *
      go_wp2_with (at_builtin; refine lines.app_one rfl _ _ rfl w0.heap.size wr v1 ls s rfl rfl HO.out hlen HB.out.size ?_; intro v' w1 ho' hg')
      go_roundw
      case rel => exact R.out _ _ ho' hg'
      case measure => simp [intOf]; omega
    · obtain rfl : j = l.length := by omega
      rw [List.take_length] at ho
      obtain ⟨A1, c1', rfl, hs, _⟩ := lines.Strs.of_own ho
      have E := Lib.hid (show NTold l w (.returned (.slice A1 (nm l).length c1')) wr from ⟨A1, c1', rfl, hs, hb2⟩)
      clear ho hs hb h0 h T ST
      go_wp2
      go_ret
      exact E.out
end Go.Proofs.Ytkdmecpelfcbmaa.blk
