/-
  What the contracts of layer 5 ask of the memory and leave of it: the library's variable MaxLen holds some number, a slice reads as a row of texts. Conditions: as said.
-/
import Derived.Test.YtllficloadncfaaG02
import Derived.Test.YtllficloadncfaaG08
import Derived.Test.YtllficloadncfaaRows
import Derived.WalkKit
import Derived.ProofKit
import Derived.OpenShut
import Derived.IntWalk
import Derived.Maps.AppendAt
import Derived.Laws.OwnMore
import Derived.Deep.Draws
import Derived.Lib.Hide
import Derived.Test.YtllficloadncfaaG04
import Derived.Deep.OwnRows
import Derived.Lib.Builder
import Derived.Lib.Walk
import Derived.Lib.AppendStr
import Derived.Lib.UnsafeStr
import Derived.Laws.Externs
namespace Go.Proofs.Ytllficloadncfaa.lines
open Go.ChangeShapes Go.WideShapes Go.ChangeAt Go.RowKit
open lx
set_option linter.unusedVariables false
set_option maxRecDepth 100000

/-- the library's variable holds some number. -/
def ML (w : World) : Prop := ∃ m, w.cell? ⟨0, 0, none⟩ = some (.int .i64 m)
theorem ML.below {w W : World} (h : ML w) (hb : Below w.heap.size w W) : ML W := by
  obtain ⟨m, hm⟩ := h
  exact ⟨m, (hb.cell (World.block_lt_of_cell? w _ hm)).trans hm⟩
theorem ml_of {w : World} (h : w.ShapedOpen Try.prog) : ML w := Try.laysM145.s1_3 w h

/-- a slice that reads as a row of texts. -/
def Strs (w : World) (A : Option Addr) (l : List ByteArray) : Prop :=
  l ≠ [] → ∃ b o, A = some ⟨b, o, none⟩ ∧ b < w.heap.size ∧ ∀ k (h : k < l.length), w.cell? ⟨b, o + k, none⟩ = some (.string l[k])
theorem Strs.below {w W : World} {A : Option Addr} {l : List ByteArray} (h : Strs w A l) (hb : Below w.heap.size w W) : Strs W A l := by
  intro hl
  obtain ⟨b, o, e, hlt, hc⟩ := h hl
  exact ⟨b, o, e, Nat.lt_of_lt_of_le hlt hb.size, fun k hk => (hb.cell (p := ⟨b, o + k, none⟩) hlt).trans (hc k hk)⟩
theorem Strs.of_own {w : World} {base : Nat} {e : TypeId} {v : Value} {l : List ByteArray} (h : w.ownsRow base e 1 v l.length (l.map Value.string)) :
    ∃ A c, v = .slice A l.length c ∧ Strs w A l ∧ l.length ≤ c := by
  have h0 := h
  rcases h.2 with ⟨rfl, hn⟩ | ⟨g, cap, cur, rfl, hb, hh, hnc, _⟩
  · rw [hn]
    refine ⟨none, 0, rfl, fun hl => absurd (List.eq_nil_of_length_eq_zero hn) hl, Nat.le_refl _⟩
  · refine ⟨_, _, rfl, fun hl => ⟨g, 0, rfl, ?_, fun k hk => ?_⟩, hnc⟩
    · rcases Nat.lt_or_ge g w.heap.size with k | k
      · exact k
      · rw [Array.getElem?_eq_none k] at hh
        cases hh
    · rw [Nat.zero_add, h0.cellAt k (by omega), List.getElem?_map, List.getElem?_eq_getElem hk]
      rfl
theorem strs_oneCell (l : List ByteArray) : ∀ u ∈ l.map Value.string, u.oneCell' = true := by
  intro u hu
  obtain ⟨x, _, rfl⟩ := List.mem_map.1 hu
  rfl
theorem infoS : (Try.prog.info? 9).map (fun i => (i.zero, i.size, i.bytes)) = some (some (.string ByteArray.empty), 1, 16) := by kernel_rfl
theorem infoB : (Try.prog.info? 5).map (fun i => (i.zero, i.size, i.bytes)) = some (some (.int .u8 0), 1, 1) := by kernel_rfl
theorem below_drewN {B : Nat} {a w : World} (h : Below B a w) (n : Nat) : Below B a (w.drewN n) := ⟨h.os, h.tape, h.output, h.size, h.block⟩

/-- 'all = append(all, y)', all a row of the call's own. -/
theorem app_one {ops : Array Oper} {rest : List Oper} {o : Oper} {a : Act} {Q : Exit → Act → World → Prop} (hgd : o.guard = none) (s x : Operand)
    (ho : o.op = .call { callee := .builtin .append, args := #[s, x], argTypes := #[49, 49] }) (base : Nat) (W : World) (v : Value) (ls : List ByteArray) (y : ByteArray)
    (hs : a.eval s = v) (hx : a.eval x = .slice (some ⟨W.heap.size, 0, none⟩) 1 1) (hown : W.ownsRow base 9 1 v ls.length (ls.map Value.string)) (hn : ls.length < 8000000000000) (hbase : base ≤ W.heap.size)
    (h : ∀ v' w', w'.ownsRow base 9 1 v' (ls ++ [y]).length ((ls ++ [y]).map Value.string) → W.grownBy w' v.ownBlock → wpList Try.prog ops Q rest (a.put o.dst v') w') :
    wpList Try.prog ops Q (o :: rest) a (W.alloc (.cells #[.string y] 9)) := by
  obtain ⟨i0, hi, hz0, hz1, hz2⟩ := info_parts infoS
  refine wpList_append_own _ hgd s x 49 ho base 9 i0 _ 1 16 Try.underlying49 hi hz0 hz1 hz2 rfl (by decide) v ls.length (ls.map Value.string) hs (hown.alloc _) ⟨W.heap.size, 0, none⟩ 1 1 [.string y] hx rfl (cell_one_new _ _ _) (strs_oneCell [y]) ?_ (by omega) (by simp; omega) ?_
  · unfold maxLen; omega
  · intro v' w' h1 h2 _
    refine h v' w' ?_ ((World.grownBy_alloc W _ _).trans h2)
    simpa using h1

/-! pieces of a text -/
theorem sl_run (W : World) (s : ByteArray) (a b : Nat) (z : Int) (hz : z = b) (h1 : a ≤ b) (h2 : b ≤ s.size) : (Instr.slice 9 (.string s) (some (.int .i64 a)) (some (.int .i64 z)) none).run Try.prog W = .ok (.string (s.extract a b)) W := by
  subst hz
  rw [run_slice_string W 9 s .i64 .i64 a b Try.underlying9 (by omega) (by omega) (by omega)]
  rfl
theorem sl_from (W : World) (s : ByteArray) (a : Nat) (z : Int) (hz : z = a) (h2 : a ≤ s.size) : (Instr.slice 9 (.string s) (some (.int .i64 z)) none none).run Try.prog W = .ok (.string (s.extract a s.size)) W := by
  subst hz
  rw [run_slice_string_l (P := Try.prog) W 9 s Try.underlying9 .i64 a (by omega) (by omega)]
  rfl

/-! the library's Cut and TrimSuffix -/
theorem sc_hit {W : World} (T : ML W) (s t : ByteArray) (i : Nat) (hs : s.size < 4294967281) (h : Hit s t i) :
    Calls Try.prog 59 #[.string s, .string t] W fun e w' => e = .returned (.tuple #[.string (s.extract 0 i), .string (s.extract (i + t.size) s.size), .bool true]) ∧ ∃ n, w' = W.drewN n := by
  obtain ⟨m, hm⟩ := T
  obtain ⟨e1, e2, e3⟩ := Lib.cutB_hit s t i (hit_index h)
  refine (Try.strings_Cut s t m W hs hm).mono ?_
  rw [e1, e2, e3]
  rintro e w' ⟨rfl, n, rfl⟩
  exact ⟨rfl, n, rfl⟩
theorem sc_miss {W : World} (T : ML W) (s t : ByteArray) (hs : s.size < 4294967281) (h : Miss s t) (h0 : t.size ≠ 0) :
    Calls Try.prog 59 #[.string s, .string t] W fun e w' => e = .returned (.tuple #[.string s, .string ByteArray.empty, .bool false]) ∧ ∃ n, w' = W.drewN n := by
  obtain ⟨m, hm⟩ := T
  obtain ⟨e1, e2, e3⟩ := Lib.cutB_miss s t (miss_index (by rcases h with h | h; exact absurd h h0; exact h))
  refine (Try.strings_Cut s t m W hs hm).mono ?_
  rw [e1, e2, e3]
  rintro e w' ⟨rfl, n, rfl⟩
  exact ⟨rfl, n, rfl⟩
theorem lf_hit_on {W : World} (T : ML W) (s : ByteArray) (i : Nat) (hs : s.size < 4294967281) (h : Hit s lf i) :
    Calls Try.prog 59 #[.string s, .string ⟨#[10]⟩] W fun e w' => e = .returned (.tuple #[.string (s.extract 0 i), .string (s.extract (i + 1) s.size), .bool true]) ∧ ∃ n, w' = W.drewN n := sc_hit T s lf i hs h
theorem lf_miss_on {W : World} (T : ML W) (s : ByteArray) (hs : s.size < 4294967281) (h : Miss s lf) :
    Calls Try.prog 59 #[.string s, .string ⟨#[10]⟩] W fun e w' => e = .returned (.tuple #[.string s, .string ⟨#[]⟩, .bool false]) ∧ ∃ n, w' = W.drewN n := sc_miss T s lf hs h (by decide)

/-! lines.Cut -/
theorem tl_ne {t : ByteArray} (h : 0 < t.size) : (t.toList == []) = false := by
  rw [ByteArray.toList_eq, beq_eq_false_iff_ne]
  intro k
  have : L t = [] := k
  have := (L_nil t).1 this
  omega
theorem tl_nil {t : ByteArray} (h : t.size = 0) : t = ⟨#[]⟩ := L_inj ((L_nil t).2 h)
end Go.Proofs.Ytllficloadncfaa.lines

/-
  Zones in memory: rows of kinds of local time and of pairs of numbers as slices read them, a zone's box, and its names. Conditions: as said.
-/
namespace Go.Proofs.Ytllficloadncfaa.blk
open Go.ChangeShapes Go.WideShapes Go.ChangeAt Go.RowKit
open om mem oct bk
set_option linter.unusedVariables false
set_option maxRecDepth 100000

/-- a slice that reads as a row of kinds of local time. -/
def Tys (W : World) (A : Option Addr) (l : List Ty) : Prop :=
  l ≠ [] → ∃ b o, A = some ⟨b, o, none⟩ ∧ b < W.heap.size ∧ ∀ k (h : k < l.length), W.cell? ⟨b, o + k * 3, none⟩ = some (.int .i64 l[k].off) ∧ W.cell? ⟨b, o + k * 3 + 1, none⟩ = some (.bool l[k].dst) ∧ W.cell? ⟨b, o + k * 3 + 2, none⟩ = some (.string l[k].ab)
/-- one that reads as a row of pairs of numbers. -/
def Prs (W : World) (A : Option Addr) (l : List Pr) : Prop :=
  l ≠ [] → ∃ b o, A = some ⟨b, o, none⟩ ∧ b < W.heap.size ∧ ∀ k (h : k < l.length), W.cell? ⟨b, o + k * 2, none⟩ = some (.int .i64 l[k].1) ∧ W.cell? ⟨b, o + k * 2 + 1, none⟩ = some (.int .i64 l[k].2)
theorem Tys.keep {W W' : World} {A : Option Addr} {l : List Ty} (h : Tys W A l) (hs : W.heap.size ≤ W'.heap.size) (hk : ∀ b o p, A = some ⟨b, o, none⟩ → b < W.heap.size → W'.cell? ⟨b, p, none⟩ = W.cell? ⟨b, p, none⟩) : Tys W' A l := by
  intro hl
  obtain ⟨b, o, e, hlt, hc⟩ := h hl
  exact ⟨b, o, e, Nat.lt_of_lt_of_le hlt hs, fun k hk' => by rw [hk b o _ e hlt, hk b o _ e hlt, hk b o _ e hlt]; exact hc k hk'⟩
theorem Prs.keep {W W' : World} {A : Option Addr} {l : List Pr} (h : Prs W A l) (hs : W.heap.size ≤ W'.heap.size) (hk : ∀ b o p, A = some ⟨b, o, none⟩ → b < W.heap.size → W'.cell? ⟨b, p, none⟩ = W.cell? ⟨b, p, none⟩) : Prs W' A l := by
  intro hl
  obtain ⟨b, o, e, hlt, hc⟩ := h hl
  exact ⟨b, o, e, Nat.lt_of_lt_of_le hlt hs, fun k hk' => by rw [hk b o _ e hlt, hk b o _ e hlt]; exact hc k hk'⟩
theorem Tys.below {W W' : World} {A : Option Addr} {l : List Ty} (h : Tys W A l) (hb : Below W.heap.size W W') : Tys W' A l :=
  h.keep hb.size fun b o p _ hlt => hb.cell (p := ⟨b, p, none⟩) hlt
theorem Prs.below {W W' : World} {A : Option Addr} {l : List Pr} (h : Prs W A l) (hb : Below W.heap.size W W') : Prs W' A l :=
  h.keep hb.size fun b o p _ hlt => hb.cell (p := ⟨b, p, none⟩) hlt
/-- a zone's rows. -/
structure Zr (W : World) (A B C : Option Addr) (z : Zn) : Prop where
  ty : Tys W A z.ty
  tr : Prs W B z.tr
  lp : Prs W C z.lp
theorem Zr.below {W W' : World} {A B C : Option Addr} {z : Zn} (h : Zr W A B C z) (hb : Below W.heap.size W W') : Zr W' A B C z := ⟨h.ty.below hb, h.tr.below hb, h.lp.below hb⟩
/-- a value that is a zone. -/
def IsZ (W : World) (v : Value) (z : Zn) : Prop := ∃ A a B b C c, v = (.agg #[.slice A z.ty.length a, .slice B z.tr.length b, .slice C z.lp.length c, .string z.ft, .int .i64 z.v]) ∧ Zr W A B C z
theorem IsZ.below {W W' : World} {v : Value} {z : Zn} (h : IsZ W v z) (hb : Below W.heap.size W W') : IsZ W' v z := by
  obtain ⟨A, a, B, b, C, c, e, hz⟩ := h
  exact ⟨A, a, B, b, C, c, e, hz.below hb⟩
/-- what a box that holds a zone tells, whatever memory came behind. -/
theorem zbox (A : Option Addr) (a : Nat) (B : Option Addr) (b : Nat) (C : Option Addr) (c : Nat) (z : Zn) (w : World) : Hid (∀ W, Below (w.alloc (.cells #[.slice A z.ty.length a, .slice B z.tr.length b, .slice C z.lp.length c, .string z.ft, .int .i64 z.v] 26)).heap.size (w.alloc (.cells #[.slice A z.ty.length a, .slice B z.tr.length b, .slice C z.lp.length c, .string z.ft, .int .i64 z.v] 26)) W →
    W.cell? ⟨w.heap.size, 0, none⟩ = some (.slice A z.ty.length a) ∧ W.cell? ⟨w.heap.size, 1, none⟩ = some (.slice B z.tr.length b) ∧ W.cell? ⟨w.heap.size, 2, none⟩ = some (.slice C z.lp.length c) ∧ W.cell? ⟨w.heap.size, 3, none⟩ = some (.string z.ft) ∧ W.cell? ⟨w.heap.size, 4, none⟩ = some (.int .i64 z.v) ∧ Below w.heap.size w W ∧ w.heap.size < W.heap.size) :=
  Lib.hid fun W hb => ⟨row_cell (kept (hp_new w _) hb) 0, row_cell (kept (hp_new w _) hb) 1, row_cell (kept (hp_new w _) hb) 2, row_cell (kept (hp_new w _) hb) 3, row_cell (kept (hp_new w _) hb) 4, btr (bal (Below.refl _ _) _) hb, by have := hb.size; rw [World.size_alloc] at this; omega⟩
/-! names -/
abbrev SOwn (base : Nat) (W : World) (v : Value) (l : List ByteArray) : Prop := W.ownsRow base 9 1 v l.length (l.map Value.string)
theorem makeS (W : World) (c : Nat) (z : Int) (hz : z = (c : Nat)) (hc : c < 8000000000) :
    (Instr.makeSlice 49 (.int .i64 0) (.int .i64 z)).run Try.prog W = .ok (.slice (some ⟨W.heap.size, 0, none⟩) 0 c) (W.alloc (.cells (madeCells #[.string ⟨#[]⟩] c) 9)) := by
  subst hz
  obtain ⟨i0, hi, hz0, hz1, hz2⟩ := info_parts lines.infoS
  have := run_make (P := Try.prog) W 49 9 i0 _ Try.underlying49 hi hz0 .i64 .i64 0 (c : Int) (Int.le_refl _) (by omega) (by rw [hz2]; omega) (by omega)
  rw [hz1, Nat.mul_one] at this
  exact this
theorem madeS (W : World) (c : Nat) (hc : c < 8000000000) (base : Nat) (hb : base ≤ W.heap.size) : SOwn base (W.alloc (.cells (madeCells #[.string ⟨#[]⟩] c) 9)) (.slice (some ⟨W.heap.size, 0, none⟩) 0 c) [] :=
  World.ownsRow_made W _ c hb (by unfold maxLen; omega) (by rw [size_madeCells, Nat.mul_one])
def NHead (l : List Ty) (w0 : World) (u t : Value) (W : World) : Prop :=
  ∃ (j : Nat) (v : Value), j ≤ l.length ∧ v = u ∧ t = .int .i64 (j : Nat) ∧ SOwn w0.heap.size W v (nm (l.take j)) ∧ Below w0.heap.size w0 W
def NTold (l : List Ty) (w : World) (e : Ending) (w' : World) : Prop := ∃ A c, e = .returned (.slice A (nm l).length c) ∧ lines.Strs w' A (nm l) ∧ Below w.heap.size w w'
theorem nm_len (l : List Ty) : (nm l).length = l.length := by simp [nm]
theorem nm_snoc (l : List Ty) (k : Nat) (h : k < l.length) : nm (l.take (k + 1)) = nm (l.take k) ++ [l[k].ab] := by
  unfold nm
  rw [List.take_succ_eq_append_getElem h, List.map_append]
  rfl
theorem nhead_step {l : List Ty} {w0 W W' : World} {k : Nat} {v v' : Value} (hk : k < l.length) (ho : SOwn w0.heap.size W v (nm (l.take k))) (hb : Below w0.heap.size w0 W) (ho' : SOwn w0.heap.size W' v' (nm (l.take k) ++ [l[k].ab])) (hg : W.grownBy W' v.ownBlock) : NHead l w0 v' (.int .i64 ((k : Int) + 1)) W' :=
  ⟨k + 1, v', hk, rfl, rfl, by rw [nm_snoc l k hk]; exact ho', hb.grown hg hb.size (fun j hj => (World.ownsRow.lt ho j hj).1)⟩
set_option maxHeartbeats 1000000 in
theorem names_at (A : Option Addr) (a : Nat) (B : Option Addr) (b : Nat) (C : Option Addr) (c : Nat) (z : Zn) (w : World) (h : Tys w A z.ty) (hn : z.ty.length ≤ 1000) : Calls Try.prog 14 #[(.agg #[.slice A z.ty.length a, .slice B z.tr.length b, .slice C z.lp.length c, .string z.ft, .int .i64 z.v])] w (NTold z.ty w) := by
  have hmk := fun W => makeS W z.ty.length (z.ty.length : Int) rfl (by omega)
  have T := zbox A a B b C c z w
  have h0 := h.below (bal (Below.refl _ w) (.cells #[.slice A z.ty.length a, .slice B z.tr.length b, .slice C z.lp.length c, .string z.ft, .int .i64 z.v] 26))
  obtain ⟨l, tr, lp, ft, v⟩ := z
  simp only at *
  go_enter Try.func14, Try.ntmps14
  go_wp2
  clear hmk
  generalize hw0 : w.alloc (.cells #[.slice A l.length a, .slice B tr.length b, .slice C lp.length c, .string ft, .int .i64 v] 26) = w0 at *
  have hws : w0.heap.size = w.heap.size + 1 := by rw [← hw0]; simp
  have ST : Hid (SOwn w0.heap.size _ (.slice (some ⟨w.heap.size + 1, 0, none⟩) 0 l.length) []) := Lib.hid (by
    have q := madeS w0 l.length (by omega) w0.heap.size (Nat.le_refl _)
    rw [show (Value.slice (some ⟨w0.heap.size, 0, none⟩) 0 l.length) = .slice (some ⟨w.heap.size + 1, 0, none⟩) 0 l.length by rw [hws]] at q
    exact q)
  clear hws
  go_loopw [3, 12] (fun u t W => NHead l w0 u t W) (fun _ t _ => l.length - (intOf t).toNat)
  case atStart => exact ⟨0, _, Nat.zero_le _, rfl, rfl, by simpa [nm] using ST.out, bal (Below.refl _ _) _⟩
  case round =>
    obtain ⟨j, v1, hj, rfl, rfl, ho, hb⟩ := hrel
    obtain ⟨c0, c1, c2, c3, c4, hb2, hs1⟩ := T.out _ hb
    by_cases hlt : j < l.length
    · obtain ⟨g, o, rfl, hg, hc⟩ := (h0.below hb) (fun e => by rw [e] at hlt; simp at hlt)
      have x2 := (hc j hlt).2.2
      have HO := Lib.hid ho
      have HB := Lib.hid hb
      have R := Lib.hid (fun v' W' => nhead_step (v' := v') (W' := W') hlt ho hb)
      have hlen : (nm (l.take j)).length < 8000000000000 := by rw [nm_len, List.length_take]; omega
      clear hc ho hb h0 h T ST
      generalize l[j].ab = s at *
      generalize nm (l.take j) = ls at *
      generalize l.length = n at *
      go_wp2_with (at_builtin; refine lines.app_one rfl _ _ rfl w0.heap.size wr v1 ls s rfl rfl HO.out hlen HB.out.size ?_; intro v' w1 ho' hg')
      go_roundw
      case rel => exact R.out _ _ ho' hg'
      case measure => simp [intOf]; omega
    · obtain rfl : j = l.length := by omega
      rw [List.take_length] at ho
      obtain ⟨A1, c1', rfl, hs, _⟩ := lines.Strs.of_own ho
      have E := Lib.hid (show NTold l w (.returned (.slice A1 (nm l).length c1')) wr from ⟨A1, c1', rfl, hs, hb2⟩)
      clear ho hs hb h0 h T ST
      go_wp2
      go_ret
      exact E.out
end Go.Proofs.Ytllficloadncfaa.blk

/-
  A strings.Builder that the call has made itself, by its bytes: the library's copyCheck, WriteByte and WriteString are walked here; String by the kit's contract. Conditions: as said.
-/
namespace Go.Proofs.Ytllficloadncfaa.bldr
open Go.ChangeShapes Go.WideShapes Go.ChangeAt Go.RowKit
open lx mem
open Go.Lib (byteCells byteCells_length)
set_option linter.unusedVariables false
set_option maxRecDepth 100000

def Own (base : Nat) (W : World) (v : Value) (l : List UInt8) : Prop := W.ownsRow base 5 1 v l.length (byteCells l)
def Bld (B b : Nat) (l : List UInt8) (w : World) : Prop := Lib.IsBuilder 78 5 B b (byteCells l) w
def BldAt (B b : Nat) (l : List UInt8) (w : World) : Prop := Lib.BuilderAt 78 5 B b (.pointer (some ⟨b, 0, none⟩)) (byteCells l) w
theorem cells_app (l m : List UInt8) : byteCells l ++ byteCells m = byteCells (l ++ m) := by simp [byteCells]
theorem cells_one (l : List UInt8) : ∀ u ∈ byteCells l, u.oneCell' = true := by
  intro u hu
  obtain ⟨x, _, rfl⟩ := List.mem_map.1 hu
  rfl
theorem own_lt {base : Nat} {W : World} {v : Value} {l : List UInt8} (h : Own base W v l) (k : Nat) (hk : v.ownBlock = some k) : base ≤ k := by
  rcases h.2 with ⟨rfl, _⟩ | ⟨g, cap, cur, rfl, hb, _⟩
  · cases hk
  · cases hk
    exact hb
theorem own_below {base : Nat} {w W W' : World} {v : Value} {l : List UInt8} (ho : Own base W v l) (hb : Below base w W) (hbs : base ≤ W.heap.size) (hg : W.grownBy W' v.ownBlock) : Below base w W' := hb.grown hg hbs (fun k hk => own_lt ho k hk)
theorem row_keep {B0 : Nat} {e : TypeId} {k : Nat} {v : Value} {n : Nat} {xs : List Value} {W W' : World} (h : W.ownsRow B0 e k v n xs) (hb : Below W.heap.size W W') : W'.ownsRow B0 e k v n xs := by
  refine ⟨h.1, ?_⟩
  rcases h.2 with h | ⟨g, cap, c, hv, hb0, hh, r⟩
  · exact .inl h
  · exact .inr ⟨g, cap, c, hv, hb0, kept hh hb, r⟩
theorem app_byte {ops : Array Oper} {rest : List Oper} {o : Oper} {a : Act} {Q : Exit → Act → World → Prop} (hgd : o.guard = none) (s x : Operand)
    (ho : o.op = .call { callee := .builtin .append, args := #[s, x], argTypes := #[29, 29] }) (base : Nat) (W : World) (v : Value) (l : List UInt8) (c : UInt8) (z : Int) (hz : z = (c.toNat : Nat))
    (hs : a.eval s = v) (hx : a.eval x = .slice (some ⟨W.heap.size, 0, none⟩) 1 1) (hown : Own base W v l) (hn : l.length < 8000000000000) (hbase : base ≤ W.heap.size)
    (h : ∀ g cap w', Own base w' (.slice (some ⟨g, 0, none⟩) (l ++ [c]).length cap) (l ++ [c]) → W.grownBy w' v.ownBlock → wpList Try.prog ops Q rest (a.put o.dst (.slice (some ⟨g, 0, none⟩) (l ++ [c]).length cap)) w') :
    wpList Try.prog ops Q (o :: rest) a (W.alloc (.cells #[.int .u8 z] 5)) := by
  subst hz
  obtain ⟨i0, hi, hz0, hz1, hz2⟩ := info_parts lines.infoB
  refine wpList_append_own _ hgd s x 29 ho base 5 i0 _ 1 1 Try.underlying29 hi hz0 hz1 hz2 rfl (by decide) v l.length (byteCells l) hs (row_keep hown (bal (Below.refl _ _) _)) ⟨W.heap.size, 0, none⟩ 1 1 (byteCells [c]) hx rfl (cell_one_new _ _ _) (cells_one [c]) ?_ (by omega) (by simp; omega) ?_
  · unfold maxLen; omega
  · intro v' w' h1 h2 _
    have h1' : Own base w' v' (l ++ [c]) := by
      unfold Own
      rw [← cells_app, List.length_append]
      exact h1
    obtain ⟨g, cap, rfl⟩ : ∃ g cap, v' = .slice (some ⟨g, 0, none⟩) (l ++ [c]).length cap := by
      rcases h1'.2 with ⟨_, k⟩ | ⟨g, cap, cur, k, _⟩
      · simp at k
      · exact ⟨g, cap, k⟩
    exact h g cap w' h1' ((World.grownBy_alloc W _ _).trans h2)
theorem app_str {ops : Array Oper} {rest : List Oper} {o : Oper} {a : Act} {Q : Exit → Act → World → Prop} (hgd : o.guard = none) (sl x : Operand)
    (ho : o.op = .call { callee := .builtin .append, args := #[sl, x], argTypes := #[29, 9] }) (base : Nat) (W : World) (v : Value) (l : List UInt8) (s : ByteArray)
    (hs : a.eval sl = v) (hx : a.eval x = .string s) (hown : Own base W v l) (hn : l.length + s.size < 8000000000000) (hbase : base ≤ W.heap.size)
    (h : ∀ A cap w', Own base w' (.slice A (l ++ L s).length cap) (l ++ L s) → W.grownBy w' v.ownBlock → wpList Try.prog ops Q rest (a.put o.dst (.slice A (l ++ L s).length cap)) w') :
    wpList Try.prog ops Q (o :: rest) a W := by
  obtain ⟨i0, hi, hz0, hz1, hz2⟩ := info_parts lines.infoB
  refine Lib.wpList_append_own_string _ hgd sl x 29 9 ho base 5 i0 Try.underlying29 Try.underlying9 hi hz0 hz1 hz2 v l.length (byteCells l) hs hown s hx (by unfold maxLen; omega) (by omega) hbase ?_
  intro v' w' h1 h2 _
  have h1' : Own base w' v' (l ++ L s) := by
    unfold Own
    rw [← cells_app, List.length_append, L_len]
    exact h1
  obtain ⟨A, cap, rfl⟩ : ∃ A cap, v' = .slice A (l ++ L s).length cap := by
    rcases h1'.2 with ⟨k, z⟩ | ⟨g, cap, cur, k, _⟩
    · exact ⟨none, 0, by rw [z]; exact k⟩
    · exact ⟨_, cap, k⟩
  exact h A cap w' h1' h2
theorem szBuilder : (Try.prog.info? 78).map (·.size) = some 2 := by kernel_rfl
set_option maxHeartbeats 1000000 in
theorem check_used (b : Nat) (w : World) (h0 : w.cell? ⟨b, 0, none⟩ = some (.pointer (some ⟨b, 0, none⟩))) :
    Calls Try.prog 54 #[.pointer (some ⟨b, 0, none⟩)] w fun e w' => e = .returned (.tuple #[]) ∧ w = w' := by
  obtain ⟨j, hj, _⟩ := Option.map_eq_some_iff.1 szBuilder
  go_enter Try.func54, Try.ntmps54
  go_wp2
  rw [Lib.run_neq_ptr_same w _ Try.underlying76 hj]
  go_wp2
  go_end0
  exact ⟨rfl, rfl⟩
set_option maxHeartbeats 1000000 in
theorem check_fresh (b : Nat) (w : World) (h0 : w.cell? ⟨b, 0, none⟩ = some (.pointer none)) (hsh : w.shape? b = some (78, 2)) (hfz : w.frozen? ⟨b, 0, none⟩ = false) :
    Calls Try.prog 54 #[.pointer (some ⟨b, 0, none⟩)] w fun e w' => e = .returned (.tuple #[]) ∧ w' = w.setCell ⟨b, 0, none⟩ (.pointer (some ⟨b, 0, none⟩)) := by
  obtain ⟨j, hj, hjs⟩ := Option.map_eq_some_iff.1 szBuilder
  go_enter Try.func54, Try.ntmps54
  go_wp2
  rw [Lib.run_to_unsafe w ⟨b, 0, none⟩ Try.underlying76 Try.underlying108 hj (by rw [hjs]; decide) hsh (Nat.zero_lt_succ 1)]
  simp only [Result.andThen]
  rw [Oper.upon_value]
  go_wp2
  rw [run_callFunc_extern Try.func61 (by kernel_rfl) (by kernel_rfl) (by kernel_rfl) (e := Extern.AbiNoEscape.same) (by kernel_rfl), Lib.run_noEscape]
  simp only [Result.andThen]
  rw [Oper.upon_value]
  go_wp2
  rw [Lib.run_from_unsafe w ⟨b, 0, none⟩ Try.underlying108 Try.underlying76 hj hsh (by kernel_rfl)]
  simp only [Result.andThen]
  rw [Oper.upon_value]
  go_wp2
  go_end0
  exact ⟨rfl, rfl⟩
theorem check_any (B b : Nat) (l : List UInt8) (w : World) (h : Bld B b l w) :
    Calls Try.prog 54 #[.pointer (some ⟨b, 0, none⟩)] w fun e w' => e = .returned (.tuple #[]) ∧ BldAt B b l w' ∧ Below B w w' := by
  rcases h with h | h
  · exact (check_fresh b w h.cell0 h.shape h.frozen0).mono fun e w' ⟨he, hw⟩ => ⟨he, by rw [hw]; exact h.used _, by rw [hw]; exact (Below.refl B w).setCell (p := ⟨b, 0, none⟩) h.1 _⟩
  · exact (check_used b w h.cell0).mono fun e w' ⟨he, hw⟩ => ⟨he, by rw [← hw]; exact h, by rw [← hw]; exact Below.refl _ _⟩
theorem wrote {b : Nat} {w1 w2 : World} {v : Value} (hbk : w1.heap[b]? = some (.cells #[.pointer (some ⟨b, 0, none⟩), v] 78 (0, 0))) (hne : v.ownBlock ≠ some b) (hg : w1.grownBy w2 v.ownBlock) :
    Hid (w2.heap[b]? = some (.cells #[.pointer (some ⟨b, 0, none⟩), v] 78 (0, 0))) ∧ w2.cell? ⟨b, 0, none⟩ = some (.pointer (some ⟨b, 0, none⟩)) ∧ w2.cell? ⟨b, 1, none⟩ = some v ∧ w2.frozen? ⟨b, 1, none⟩ = false := by
  have h2 : w2.heap[b]? = some (.cells #[.pointer (some ⟨b, 0, none⟩), v] 78 (0, 0)) := by
    rw [hg.block b (Array.getElem?_eq_some_iff.1 hbk).1 (fun e => hne e.symm)]; exact hbk
  exact ⟨h2, row_cell h2 0, row_cell h2 1, frozen_of_row _ _ _ _ _ h2⟩
theorem opened {B b : Nat} {l : List UInt8} {w1 : World} (h1 : BldAt B b l w1) : B ≤ b ∧ ∃ v, w1.cell? ⟨b, 0, none⟩ = some (.pointer (some ⟨b, 0, none⟩)) ∧ w1.cell? ⟨b, 1, none⟩ = some v ∧ Hid (Own B w1 v l) ∧ Hid (w1.heap[b]? = some (.cells #[.pointer (some ⟨b, 0, none⟩), v] 78 (0, 0))) ∧ Hid (v.ownBlock ≠ some b) := by
  obtain ⟨hBb, v, hbk, hown, hne⟩ := h1
  rw [byteCells_length] at hown
  exact ⟨hBb, v, row_cell hbk 0, row_cell hbk 1, hown, hbk, hne⟩
theorem put_at {B b : Nat} {w2 : World} {v v' : Value} {l : List UInt8} (hB : B ≤ b) (hbk : w2.heap[b]? = some (.cells #[.pointer (some ⟨b, 0, none⟩), v] 78 (0, 0))) (ho : Own B w2 v' l) : BldAt B b l (w2.setCell ⟨b, 1, none⟩ v') :=
  Lib.BuilderAt.put hB hbk (by rw [byteCells_length]; exact ho) (by decide)
set_option maxHeartbeats 1000000 in
theorem string_any (B b : Nat) (l : List UInt8) (s : ByteArray) (w : World) (h : Bld B b l w) (hl : l.length < 10000000) (hs : s.size < 10000000) (hB : B ≤ w.heap.size) :
    Calls Try.prog 40 #[.pointer (some ⟨b, 0, none⟩), .string s] w fun e w' => e = .returned (.tuple #[.int .i64 (s.size : Nat), .nilIface]) ∧ BldAt B b (l ++ L s) w' ∧ Below B w w' := by
  have C := Lib.hid (check_any B b l w h)
  clear h
  go_enter Try.func40, Try.ntmps40
  go_wp2_with (first
    | (go_at_call 54; (with_reducible refine C.out.mono ?_); rintro e w1 ⟨rfl, h1, hb1⟩; obtain ⟨hBb, v, c0, c1, HO, HK, HN⟩ := opened h1; have hs1 := hb1.size)
    | (at_builtin; refine app_str rfl _ _ rfl B w1 v l s rfl rfl HO.out (by omega) (by omega) ?_; intro A2 cap2 w2 ho2 hg2; obtain ⟨K2, d0, d1, f1⟩ := wrote HK.out HN.out hg2))
  go_ret2
  exact ⟨rfl, put_at hBb K2.out (by simpa using ho2), (own_below HO.out hb1 (by omega) hg2).setCell (p := ⟨b, 1, none⟩) hBb _⟩
theorem bat_below {T e : TypeId} {B b : Nat} {p : Value} {l : List Value} {W W' : World} (h : Lib.BuilderAt T e B b p l W) (hb : Below W.heap.size W W') : Lib.BuilderAt T e B b p l W' := by
  obtain ⟨hB, v, hbk, hown, hne⟩ := h
  exact ⟨hB, v, kept hbk hb, row_keep hown hb, hne⟩

/-! one that was made at block g, as the call had come to the world Wa -/
def WB (g : Nat) (Wa : World) (l : List UInt8) (W : World) : Prop := Bld g g l W ∧ Below g Wa W ∧ g ≤ W.heap.size
theorem wb_call {g : Nat} {Wa W W' : World} {l : List UInt8} (h : WB g Wa l W) (hb : Below W.heap.size W W') : WB g Wa l W' :=
  ⟨h.1.elim (fun k => .inl (bat_below k hb)) (fun k => .inr (bat_below k hb)), h.2.1.trans (hb.mono h.2.2), Nat.le_trans h.2.2 hb.size⟩
theorem wb_str {g : Nat} {Wa W : World} {l : List UInt8} (h : WB g Wa l W) (x : List UInt8) (hl : l.length ≤ 1000000) (hx : x.length ≤ 1000000) :
    Calls Try.prog 40 #[.pointer (some ⟨g, 0, none⟩), .string (B x)] W fun e w' => (∃ n : Nat, e = .returned (.tuple #[.int .i64 n, .nilIface])) ∧ WB g Wa (l ++ x) w' := by
  refine (string_any g g l (B x) W h.1 (by omega) (by rw [B_size]; omega) h.2.2).mono ?_
  rintro e w' ⟨rfl, h1, h2⟩
  rw [L_B] at h1
  exact ⟨⟨_, rfl⟩, .inr h1, h.2.1.trans h2, Nat.le_trans h.2.2 h2.size⟩
theorem wb_text {g : Nat} {Wa W : World} {l : List UInt8} (h : WB g Wa l W) : Calls Try.prog 41 #[.pointer (some ⟨g, 0, none⟩)] W fun e w' => e = .returned (.string (B l)) ∧ Below g Wa w' := by
  refine (Try.Builder_String_any g g l W h.1 h.2.2).mono ?_
  rintro e w' ⟨rfl, h2⟩
  exact ⟨rfl, h.2.1.trans h2⟩
theorem wb_new (w : World) : WB w.heap.size w [] (w.alloc (.cells #[.pointer none, .slice none 0 0] 78)) :=
  ⟨Lib.fresh_isBuilder 78 5 w, (Below.refl _ _).alloc (by simp) _, by simp⟩
end Go.Proofs.Ytllficloadncfaa.bldr
