/-
  What the contracts of layer 5 ask of the memory and leave of it: the library's variable MaxLen holds some number, a slice reads as a row of texts. Conditions: as said.
-/
import Derived.Test.YtkdmecpelfcbmaaLinesMath
import Derived.Test.YtkdmecpelfcbmaaShelf
import Derived.Test.YtkdmecpelfcbmaaRows
import Derived.WalkKit
import Derived.ProofKit
import Derived.OpenShut
import Derived.IntWalk
import Derived.Maps.AppendAt
import Derived.Laws.OwnMore
import Derived.Deep.Draws
import Derived.Lib.Hide
namespace Go.Proofs.Ytkdmecpelfcbmaa.lines
open Go.ChangeShapes Go.WideShapes Go.ChangeAt Go.RowKit
open lx
set_option linter.unusedVariables false
set_option maxRecDepth 100000

/-- the library's variable holds some number. -/
def ML (w : World) : Prop := ∃ m, w.cell? ⟨0, 0, none⟩ = some (.int .i64 m)
theorem ML.below {w W : World} (h : ML w) (hb : Below w.heap.size w W) : ML W := by
  obtain ⟨m, hm⟩ := h
  exact ⟨m, (hb.cell (World.block_lt_of_cell? w _ hm)).trans hm⟩
theorem ml_of {w : World} (h : w.ShapedOpen Try.prog) : ML w := Try.laysM145.s1_3 w h

/-- a slice that reads as a row of texts. -/
def Strs (w : World) (A : Option Addr) (l : List ByteArray) : Prop :=
  l ≠ [] → ∃ b o, A = some ⟨b, o, none⟩ ∧ b < w.heap.size ∧ ∀ k (h : k < l.length), w.cell? ⟨b, o + k, none⟩ = some (.string l[k])
theorem Strs.below {w W : World} {A : Option Addr} {l : List ByteArray} (h : Strs w A l) (hb : Below w.heap.size w W) : Strs W A l := by
  intro hl
  obtain ⟨b, o, e, hlt, hc⟩ := h hl
  exact ⟨b, o, e, Nat.lt_of_lt_of_le hlt hb.size, fun k hk => (hb.cell (p := ⟨b, o + k, none⟩) hlt).trans (hc k hk)⟩
theorem Strs.of_own {w : World} {base : Nat} {e : TypeId} {v : Value} {l : List ByteArray} (h : w.ownsRow base e 1 v l.length (l.map Value.string)) :
    ∃ A c, v = .slice A l.length c ∧ Strs w A l ∧ l.length ≤ c := by
  have h0 := h
  rcases h.2 with ⟨rfl, hn⟩ | ⟨g, cap, cur, rfl, hb, hh, hnc, _⟩
  · rw [hn]
    refine ⟨none, 0, rfl, fun hl => absurd (List.eq_nil_of_length_eq_zero hn) hl, Nat.le_refl _⟩
  · refine ⟨_, _, rfl, fun hl => ⟨g, 0, rfl, ?_, fun k hk => ?_⟩, hnc⟩
    · rcases Nat.lt_or_ge g w.heap.size with k | k
      · exact k
      · rw [Array.getElem?_eq_none k] at hh
        cases hh
    · rw [Nat.zero_add, h0.cellAt k (by omega), List.getElem?_map, List.getElem?_eq_getElem hk]
      rfl
theorem strs_oneCell (l : List ByteArray) : ∀ u ∈ l.map Value.string, u.oneCell' = true := by
  intro u hu
  obtain ⟨x, _, rfl⟩ := List.mem_map.1 hu
  rfl
theorem infoS : (Try.prog.info? 9).map (fun i => (i.zero, i.size, i.bytes)) = some (some (.string ByteArray.empty), 1, 16) := by kernel_rfl
theorem infoB : (Try.prog.info? 5).map (fun i => (i.zero, i.size, i.bytes)) = some (some (.int .u8 0), 1, 1) := by kernel_rfl
theorem below_drewN {B : Nat} {a w : World} (h : Below B a w) (n : Nat) : Below B a (w.drewN n) := ⟨h.os, h.tape, h.output, h.size, h.block⟩

/-- 'all = append(all, y)', all a row of the call's own. -/
theorem app_one {ops : Array Oper} {rest : List Oper} {o : Oper} {a : Act} {Q : Exit → Act → World → Prop} (hgd : o.guard = none) (s x : Operand)
    (ho : o.op = .call { callee := .builtin .append, args := #[s, x], argTypes := #[54, 54] }) (base : Nat) (W : World) (v : Value) (ls : List ByteArray) (y : ByteArray)
    (hs : a.eval s = v) (hx : a.eval x = .slice (some ⟨W.heap.size, 0, none⟩) 1 1) (hown : W.ownsRow base 9 1 v ls.length (ls.map Value.string)) (hn : ls.length < 8000000000000) (hbase : base ≤ W.heap.size)
    (h : ∀ v' w', w'.ownsRow base 9 1 v' (ls ++ [y]).length ((ls ++ [y]).map Value.string) → W.grownBy w' v.ownBlock → wpList Try.prog ops Q rest (a.put o.dst v') w') :
    wpList Try.prog ops Q (o :: rest) a (W.alloc (.cells #[.string y] 9)) := by
  obtain ⟨i0, hi, hz0, hz1, hz2⟩ := info_parts infoS
  refine wpList_append_own _ hgd s x 54 ho base 9 i0 _ 1 16 Try.underlying54 hi hz0 hz1 hz2 rfl (by decide) v ls.length (ls.map Value.string) hs (hown.alloc _) ⟨W.heap.size, 0, none⟩ 1 1 [.string y] hx rfl (cell_one_new _ _ _) (strs_oneCell [y]) ?_ (by omega) (by simp; omega) ?_
  · unfold maxLen; omega
  · intro v' w' h1 h2 _
    refine h v' w' ?_ ((World.grownBy_alloc W _ _).trans h2)
    simpa using h1

/-! pieces of a text -/
theorem sl_run (W : World) (s : ByteArray) (a b : Nat) (z : Int) (hz : z = b) (h1 : a ≤ b) (h2 : b ≤ s.size) : (Instr.slice 9 (.string s) (some (.int .i64 a)) (some (.int .i64 z)) none).run Try.prog W = .ok (.string (s.extract a b)) W := by
  subst hz
  rw [run_slice_string W 9 s .i64 .i64 a b Try.underlying9 (by omega) (by omega) (by omega)]
  rfl
theorem sl_from (W : World) (s : ByteArray) (a : Nat) (z : Int) (hz : z = a) (h2 : a ≤ s.size) : (Instr.slice 9 (.string s) (some (.int .i64 z)) none none).run Try.prog W = .ok (.string (s.extract a s.size)) W := by
  subst hz
  rw [run_slice_string_l (P := Try.prog) W 9 s Try.underlying9 .i64 a (by omega) (by omega)]
  rfl

/-! the library's Cut and TrimSuffix -/
theorem sc_hit {W : World} (T : ML W) (s t : ByteArray) (i : Nat) (hs : s.size < 4294967281) (h : Hit s t i) :
    Calls Try.prog 63 #[.string s, .string t] W fun e w' => e = .returned (.tuple #[.string (s.extract 0 i), .string (s.extract (i + t.size) s.size), .bool true]) ∧ ∃ n, w' = W.drewN n := by
  obtain ⟨m, hm⟩ := T
  obtain ⟨e1, e2, e3⟩ := Lib.cutB_hit s t i (hit_index h)
  refine (Try.strings_Cut s t m W hs hm).mono ?_
  rw [e1, e2, e3]
  rintro e w' ⟨rfl, n, rfl⟩
  exact ⟨rfl, n, rfl⟩
theorem sc_miss {W : World} (T : ML W) (s t : ByteArray) (hs : s.size < 4294967281) (h : Miss s t) (h0 : t.size ≠ 0) :
    Calls Try.prog 63 #[.string s, .string t] W fun e w' => e = .returned (.tuple #[.string s, .string ByteArray.empty, .bool false]) ∧ ∃ n, w' = W.drewN n := by
  obtain ⟨m, hm⟩ := T
  obtain ⟨e1, e2, e3⟩ := Lib.cutB_miss s t (miss_index (by rcases h with h | h; exact absurd h h0; exact h))
  refine (Try.strings_Cut s t m W hs hm).mono ?_
  rw [e1, e2, e3]
  rintro e w' ⟨rfl, n, rfl⟩
  exact ⟨rfl, n, rfl⟩
theorem lf_hit_on {W : World} (T : ML W) (s : ByteArray) (i : Nat) (hs : s.size < 4294967281) (h : Hit s lf i) :
    Calls Try.prog 63 #[.string s, .string ⟨#[10]⟩] W fun e w' => e = .returned (.tuple #[.string (s.extract 0 i), .string (s.extract (i + 1) s.size), .bool true]) ∧ ∃ n, w' = W.drewN n := sc_hit T s lf i hs h
theorem lf_miss_on {W : World} (T : ML W) (s : ByteArray) (hs : s.size < 4294967281) (h : Miss s lf) :
    Calls Try.prog 63 #[.string s, .string ⟨#[10]⟩] W fun e w' => e = .returned (.tuple #[.string s, .string ⟨#[]⟩, .bool false]) ∧ ∃ n, w' = W.drewN n := sc_miss T s lf hs h (by decide)

/-! lines.Cut -/
theorem tl_ne {t : ByteArray} (h : 0 < t.size) : (t.toList == []) = false := by
  rw [ByteArray.toList_eq, beq_eq_false_iff_ne]
  intro k
  have : L t = [] := k
  have := (L_nil t).1 this
  omega
theorem tl_nil {t : ByteArray} (h : t.size = 0) : t = ⟨#[]⟩ := L_inj ((L_nil t).2 h)
end Go.Proofs.Ytkdmecpelfcbmaa.lines
