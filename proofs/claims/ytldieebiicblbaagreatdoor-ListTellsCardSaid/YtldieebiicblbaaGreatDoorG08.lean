/-
  Lists of leap seconds as plain mathematics: what a line is, whether it is right, its numbers, what is hashed; how a list is read, line by line. Nothing of any program. No condition.
-/
import Derived.Test.YtldieebiicblbaaGreatDoorG06
import Derived.Test.YtldieebiicblbaaGreatDoorG07
import Derived.Lib.ItoaNum
import Derived.Test.YtldieebiicblbaaGreatDoorG01
import Derived.Test.YtldieebiicblbaaGreatDoorG05
import Derived.Test.YtldieebiicblbaaGreatDoorRows
import Derived.WalkKit
import Derived.ProofKit
import Derived.OpenShut
import Derived.IntWalk
import Derived.Maps.AppendAt
import Derived.Laws.OwnMore
import Derived.Deep.Draws
import Derived.Lib.Hide
namespace Go.Proofs.YtldieebiicblbaaGreatDoor.ls
open lx nx
open lm (Lp ce Good)
set_option linter.unusedVariables false
set_option maxRecDepth 100000

/-- what stands ahead of the first '#'. -/
def ahd (l : List UInt8) : List UInt8 := l.takeWhile fun c => decide (c ≠ 35)
/-- a line's kind: 0 empty, 1 stamp, 2 expiry, 3 hash, 4 remark, 5 data. -/
def kd (l : List UInt8) : Nat := if wds [] l = [] then 0 else if l.take 2 = [35, 36] then 1 else if l.take 2 = [35, 64] then 2 else if l.take 2 = [35, 104] then 3 else if ((wds [] l).headD []).take 1 = [35] then 4 else 5
theorem kd_le (l : List UInt8) : kd l ≤ 5 := by
  unfold kd
  (repeat' split) <;> omega
/-- what a line's words are read of, and how many there are. -/
def sd (k : Nat) (l : List UInt8) : List UInt8 := if k = 5 then ahd l else l.drop 2
def ws (k : Nat) (l : List UInt8) : List (List UInt8) := wds [] (sd k l)
def cn (k : Nat) : Nat := if k = 5 then 2 else 1
def rk (k : Nat) (l : List UInt8) : Bool := decide ((ws k l).length = cn k) && (ws k l).all nmT
def ok (l : List UInt8) : Bool := if kd l = 0 ∨ kd l = 4 then true else if kd l = 3 then hT (B (l.drop 2)) else rk (kd l) l
def g1 (l : List UInt8) : Int := nmI ((ws (kd l) l).getD 0 [])
def g2 (l : List UInt8) : Int := nmI ((ws (kd l) l).getD 1 [])
/-- what is hashed of a line, if it is of that kind. -/
def hw (k : Nat) (l : List UInt8) : List UInt8 := if kd l = k ∧ rk k l = true then (ws k l).flatten else []
def hs1 (k : Nat) (ls : List (List UInt8)) : List UInt8 := ls.flatMap (hw k)
def hsh (ls : List (List UInt8)) : List UInt8 := hs1 1 ls ++ hs1 2 ls ++ hs1 5 ls
def hq (ls : List (List UInt8)) (k : Nat) : Nat := sx.word (sx.dig (sx.sumV (sha.nats (hsh ls)))) k

/-- how far a list is read. -/
structure S where
  p : Nat → Nat
  lv : List Lp
  ct : Int
  ex : Int
  h : Nat → Nat
def S0 : S := ⟨fun _ => 0, [], 0, 0, fun _ => 0⟩
def put (p : Nat → Nat) (k a : Nat) : Nat → Nat := fun i => if i = k ∧ p k = 0 then a else p i
def lp (n t : Int) : Lp := ((n - 2208988800) / 86400 - 1, t, false)
/-- what is wrong of a later line of data. -/
noncomputable def lE (n t : Int) (lv : List Lp) : Int := if (n - 2208988800) % 86400 ≠ 0 then 5 else if t ≠ 1 ∧ t ≠ -1 then 6 else ce (lv ++ [lp n t]) false 0
noncomputable def dE (l : List UInt8) (s : S) : Int := if ok l = false then 2 else if s.p 5 ≠ 0 then lE (g1 l) (g2 l - s.ct) s.lv else if g1 l ≠ 2272060800 ∨ g2 l ≠ 10 then 9 else 0
noncomputable def stE (l : List UInt8) (s : S) : Int := if kd l = 0 ∨ kd l = 4 then 0 else if kd l = 5 then dE l s else if s.p (kd l) = 0 ∧ ok l = true then 0 else 2
def stS (l : List UInt8) (a : Nat) (s : S) : S :=
  { p := if kd l = 0 ∨ kd l = 4 then s.p else put s.p (kd l) a,
    lv := if kd l = 5 ∧ s.p 5 ≠ 0 then s.lv ++ [lp (g1 l) (g2 l - s.ct)] else s.lv,
    ct := if kd l = 5 then g2 l else s.ct,
    ex := if kd l = 2 then g1 l - 2208988800 else s.ex,
    h := if kd l = 3 then hN (B (l.drop 2)) else s.h }
noncomputable def run : List (List UInt8) → Nat → S → (Nat × Int) × S
  | [], _, s => ((0, 0), s)
  | l :: r, k, s => if stE l s = 0 then run r (k + 1) (stS l (k + 1) s) else ((k + 1, stE l s), s)
theorem run_nil (k : Nat) (s : S) : run [] k s = ((0, 0), s) := rfl
theorem run_go {l : List UInt8} {s : S} (h : stE l s = 0) (r : List (List UInt8)) (k : Nat) : run (l :: r) k s = run r (k + 1) (stS l (k + 1) s) := by rw [run, if_pos h]
theorem run_no {l : List UInt8} {s : S} (h : stE l s ≠ 0) (r : List (List UInt8)) (k : Nat) : run (l :: r) k s = ((k + 1, stE l s), s) := by rw [run, if_neg h]
theorem run_app : ∀ (a b : List (List UInt8)) (k : Nat) (s : S), run (a ++ b) k s = if (run a k s).1.2 = 0 then run b (k + a.length) (run a k s).2 else run a k s
  | [], b, k, s => by simp [run_nil]
  | l :: a, b, k, s => by
    by_cases h : stE l s = 0
    · rw [List.cons_append, run_go h, run_go h, run_app a b, List.length_cons, show k + 1 + a.length = k + (a.length + 1) by omega]
    · rw [List.cons_append, run_no h, run_no h, if_neg h]

/-- what is told of a list. -/
structure Out where
  line : Nat
  code : Int
  lv : List Lp
  has : Bool
  x : Int
def bad (n : Nat) (c : Int) : Out := ⟨n, c, [], false, 0⟩
def h5 (f g : Nat → Nat) : Bool := f 0 == g 0 && (f 1 == g 1 && (f 2 == g 2 && (f 3 == g 3 && f 4 == g 4)))
theorem h5_iff {f g : Nat → Nat} : h5 f g = true ↔ ∀ k, k < 5 → f k = g k := by
  unfold h5
  simp only [Bool.and_eq_true, beq_iff_eq]
  constructor
  · rintro ⟨h0, h1, h2, h3, h4⟩ k hk
    rcases (show k = 0 ∨ k = 1 ∨ k = 2 ∨ k = 3 ∨ k = 4 by omega) with rfl | rfl | rfl | rfl | rfl <;> assumption
  · intro h
    exact ⟨h 0 (by decide), h 1 (by decide), h 2 (by decide), h 3 (by decide), h 4 (by decide)⟩
noncomputable def fin (n : Nat) (dg : Nat → Nat) (s : S) : Out :=
  if s.p 5 = 0 then bad (n + 1) 2 else if s.p 2 ≠ 0 ∧ ce s.lv true s.ex ≠ 0 then bad (s.p 2) 9
  else if s.p 3 ≠ 0 ∧ h5 s.h dg = false then bad (s.p 3) 3 else ⟨0, 0, s.lv, decide (s.p 2 ≠ 0), if s.p 2 ≠ 0 then s.ex else 0⟩
noncomputable def parse (ls : List (List UInt8)) : Out := if (run ls 0 S0).1.2 ≠ 0 then bad (run ls 0 S0).1.1 (run ls 0 S0).1.2 else fin ls.length (hq ls) (run ls 0 S0).2

/-! what holds of how far a list is read -/
theorem lE_bd (n t : Int) (lv : List Lp) : 0 ≤ lE n t lv ∧ lE n t lv ≤ 9 ∧ lE n t lv ≠ 1 ∧ (lE n t lv = 2 → False) ∧ lE n t lv ≠ 3 := by
  have hw : ∀ k, lm.wr (lv ++ [lp n t]) k = 8 ∨ lm.wr (lv ++ [lp n t]) k = 9 ∨ lm.wr (lv ++ [lp n t]) k = 5 ∨ lm.wr (lv ++ [lp n t]) k = 6 ∨ lm.wr (lv ++ [lp n t]) k = 4 ∨ lm.wr (lv ++ [lp n t]) k = 0 := by
    intro k
    unfold lm.wr
    (repeat' split) <;> simp
  have hc : 0 ≤ ce (lv ++ [lp n t]) false 0 ∧ ce (lv ++ [lp n t]) false 0 ≤ 9 ∧ ce (lv ++ [lp n t]) false 0 ≠ 1 ∧ (ce (lv ++ [lp n t]) false 0 = 2 → False) ∧ ce (lv ++ [lp n t]) false 0 ≠ 3 := by
    unfold lm.ce
    split
    · have := hw (lm.cp (lv ++ [lp n t]))
      omega
    · simp [lm.xp]
  unfold lE
  split
  · omega
  split
  · omega
  · exact hc
theorem stE_bd (l : List UInt8) (s : S) : stE l s = 0 ∨ (2 ≤ stE l s ∧ stE l s ≤ 9) := by
  have := lE_bd (g1 l) (g2 l - s.ct) s.lv
  unfold stE dE
  (repeat' split) <;> omega
/-- what is so at each place. -/
structure Inv (k : Nat) (s : S) : Prop where
  good : ce s.lv false 0 = 0
  utc : ∀ z ∈ s.lv, z.2.2 = false
  place : ∀ i, s.p i ≤ k
theorem inv_zero : Inv 0 S0 := ⟨by unfold lm.ce S0; simp [lm.xp], fun z hz => by simp [S0] at hz, fun i => Nat.le_refl _⟩
theorem inv_step {l : List UInt8} {k : Nat} {s : S} (h : Inv k s) (e : stE l s = 0) : Inv (k + 1) (stS l (k + 1) s) := by
  refine ⟨?_, ?_, fun i => ?_⟩
  · unfold stS
    simp only
    split
    · rename_i g
      unfold stE dE lE at e
      rw [if_neg (by omega), if_pos g.1] at e
      split at e
      · omega
      rw [if_pos g.2] at e
      split at e
      · omega
      split at e
      · omega
      · exact e
    · exact h.good
  · unfold stS
    simp only
    split
    · intro z hz
      rw [List.mem_append] at hz
      rcases hz with hz | hz
      · exact h.utc z hz
      · rw [List.mem_singleton] at hz
        subst hz
        rfl
    · exact h.utc
  · unfold stS put
    have := h.place i
    simp only
    split
    · omega
    · show (if i = kd l ∧ s.p (kd l) = 0 then k + 1 else s.p i) ≤ k + 1
      by_cases g : i = kd l ∧ s.p (kd l) = 0
      · rw [if_pos g]
        exact Nat.le_refl _
      · rw [if_neg g]
        omega
theorem run_inv : ∀ (ls : List (List UInt8)) (k : Nat) (s : S), Inv k s → Inv (k + ls.length) (run ls k s).2 ∧ ((run ls k s).1.2 ≠ 0 → k < (run ls k s).1.1 ∧ (run ls k s).1.1 ≤ k + ls.length ∧ 2 ≤ (run ls k s).1.2 ∧ (run ls k s).1.2 ≤ 9)
  | [], k, s, h => ⟨h, fun g => absurd rfl g⟩
  | l :: r, k, s, h => by
    by_cases e : stE l s = 0
    · rw [run_go e]
      obtain ⟨a, b⟩ := run_inv r (k + 1) _ (inv_step h e)
      rw [List.length_cons]
      refine ⟨by rw [show k + (r.length + 1) = k + 1 + r.length by omega]; exact a, fun g => ?_⟩
      have := b g
      omega
    · rw [run_no e]
      refine ⟨⟨h.good, h.utc, fun i => by have := h.place i; rw [List.length_cons]; simp only; omega⟩, fun _ => ?_⟩
      have := stE_bd l s
      rw [List.length_cons]
      simp only
      omega
theorem parse_right (ls : List (List UInt8)) : ((parse ls).code = 0 ∧ (parse ls).line = 0 ∧ (∀ z ∈ (parse ls).lv, z.2.2 = false) ∧ ce (parse ls).lv (parse ls).has (parse ls).x = 0) ∨
    (2 ≤ (parse ls).code ∧ (parse ls).code ≤ 9 ∧ 1 ≤ (parse ls).line ∧ (parse ls).line ≤ ls.length + 1 ∧ (parse ls).lv = [] ∧ (parse ls).has = false ∧ (parse ls).x = 0) := by
  obtain ⟨a, b⟩ := run_inv ls 0 S0 inv_zero
  rw [Nat.zero_add] at a b
  unfold parse
  by_cases h : (run ls 0 S0).1.2 ≠ 0
  · rw [if_pos h]
    have := b h
    refine .inr ⟨?_, ?_, ?_, ?_, rfl, rfl, rfl⟩ <;> (unfold bad; simp only; omega)
  · rw [if_neg h]
    unfold fin
    split
    · refine .inr ⟨?_, ?_, ?_, ?_, rfl, rfl, rfl⟩ <;> (unfold bad; simp only; omega)
    split
    · have := a.place 2
      refine .inr ⟨?_, ?_, ?_, ?_, rfl, rfl, rfl⟩ <;> (unfold bad; simp only; omega)
    split
    · have := a.place 3
      refine .inr ⟨?_, ?_, ?_, ?_, rfl, rfl, rfl⟩ <;> (unfold bad; simp only; omega)
    · rename_i g1 g2 g3
      refine .inl ⟨rfl, rfl, a.utc, ?_⟩
      show ce (run ls 0 S0).2.lv (decide ((run ls 0 S0).2.p 2 ≠ 0)) (if (run ls 0 S0).2.p 2 ≠ 0 then (run ls 0 S0).2.ex else 0) = 0
      by_cases g : (run ls 0 S0).2.p 2 ≠ 0
      · rw [if_pos g, decide_eq_true g]
        exact Classical.not_not.1 fun k => g2 ⟨g, k⟩
      · rw [if_neg g, decide_eq_false g]
        exact a.good
end Go.Proofs.YtldieebiicblbaaGreatDoor.ls

/-
  What the contracts of layer 5 ask of the memory and leave of it: the library's variable MaxLen holds some number, a slice reads as a row of texts. Conditions: as said.
-/
namespace Go.Proofs.YtldieebiicblbaaGreatDoor.lines
open Go.ChangeShapes Go.WideShapes Go.ChangeAt Go.RowKit
open lx
set_option linter.unusedVariables false
set_option maxRecDepth 100000

/-- the library's variable holds some number. -/
def ML (w : World) : Prop := ∃ m, w.cell? ⟨1, 0, none⟩ = some (.int .i64 m)
theorem ML.below {w W : World} (h : ML w) (hb : Below w.heap.size w W) : ML W := by
  obtain ⟨m, hm⟩ := h
  exact ⟨m, (hb.cell (World.block_lt_of_cell? w _ hm)).trans hm⟩
theorem ml_of {w : World} (h : w.ShapedOpen Tryz.prog) : ML w := Tryz.laysM145.s1_3 w h

/-- a slice that reads as a row of texts. -/
def Strs (w : World) (A : Option Addr) (l : List ByteArray) : Prop :=
  l ≠ [] → ∃ b o, A = some ⟨b, o, none⟩ ∧ b < w.heap.size ∧ ∀ k (h : k < l.length), w.cell? ⟨b, o + k, none⟩ = some (.string l[k])
theorem Strs.below {w W : World} {A : Option Addr} {l : List ByteArray} (h : Strs w A l) (hb : Below w.heap.size w W) : Strs W A l := by
  intro hl
  obtain ⟨b, o, e, hlt, hc⟩ := h hl
  exact ⟨b, o, e, Nat.lt_of_lt_of_le hlt hb.size, fun k hk => (hb.cell (p := ⟨b, o + k, none⟩) hlt).trans (hc k hk)⟩
theorem Strs.of_own {w : World} {base : Nat} {e : TypeId} {v : Value} {l : List ByteArray} (h : w.ownsRow base e 1 v l.length (l.map Value.string)) :
    ∃ A c, v = .slice A l.length c ∧ Strs w A l ∧ l.length ≤ c := by
  have h0 := h
  rcases h.2 with ⟨rfl, hn⟩ | ⟨g, cap, cur, rfl, hb, hh, hnc, _⟩
  · rw [hn]
    refine ⟨none, 0, rfl, fun hl => absurd (List.eq_nil_of_length_eq_zero hn) hl, Nat.le_refl _⟩
  · refine ⟨_, _, rfl, fun hl => ⟨g, 0, rfl, ?_, fun k hk => ?_⟩, hnc⟩
    · rcases Nat.lt_or_ge g w.heap.size with k | k
      · exact k
      · rw [Array.getElem?_eq_none k] at hh
        cases hh
    · rw [Nat.zero_add, h0.cellAt k (by omega), List.getElem?_map, List.getElem?_eq_getElem hk]
      rfl
theorem strs_oneCell (l : List ByteArray) : ∀ u ∈ l.map Value.string, u.oneCell' = true := by
  intro u hu
  obtain ⟨x, _, rfl⟩ := List.mem_map.1 hu
  rfl
theorem infoS : (Tryz.prog.info? 9).map (fun i => (i.zero, i.size, i.bytes)) = some (some (.string ByteArray.empty), 1, 16) := by kernel_rfl
theorem infoB : (Tryz.prog.info? 5).map (fun i => (i.zero, i.size, i.bytes)) = some (some (.int .u8 0), 1, 1) := by kernel_rfl
theorem below_drewN {B : Nat} {a w : World} (h : Below B a w) (n : Nat) : Below B a (w.drewN n) := ⟨h.os, h.tape, h.output, h.size, h.block⟩

/-- 'all = append(all, y)', all a row of the call's own. -/
theorem app_one {ops : Array Oper} {rest : List Oper} {o : Oper} {a : Act} {Q : Exit → Act → World → Prop} (hgd : o.guard = none) (s x : Operand)
    (ho : o.op = .call { callee := .builtin .append, args := #[s, x], argTypes := #[46, 46] }) (base : Nat) (W : World) (v : Value) (ls : List ByteArray) (y : ByteArray)
    (hs : a.eval s = v) (hx : a.eval x = .slice (some ⟨W.heap.size, 0, none⟩) 1 1) (hown : W.ownsRow base 9 1 v ls.length (ls.map Value.string)) (hn : ls.length < 8000000000000) (hbase : base ≤ W.heap.size)
    (h : ∀ v' w', w'.ownsRow base 9 1 v' (ls ++ [y]).length ((ls ++ [y]).map Value.string) → W.grownBy w' v.ownBlock → wpList Tryz.prog ops Q rest (a.put o.dst v') w') :
    wpList Tryz.prog ops Q (o :: rest) a (W.alloc (.cells #[.string y] 9)) := by
  obtain ⟨i0, hi, hz0, hz1, hz2⟩ := info_parts infoS
  refine wpList_append_own _ hgd s x 46 ho base 9 i0 _ 1 16 Tryz.underlying46 hi hz0 hz1 hz2 rfl (by decide) v ls.length (ls.map Value.string) hs (hown.alloc _) ⟨W.heap.size, 0, none⟩ 1 1 [.string y] hx rfl (cell_one_new _ _ _) (strs_oneCell [y]) ?_ (by omega) (by simp; omega) ?_
  · unfold maxLen; omega
  · intro v' w' h1 h2 _
    refine h v' w' ?_ ((World.grownBy_alloc W _ _).trans h2)
    simpa using h1

/-! pieces of a text -/
theorem sl_run (W : World) (s : ByteArray) (a b : Nat) (z : Int) (hz : z = b) (h1 : a ≤ b) (h2 : b ≤ s.size) : (Instr.slice 9 (.string s) (some (.int .i64 a)) (some (.int .i64 z)) none).run Tryz.prog W = .ok (.string (s.extract a b)) W := by
  subst hz
  rw [run_slice_string W 9 s .i64 .i64 a b Tryz.underlying9 (by omega) (by omega) (by omega)]
  rfl
theorem sl_from (W : World) (s : ByteArray) (a : Nat) (z : Int) (hz : z = a) (h2 : a ≤ s.size) : (Instr.slice 9 (.string s) (some (.int .i64 z)) none none).run Tryz.prog W = .ok (.string (s.extract a s.size)) W := by
  subst hz
  rw [run_slice_string_l (P := Tryz.prog) W 9 s Tryz.underlying9 .i64 a (by omega) (by omega)]
  rfl

/-! the library's Cut and TrimSuffix -/
theorem sc_hit {W : World} (T : ML W) (s t : ByteArray) (i : Nat) (hs : s.size < 4294967281) (h : Hit s t i) :
    Calls Tryz.prog 39 #[.string s, .string t] W fun e w' => e = .returned (.tuple #[.string (s.extract 0 i), .string (s.extract (i + t.size) s.size), .bool true]) ∧ ∃ n, w' = W.drewN n := by
  obtain ⟨m, hm⟩ := T
  obtain ⟨e1, e2, e3⟩ := Lib.cutB_hit s t i (hit_index h)
  refine (Tryz.strings_Cut s t m W hs hm).mono ?_
  rw [e1, e2, e3]
  rintro e w' ⟨rfl, n, rfl⟩
  exact ⟨rfl, n, rfl⟩
theorem sc_miss {W : World} (T : ML W) (s t : ByteArray) (hs : s.size < 4294967281) (h : Miss s t) (h0 : t.size ≠ 0) :
    Calls Tryz.prog 39 #[.string s, .string t] W fun e w' => e = .returned (.tuple #[.string s, .string ByteArray.empty, .bool false]) ∧ ∃ n, w' = W.drewN n := by
  obtain ⟨m, hm⟩ := T
  obtain ⟨e1, e2, e3⟩ := Lib.cutB_miss s t (miss_index (by rcases h with h | h; exact absurd h h0; exact h))
  refine (Tryz.strings_Cut s t m W hs hm).mono ?_
  rw [e1, e2, e3]
  rintro e w' ⟨rfl, n, rfl⟩
  exact ⟨rfl, n, rfl⟩
theorem lf_hit_on {W : World} (T : ML W) (s : ByteArray) (i : Nat) (hs : s.size < 4294967281) (h : Hit s lf i) :
    Calls Tryz.prog 39 #[.string s, .string ⟨#[10]⟩] W fun e w' => e = .returned (.tuple #[.string (s.extract 0 i), .string (s.extract (i + 1) s.size), .bool true]) ∧ ∃ n, w' = W.drewN n := sc_hit T s lf i hs h
theorem lf_miss_on {W : World} (T : ML W) (s : ByteArray) (hs : s.size < 4294967281) (h : Miss s lf) :
    Calls Tryz.prog 39 #[.string s, .string ⟨#[10]⟩] W fun e w' => e = .returned (.tuple #[.string s, .string ⟨#[]⟩, .bool false]) ∧ ∃ n, w' = W.drewN n := sc_miss T s lf hs h (by decide)
theorem ts_is (s : ByteArray) (W : World) (hs : s.size < 4294967281) :
    Calls Tryz.prog 40 #[.string s, .string ⟨#[13]⟩] W fun e w' => e = .returned (.string (B (trim (L s)))) ∧ W = w' := by
  refine (Tryz.strings_TrimSuffix s ⟨#[13]⟩ W (by omega)).mono ?_
  rintro e w' ⟨rfl, rfl⟩
  exact ⟨rfl, rfl⟩

/-! lines.Cut -/
theorem tl_ne {t : ByteArray} (h : 0 < t.size) : (t.toList == []) = false := by
  rw [ByteArray.toList_eq, beq_eq_false_iff_ne]
  intro k
  have : L t = [] := k
  have := (L_nil t).1 this
  omega
theorem tl_nil {t : ByteArray} (h : t.size = 0) : t = ⟨#[]⟩ := L_inj ((L_nil t).2 h)
theorem cut_hit {w : World} (T : ML w) (W : World) (hb : Below w.heap.size w W) (s t : ByteArray) (i : Nat) (hs : s.size < 4294967281) (h : Hit s t i) :
    Calls Tryz.prog 59 #[.string s, .string t] W fun e w' => e = .returned (.tuple #[.string (s.extract 0 i), .string (s.extract (i + t.size) s.size), .bool true]) ∧ Below w.heap.size w w' := by
  have C := Lib.hid (sc_hit (T.below hb) s t i hs h)
  have t1 := tl_ne h.1
  generalize s.extract 0 i = X at *
  generalize s.extract (i + t.size) s.size = Y at *
  clear T h
  go_enter Tryz.func59, Tryz.ntmps59
  go_wp2_with (go_at_call 39; (with_reducible refine C.out.mono ?_); rintro e w' ⟨rfl, n, rfl⟩)
  go_ret3
  exact ⟨rfl, below_drewN hb n⟩
theorem cut_miss {w : World} (T : ML w) (W : World) (hb : Below w.heap.size w W) (s t : ByteArray) (hs : s.size < 4294967281) (h : Miss s t) :
    Calls Tryz.prog 59 #[.string s, .string t] W fun e w' => e = .returned (.tuple #[.string s, .string ⟨#[]⟩, .bool false]) ∧ Below w.heap.size w w' := by
  by_cases h0 : t.size = 0
  · obtain rfl := tl_nil h0
    clear T h h0
    go_enter Tryz.func59, Tryz.ntmps59
    go_wp2
    go_ret3
    exact ⟨rfl, hb⟩
  · have C := Lib.hid (sc_miss (T.below hb) s t hs h h0)
    have t1 := tl_ne (show 0 < t.size by omega)
    clear T h h0
    go_enter Tryz.func59, Tryz.ntmps59
    go_wp2_with (go_at_call 39; (with_reducible refine C.out.mono ?_); rintro e w' ⟨rfl, n, rfl⟩)
    go_ret3
    exact ⟨rfl, below_drewN hb n⟩
end Go.Proofs.YtldieebiicblbaaGreatDoor.lines

/-
  What lines.Split answers: the lines of a text, in new memory. Conditions: the library's variable MaxLen holds some number; the text has fewer than 2^32 - 15 bytes.
-/
namespace Go.Proofs.YtldieebiicblbaaGreatDoor.lines
open Go.ChangeShapes Go.WideShapes Go.ChangeAt Go.RowKit
open lx
set_option linter.unusedVariables false
set_option maxRecDepth 100000

/-- what a function that answers a row of texts leaves. -/
def Told (W : World) (l : List ByteArray) (e : Ending) (w' : World) : Prop := ∃ A c, e = .returned (.slice A l.length c) ∧ Strs w' A l ∧ (l.length ≤ c ∧ ∀ b o, A = some ⟨b, o, none⟩ → W.heap.size ≤ b) ∧ Below W.heap.size W w'
def szOf : Value → Nat
  | .string s => s.size
  | _ => 0
/-- at the head of a round. -/
def SHead (s : ByteArray) (w : World) (t v : Value) (W : World) : Prop :=
  ∃ (r : ByteArray) (ls : List ByteArray) (x : Value), t = .string r ∧ x = v ∧ W.ownsRow w.heap.size 9 1 v ls.length (ls.map Value.string) ∧ ls.map L ++ spl [] (L r) = spl [] (L s) ∧ ls.length + r.size ≤ s.size ∧ Below w.heap.size w W
theorem shead_step {s : ByteArray} {w W W1 : World} {v v' : Value} {ls : List ByteArray} {r x r' : ByteArray} (e : ls.map L ++ spl [] (L r) = spl [] (L s)) (ex : spl [] (L r) = trim (L x) :: spl [] (L r')) (hz : ls.length + r.size ≤ s.size) (hr : r'.size < r.size)
    (ho : W.ownsRow w.heap.size 9 1 v ls.length (ls.map Value.string)) (hb : Below w.heap.size w W)
    (ho' : W1.ownsRow w.heap.size 9 1 v' (ls ++ [B (trim (L x))]).length ((ls ++ [B (trim (L x))]).map Value.string)) {n : Nat} (hg : (W.drewN n).grownBy W1 v.ownBlock) : SHead s w (.string r') v' W1 := by
  refine ⟨r', ls ++ [B (trim (L x))], v', rfl, rfl, ho', ?_, by simp; omega, (below_drewN hb n).grown hg hb.size fun k hk => (ho.lt k hk).1⟩
  rw [← e, ex, List.map_append, List.map_cons, L_B, List.map_nil, List.append_assoc, List.singleton_append]
theorem split_end {s : ByteArray} {w W : World} {v : Value} {ls : List ByteArray} {r : ByteArray} (e : ls.map L ++ spl [] (L r) = spl [] (L s)) (h0 : r.size = 0) (ho : W.ownsRow w.heap.size 9 1 v ls.length (ls.map Value.string)) (hb : Below w.heap.size w W) :
    Told w (splitS s) (.returned v) W := by
  obtain rfl := tl_nil h0
  have e2 : splitS s = ls := by
    unfold splitS
    rw [← e, show spl [] (L ⟨#[]⟩) = [] from rfl, List.append_nil, map_BL]
  rw [e2]
  obtain ⟨A, c, rfl, hs, hc⟩ := Strs.of_own ho
  exact ⟨A, c, rfl, hs, ⟨hc, fun b o e => (ho.lt b (by rw [e]; rfl)).1⟩, hb⟩

set_option maxHeartbeats 1000000 in
theorem split_at (s : ByteArray) (w : World) (T : ML w) (hs : s.size < 4294967281) : Calls Tryz.prog 14 #[.string s] w (Told w (splitS s)) := by
  go_enter Tryz.func14, Tryz.ntmps14
  go_wp2
  go_loopw [0, 3] (fun t v W => SHead s w t v W) (fun t _ _ => szOf t)
  case atStart => exact ⟨s, [], _, rfl, rfl, World.ownsRow_nil _ _ _ _, rfl, by simp, Below.refl _ _⟩
  case round =>
    obtain ⟨r, ls, v, rfl, rfl, ho, e, hz, hb⟩ := hrel
    have HO := fun n => Lib.hid (show (wr.drewN n).ownsRow w.heap.size 9 1 v ls.length (ls.map Value.string) from ho)
    by_cases h0 : r.size = 0
    · have E := Lib.hid (split_end e h0 ho hb)
      obtain rfl := tl_nil h0
      clear e
      go_wp2
      go_ret
      exact E.out
    · have t1 := tl_ne (show 0 < r.size by omega)
      have E := Lib.hid e
      have Tr := T.below hb
      rcases hit_or r lf with hm | ⟨i, hi2⟩
      · have C := Lib.hid (lf_miss_on Tr r (by omega) hm)
        have R := Lib.hid (fun W => ts_is r W (by omega))
        have X : Hid (spl [] (L r) = trim (L r) :: spl [] (L ⟨#[]⟩)) := lf_miss hm h0
        have SZ : Hid ((⟨#[]⟩ : ByteArray).size < r.size) := (show 0 < r.size by omega)
        clear e hm
        go_wp2_with (first
          | (go_at_call 39; (with_reducible refine C.out.mono ?_); rintro e w' ⟨rfl, n, rfl⟩)
          | (go_at_call 40; (with_reducible refine (R.out _).mono ?_); rintro e w' ⟨rfl, rfl⟩)
          | (at_builtin; refine app_one rfl _ _ rfl w.heap.size (wr.drewN _) v ls _ rfl rfl (HO _).out (by omega) hb.size ?_; intro v' w1 ho' hg))
        go_roundw
        case rel => exact shead_step E.out X.out hz SZ.out ho hb ho' hg
        case measure => exact SZ.out
      · have C := Lib.hid (lf_hit_on Tr r i (by omega) hi2)
        have X := Lib.hid (lf_hit hi2)
        have hi3 := hi2.2.1
        have z : lf.size = 1 := rfl
        have SZ : Hid ((r.extract (i + 1) r.size).size < r.size) := by
          show (r.extract (i + 1) r.size).size < r.size
          simp
          omega
        have R := Lib.hid (fun W => ts_is (r.extract 0 i) W (by simp; omega))
        clear e hi2 z
        generalize r.extract 0 i = x at *
        generalize r.extract (i + 1) r.size = r' at *
        go_wp2_with (first
          | (go_at_call 39; (with_reducible refine C.out.mono ?_); rintro e w' ⟨rfl, n, rfl⟩)
          | (go_at_call 40; (with_reducible refine (R.out _).mono ?_); rintro e w' ⟨rfl, rfl⟩)
          | (at_builtin; refine app_one rfl _ _ rfl w.heap.size (wr.drewN _) v ls _ rfl rfl (HO _).out (by omega) hb.size ?_; intro v' w1 ho' hg))
        go_roundw
        case rel => exact shead_step E.out X.out hz SZ.out ho hb ho' hg
        case measure => exact SZ.out
theorem split_on {w : World} (T : ML w) (W : World) (hb : Below w.heap.size w W) (s : ByteArray) (hs : s.size < 4294967281) : Calls Tryz.prog 14 #[.string s] W (Told W (splitS s)) := split_at s W (T.below hb) hs
end Go.Proofs.YtldieebiicblbaaGreatDoor.lines
