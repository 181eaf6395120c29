/-
  What the contracts of layer 5 ask of the memory and leave of it: the library's variable MaxLen holds some number, a slice reads as a row of texts. Conditions: as said.
-/
import Derived.Test.YtpkohihnocblfaaGreatDoorG01
import Derived.Test.YtpkohihnocblfaaGreatDoorG04
import Derived.Test.YtpkohihnocblfaaGreatDoorRows
import Derived.WalkKit
import Derived.ProofKit
import Derived.OpenShut
import Derived.IntWalk
import Derived.Maps.AppendAt
import Derived.Laws.OwnMore
import Derived.Deep.Draws
import Derived.Lib.Hide
import Derived.Lib.ConvBytes
import Derived.Lib.SlBytesRow
import Derived.Laws.BytesArg
import Derived.Deep.QuietTactic
import Derived.BigQuiet
import Derived.Lib.OthersKept
namespace Go.Proofs.YtpkohihnocblfaaGreatDoor.lines
open Go.ChangeShapes Go.WideShapes Go.ChangeAt Go.RowKit
open lx
set_option linter.unusedVariables false
set_option maxRecDepth 100000

/-- the library's variable holds some number. -/
def ML (w : World) : Prop := ∃ m, w.cell? ⟨5, 0, none⟩ = some (.int .i64 m)
theorem ML.below {w W : World} (h : ML w) (hb : Below w.heap.size w W) : ML W := by
  obtain ⟨m, hm⟩ := h
  exact ⟨m, (hb.cell (World.block_lt_of_cell? w _ hm)).trans hm⟩
theorem ml_of {w : World} (h : w.ShapedOpen Tryz.prog) : ML w := Tryz.laysM145.s1_3 w h

/-- a slice that reads as a row of texts. -/
def Strs (w : World) (A : Option Addr) (l : List ByteArray) : Prop :=
  l ≠ [] → ∃ b o, A = some ⟨b, o, none⟩ ∧ b < w.heap.size ∧ ∀ k (h : k < l.length), w.cell? ⟨b, o + k, none⟩ = some (.string l[k])
theorem Strs.below {w W : World} {A : Option Addr} {l : List ByteArray} (h : Strs w A l) (hb : Below w.heap.size w W) : Strs W A l := by
  intro hl
  obtain ⟨b, o, e, hlt, hc⟩ := h hl
  exact ⟨b, o, e, Nat.lt_of_lt_of_le hlt hb.size, fun k hk => (hb.cell (p := ⟨b, o + k, none⟩) hlt).trans (hc k hk)⟩
theorem Strs.of_own {w : World} {base : Nat} {e : TypeId} {v : Value} {l : List ByteArray} (h : w.ownsRow base e 1 v l.length (l.map Value.string)) :
    ∃ A c, v = .slice A l.length c ∧ Strs w A l ∧ l.length ≤ c := by
  have h0 := h
  rcases h.2 with ⟨rfl, hn⟩ | ⟨g, cap, cur, rfl, hb, hh, hnc, _⟩
  · rw [hn]
    refine ⟨none, 0, rfl, fun hl => absurd (List.eq_nil_of_length_eq_zero hn) hl, Nat.le_refl _⟩
  · refine ⟨_, _, rfl, fun hl => ⟨g, 0, rfl, ?_, fun k hk => ?_⟩, hnc⟩
    · rcases Nat.lt_or_ge g w.heap.size with k | k
      · exact k
      · rw [Array.getElem?_eq_none k] at hh
        cases hh
    · rw [Nat.zero_add, h0.cellAt k (by omega), List.getElem?_map, List.getElem?_eq_getElem hk]
      rfl
theorem strs_oneCell (l : List ByteArray) : ∀ u ∈ l.map Value.string, u.oneCell' = true := by
  intro u hu
  obtain ⟨x, _, rfl⟩ := List.mem_map.1 hu
  rfl
theorem infoS : (Tryz.prog.info? 9).map (fun i => (i.zero, i.size, i.bytes)) = some (some (.string ByteArray.empty), 1, 16) := by kernel_rfl
theorem infoB : (Tryz.prog.info? 5).map (fun i => (i.zero, i.size, i.bytes)) = some (some (.int .u8 0), 1, 1) := by kernel_rfl
theorem below_drewN {B : Nat} {a w : World} (h : Below B a w) (n : Nat) : Below B a (w.drewN n) := ⟨h.os, h.tape, h.output, h.size, h.block⟩

/-- 'all = append(all, y)', all a row of the call's own. -/
theorem app_one {ops : Array Oper} {rest : List Oper} {o : Oper} {a : Act} {Q : Exit → Act → World → Prop} (hgd : o.guard = none) (s x : Operand)
    (ho : o.op = .call { callee := .builtin .append, args := #[s, x], argTypes := #[59, 59] }) (base : Nat) (W : World) (v : Value) (ls : List ByteArray) (y : ByteArray)
    (hs : a.eval s = v) (hx : a.eval x = .slice (some ⟨W.heap.size, 0, none⟩) 1 1) (hown : W.ownsRow base 9 1 v ls.length (ls.map Value.string)) (hn : ls.length < 8000000000000) (hbase : base ≤ W.heap.size)
    (h : ∀ v' w', w'.ownsRow base 9 1 v' (ls ++ [y]).length ((ls ++ [y]).map Value.string) → W.grownBy w' v.ownBlock → wpList Tryz.prog ops Q rest (a.put o.dst v') w') :
    wpList Tryz.prog ops Q (o :: rest) a (W.alloc (.cells #[.string y] 9)) := by
  obtain ⟨i0, hi, hz0, hz1, hz2⟩ := info_parts infoS
  refine wpList_append_own _ hgd s x 59 ho base 9 i0 _ 1 16 Tryz.underlying59 hi hz0 hz1 hz2 rfl (by decide) v ls.length (ls.map Value.string) hs (hown.alloc _) ⟨W.heap.size, 0, none⟩ 1 1 [.string y] hx rfl (cell_one_new _ _ _) (strs_oneCell [y]) ?_ (by omega) (by simp; omega) ?_
  · unfold maxLen; omega
  · intro v' w' h1 h2 _
    refine h v' w' ?_ ((World.grownBy_alloc W _ _).trans h2)
    simpa using h1

/-! pieces of a text -/
theorem sl_run (W : World) (s : ByteArray) (a b : Nat) (z : Int) (hz : z = b) (h1 : a ≤ b) (h2 : b ≤ s.size) : (Instr.slice 9 (.string s) (some (.int .i64 a)) (some (.int .i64 z)) none).run Tryz.prog W = .ok (.string (s.extract a b)) W := by
  subst hz
  rw [run_slice_string W 9 s .i64 .i64 a b Tryz.underlying9 (by omega) (by omega) (by omega)]
  rfl
theorem sl_from (W : World) (s : ByteArray) (a : Nat) (z : Int) (hz : z = a) (h2 : a ≤ s.size) : (Instr.slice 9 (.string s) (some (.int .i64 z)) none none).run Tryz.prog W = .ok (.string (s.extract a s.size)) W := by
  subst hz
  rw [run_slice_string_l (P := Tryz.prog) W 9 s Tryz.underlying9 .i64 a (by omega) (by omega)]
  rfl

/-! the library's Cut and TrimSuffix -/
theorem sc_hit {W : World} (T : ML W) (s t : ByteArray) (i : Nat) (hs : s.size < 4294967281) (h : Hit s t i) :
    Calls Tryz.prog 48 #[.string s, .string t] W fun e w' => e = .returned (.tuple #[.string (s.extract 0 i), .string (s.extract (i + t.size) s.size), .bool true]) ∧ ∃ n, w' = W.drewN n := by
  obtain ⟨m, hm⟩ := T
  obtain ⟨e1, e2, e3⟩ := Lib.cutB_hit s t i (hit_index h)
  refine (Tryz.strings_Cut s t m W hs hm).mono ?_
  rw [e1, e2, e3]
  rintro e w' ⟨rfl, n, rfl⟩
  exact ⟨rfl, n, rfl⟩
theorem sc_miss {W : World} (T : ML W) (s t : ByteArray) (hs : s.size < 4294967281) (h : Miss s t) (h0 : t.size ≠ 0) :
    Calls Tryz.prog 48 #[.string s, .string t] W fun e w' => e = .returned (.tuple #[.string s, .string ByteArray.empty, .bool false]) ∧ ∃ n, w' = W.drewN n := by
  obtain ⟨m, hm⟩ := T
  obtain ⟨e1, e2, e3⟩ := Lib.cutB_miss s t (miss_index (by rcases h with h | h; exact absurd h h0; exact h))
  refine (Tryz.strings_Cut s t m W hs hm).mono ?_
  rw [e1, e2, e3]
  rintro e w' ⟨rfl, n, rfl⟩
  exact ⟨rfl, n, rfl⟩
theorem lf_hit_on {W : World} (T : ML W) (s : ByteArray) (i : Nat) (hs : s.size < 4294967281) (h : Hit s lf i) :
    Calls Tryz.prog 48 #[.string s, .string ⟨#[10]⟩] W fun e w' => e = .returned (.tuple #[.string (s.extract 0 i), .string (s.extract (i + 1) s.size), .bool true]) ∧ ∃ n, w' = W.drewN n := sc_hit T s lf i hs h
theorem lf_miss_on {W : World} (T : ML W) (s : ByteArray) (hs : s.size < 4294967281) (h : Miss s lf) :
    Calls Tryz.prog 48 #[.string s, .string ⟨#[10]⟩] W fun e w' => e = .returned (.tuple #[.string s, .string ⟨#[]⟩, .bool false]) ∧ ∃ n, w' = W.drewN n := sc_miss T s lf hs h (by decide)
theorem ts_is (s : ByteArray) (W : World) (hs : s.size < 4294967281) :
    Calls Tryz.prog 46 #[.string s, .string ⟨#[13]⟩] W fun e w' => e = .returned (.string (B (trim (L s)))) ∧ W = w' := by
  refine (Tryz.strings_TrimSuffix s ⟨#[13]⟩ W (by omega)).mono ?_
  rintro e w' ⟨rfl, rfl⟩
  exact ⟨rfl, rfl⟩

/-! lines.Cut -/
theorem tl_ne {t : ByteArray} (h : 0 < t.size) : (t.toList == []) = false := by
  rw [ByteArray.toList_eq, beq_eq_false_iff_ne]
  intro k
  have : L t = [] := k
  have := (L_nil t).1 this
  omega
theorem tl_nil {t : ByteArray} (h : t.size = 0) : t = ⟨#[]⟩ := L_inj ((L_nil t).2 h)
theorem cut_hit {w : World} (T : ML w) (W : World) (hb : Below w.heap.size w W) (s t : ByteArray) (i : Nat) (hs : s.size < 4294967281) (h : Hit s t i) :
    Calls Tryz.prog 24 #[.string s, .string t] W fun e w' => e = .returned (.tuple #[.string (s.extract 0 i), .string (s.extract (i + t.size) s.size), .bool true]) ∧ Below w.heap.size w w' := by
  have C := Lib.hid (sc_hit (T.below hb) s t i hs h)
  have t1 := tl_ne h.1
  generalize s.extract 0 i = X at *
  generalize s.extract (i + t.size) s.size = Y at *
  clear T h
  go_enter Tryz.func24, Tryz.ntmps24
  go_wp2_with (go_at_call 48; (with_reducible refine C.out.mono ?_); rintro e w' ⟨rfl, n, rfl⟩)
  go_ret3
  exact ⟨rfl, below_drewN hb n⟩
theorem cut_miss {w : World} (T : ML w) (W : World) (hb : Below w.heap.size w W) (s t : ByteArray) (hs : s.size < 4294967281) (h : Miss s t) :
    Calls Tryz.prog 24 #[.string s, .string t] W fun e w' => e = .returned (.tuple #[.string s, .string ⟨#[]⟩, .bool false]) ∧ Below w.heap.size w w' := by
  by_cases h0 : t.size = 0
  · obtain rfl := tl_nil h0
    clear T h h0
    go_enter Tryz.func24, Tryz.ntmps24
    go_wp2
    go_ret3
    exact ⟨rfl, hb⟩
  · have C := Lib.hid (sc_miss (T.below hb) s t hs h h0)
    have t1 := tl_ne (show 0 < t.size by omega)
    clear T h h0
    go_enter Tryz.func24, Tryz.ntmps24
    go_wp2_with (go_at_call 48; (with_reducible refine C.out.mono ?_); rintro e w' ⟨rfl, n, rfl⟩)
    go_ret3
    exact ⟨rfl, below_drewN hb n⟩
end Go.Proofs.YtpkohihnocblfaaGreatDoor.lines

/-
  What lines.Fold and the document's own Fold answer: the text with small letters for the great ones from A to Z. Condition: the text is no longer than a slice of bytes can count.
-/
namespace Go.Proofs.YtpkohihnocblfaaGreatDoor.lines
open Go.ChangeShapes Go.WideShapes Go.ChangeAt Go.RowKit
open lx
set_option linter.unusedVariables false
set_option maxRecDepth 100000

/-! a text's bytes in new memory -/
def bw (W : World) (X : ByteArray) : World := Lib.bytesWorld W 5 X
def bcap (W : World) (X : ByteArray) : Nat := grownCap W X.size 0 5
theorem to_bytes (W : World) (X : ByteArray) : (convert 9 42 (.string X)).run Tryz.prog W = .ok (.slice (some ⟨W.heap.size, 0, none⟩) X.size (bcap W X)) (bw W X) :=
  Lib.run_convert_string_bytes W 9 42 5 X Tryz.underlying9 Tryz.underlying42 Tryz.underlying5
theorem bw_cell (W : World) (X : ByteArray) (n : Nat) (h : n < X.size) : (bw W X).cell? ⟨W.heap.size, n, none⟩ = some (.int .u8 (bt X n)) :=
  Lib.bytesWorld_cell W 5 X n h
theorem bw_frozen (W : World) (X : ByteArray) (n : Nat) (h : n < X.size) : (bw W X).frozen? ⟨W.heap.size, n, none⟩ = false := by
  have hn := Lib.bytesWorld_at_new W 5 X
  have hz : X.size ≤ (Lib.bytesCells W 5 X).size := by
    have : X.data.size = X.size := rfl
    simp [Lib.bytesCells, this]
  simp only [bw, World.frozen?, hn]
  simp
  omega
theorem bw_below (W : World) (X : ByteArray) : Below W.heap.size W (bw W X) := by
  refine ⟨rfl, rfl, rfl, ?_, fun j hj => Lib.bytesWorld_at_old W _ X j hj⟩
  have := Lib.bytesWorld_size W 5 X
  show W.heap.size ≤ (bw W X).heap.size
  unfold bw
  omega
/-- a text out of bytes. -/
theorem from_bytes (W : World) (X : ByteArray) (b n cap : Nat) (hn : X.size = n) (hc : ∀ j, j < X.size → W.cell? ⟨b, j, none⟩ = some (.int .u8 (bt X j))) :
    (convert 42 9 (.slice (some ⟨b, 0, none⟩) n cap)).run Tryz.prog W = .ok (.string X) W := by
  subst hn
  refine Lib.run_convert_whole W 42 5 9 Tryz.underlying42 Tryz.underlying5 Tryz.underlying9 b 0 X ?_ cap
  intro j hj
  rw [Nat.zero_add, hc j hj, bt_at]

/-- bytes as cells. -/
def bl (l : List UInt8) : List Value := l.map fun c => .int .u8 (c.toNat : Nat)
theorem bl_len (l : List UInt8) : (bl l).length = l.length := by unfold bl; simp
theorem bl_one (l : List UInt8) : ∀ u ∈ bl l, u.oneCell' = true := by
  intro u hu
  obtain ⟨x, _, rfl⟩ := List.mem_map.1 hu
  rfl
/-- 'out = append(out, c)', out a row of bytes of the call's own. -/
theorem app_byte {ops : Array Oper} {rest : List Oper} {o : Oper} {a : Act} {Q : Exit → Act → World → Prop} (hgd : o.guard = none) (s x : Operand)
    (ho : o.op = .call { callee := .builtin .append, args := #[s, x], argTypes := #[42, 42] }) (base : Nat) (W : World) (v : Value) (l : List UInt8) (c : UInt8) (z : Int) (hz : z = (c.toNat : Nat))
    (hs : a.eval s = v) (hx : a.eval x = .slice (some ⟨W.heap.size, 0, none⟩) 1 1) (hown : W.ownsRow base 5 1 v l.length (bl l)) (hn : l.length < 8000000000000) (hbase : base ≤ W.heap.size)
    (h : ∀ v' w', w'.ownsRow base 5 1 v' (l ++ [c]).length (bl (l ++ [c])) → W.grownBy w' v.ownBlock → wpList Tryz.prog ops Q rest (a.put o.dst v') w') :
    wpList Tryz.prog ops Q (o :: rest) a (W.alloc (.cells #[.int .u8 z] 5)) := by
  subst hz
  obtain ⟨i0, hi, hz0, hz1, hz2⟩ := info_parts infoB
  refine wpList_append_own _ hgd s x 42 ho base 5 i0 _ 1 1 Tryz.underlying42 hi hz0 hz1 hz2 rfl (by decide) v l.length (bl l) hs (hown.alloc _) ⟨W.heap.size, 0, none⟩ 1 1 (bl [c]) hx rfl (cell_one_new _ _ _) (bl_one [c]) ?_ (by omega) (by simp; omega) ?_
  · unfold maxLen; omega
  · intro v' w' h1 h2 _
    refine h v' w' ?_ ((World.grownBy_alloc W _ _).trans h2)
    have e : bl (l ++ [c]) = bl l ++ bl [c] := by unfold bl; simp
    rw [e, List.length_append]
    exact h1

/-! lines.Fold -/
/-- a byte, folded as far as place k. -/
def fb (s : ByteArray) (k j : Nat) : Nat := if j < k then bt (foldS s) j else bt s j
def FHead (s : ByteArray) (w : World) (t : Value) (W : World) : Prop :=
  ∃ k : Nat, k ≤ s.size ∧ t = .int .i64 k ∧ (∀ j, j < s.size → W.cell? ⟨w.heap.size, j, none⟩ = some (.int .u8 (fb s k j)) ∧ W.frozen? ⟨w.heap.size, j, none⟩ = false) ∧ Below w.heap.size w W
theorem fhead_keep {s : ByteArray} {w W : World} {k : Nat} (hk : k < s.size) (hc : ∀ j, j < s.size → W.cell? ⟨w.heap.size, j, none⟩ = some (.int .u8 (fb s k j)) ∧ W.frozen? ⟨w.heap.size, j, none⟩ = false) (hb : Below w.heap.size w W) (hn : ¬ (65 ≤ bt s k ∧ bt s k ≤ 90)) :
    FHead s w (.int .i64 ((k : Int) + 1)) W := by
  refine ⟨k + 1, hk, rfl, fun j hj => ?_, hb⟩
  obtain ⟨h1, h2⟩ := hc j hj
  refine ⟨h1.trans ?_, h2⟩
  have e : fb s k j = fb s (k + 1) j := by
    unfold fb
    by_cases h : j = k
    · subst h
      rw [if_neg (Nat.lt_irrefl _), if_pos (Nat.lt_succ_self _), fold_bt s j hk, if_neg hn]
    · by_cases h' : j < k
      · rw [if_pos h', if_pos (by omega)]
      · rw [if_neg h', if_neg (by omega)]
  rw [e]
theorem fhead_set {s : ByteArray} {w W : World} {k : Nat} (hk : k < s.size) (hc : ∀ j, j < s.size → W.cell? ⟨w.heap.size, j, none⟩ = some (.int .u8 (fb s k j)) ∧ W.frozen? ⟨w.heap.size, j, none⟩ = false) (hb : Below w.heap.size w W) (hn : 65 ≤ bt s k ∧ bt s k ≤ 90) :
    FHead s w (.int .i64 ((k : Int) + 1)) (W.setCell ⟨w.heap.size, k, none⟩ (.int .u8 ((bt s k : Int) - 65 + 97))) := by
  refine ⟨k + 1, hk, rfl, fun j hj => ?_, hb.setCell (p := ⟨w.heap.size, k, none⟩) (Nat.le_refl _) _⟩
  obtain ⟨h1, h2⟩ := hc j hj
  have fz : (W.setCell ⟨w.heap.size, k, none⟩ (.int .u8 ((bt s k : Int) - 65 + 97))).frozen? ⟨w.heap.size, j, none⟩ = false := by
    simpa using h2
  refine ⟨?_, fz⟩
  by_cases h : j = k
  · subst h
    rw [World.cell?_setCell_same _ _ _ h1]
    unfold fb
    rw [if_pos (Nat.lt_succ_self _), fold_bt s j hk, if_pos hn]
    congr 2
    omega
  · rw [World.cell?_setCell_other _ _ _ _ (by simp), h1]
    unfold fb
    by_cases h' : j < k
    · rw [if_pos h', if_pos (by omega)]
    · rw [if_neg h', if_neg (by omega)]
set_option maxHeartbeats 1000000 in
theorem fold_at (s : ByteArray) (w : World) (hs : s.size < 4294967281) : Calls Tryz.prog 29 #[.string s] w fun e w' => e = .returned (.string (foldS s)) ∧ Below w.heap.size w w' := by
  have hto := to_bytes w s
  go_enter Tryz.func29, Tryz.ntmps29
  go_wp2
  go_loopw [10] (fun t W => FHead s w t W) (fun t _ => s.size - (intOf t).toNat)
  case atStart => exact ⟨0, by omega, rfl, fun j hj => ⟨bw_cell w s j hj, bw_frozen w s j hj⟩, bw_below w s⟩
  case round =>
    obtain ⟨k, hk, rfl, hc, hb⟩ := hrel
    clear hto
    by_cases hlt : k < s.size
    · have hcell : wr.cell? ⟨w.heap.size, k, none⟩ = some (.int .u8 (bt s k)) := by
        rw [(hc k hlt).1]
        unfold fb
        rw [if_neg (Nat.lt_irrefl _)]
      have hfr := (hc k hlt).2
      have bl := bt_lt s k
      by_cases hd : 65 ≤ bt s k ∧ bt s k ≤ 90
      · have R := Lib.hid (fhead_set hlt hc hb hd)
        clear hc
        obtain ⟨d1, d2⟩ := hd
        go_wp2
        go_roundw
        case rel => exact R.out
        case measure => simp [intOf]; omega
      · have R := Lib.hid (fhead_keep hlt hc hb hd)
        clear hc
        by_cases d1 : 65 ≤ bt s k
        · have d2 : 90 < bt s k := by omega
          clear hd
          go_wp2
          go_roundw
          case rel => exact R.out
          case measure => simp [intOf]; omega
        · have d2 : bt s k < 65 := by omega
          clear hd
          go_wp2
          go_roundw
          case rel => exact R.out
          case measure => simp [intOf]; omega
    · obtain rfl : s.size = k := by omega
      have hfrom := from_bytes wr (foldS s) w.heap.size s.size (bcap w s) (fold_size s) (fun j hj => by
        rw [fold_size] at hj
        rw [(hc j hj).1]
        unfold fb
        rw [if_pos hj])
      clear hc
      go_wp2
      go_ret
      exact ⟨rfl, hb⟩
theorem fold_on {w : World} (W : World) (hb : Below w.heap.size w W) (s : ByteArray) (hs : s.size < 4294967281) : Calls Tryz.prog 29 #[.string s] W fun e w' => e = .returned (.string (foldS s)) ∧ Below w.heap.size w w' :=
  (fold_at s W hs).mono fun e w' ⟨he, hw⟩ => ⟨he, hb.trans (hw.mono hb.size)⟩
end Go.Proofs.YtpkohihnocblfaaGreatDoor.lines

/-
  What num's Add, Sub and Mul answer, for all numbers of 64 bits: the exact answer and true where it fits, nought and false where it does not. No condition beside that the arguments are such numbers.
-/
namespace Go.Proofs.YtpkohihnocblfaaGreatDoor.num
open Go.ChangeShapes Go.WideShapes Go.ChangeAt Go.RowKit
set_option linter.unusedVariables false

def fit (n : Int) : Prop := -9223372036854775808 ≤ n ∧ n ≤ 9223372036854775807

theorem ret_bool {b : Bool} (h : b = true) : Ending.returned (.bool b) = .returned (.bool true) := by rw [h]

/-! Add -/
theorem add_yes (a b : Int) (w : World) (ha : fit a) (hb : fit b) (h : fit (a + b)) :
    Calls Tryz.prog 37 #[.int .i64 a, .int .i64 b] w fun e w' => e = .returned (.tuple #[.int .i64 (a + b), .bool true]) ∧ w = w' := by
  unfold fit at ha hb h
  obtain ⟨ha1, ha2⟩ := ha; obtain ⟨hb1, hb2⟩ := hb; obtain ⟨h1, h2⟩ := h
  rcases Int.lt_trichotomy b 0 with hs | rfl | hs
  · have t1 : ¬ (b > 0) := by omega
    have t2 : ¬ (a < -9223372036854775808 - b) := by omega
    go_enter Tryz.func37, Tryz.ntmps37
    go_wp2
    go_ret2
    exact ⟨rfl, rfl⟩
  · rw [Int.add_zero]
    go_enter Tryz.func37, Tryz.ntmps37
    go_wp2
    go_ret2
    exact ⟨rfl, rfl⟩
  · have t1 : ¬ (b < 0) := by omega
    have t2 : ¬ (a > 9223372036854775807 - b) := by omega
    go_enter Tryz.func37, Tryz.ntmps37
    go_wp2
    go_ret2
    exact ⟨rfl, rfl⟩
theorem add_no (a b : Int) (w : World) (ha : fit a) (hb : fit b) (h : ¬ fit (a + b)) :
    Calls Tryz.prog 37 #[.int .i64 a, .int .i64 b] w fun e w' => e = .returned (.tuple #[.int .i64 0, .bool false]) ∧ w = w' := by
  unfold fit at ha hb h
  obtain ⟨ha1, ha2⟩ := ha; obtain ⟨hb1, hb2⟩ := hb
  by_cases hs : b < 0
  · have t1 : ¬ (b > 0) := by omega
    have t2 : (a < -9223372036854775808 - b) := by omega
    clear h
    go_enter Tryz.func37, Tryz.ntmps37
    go_wp2
    go_ret2
    exact ⟨rfl, rfl⟩
  · have t0 : 0 < b := by omega
    have t2 : (a > 9223372036854775807 - b) := by omega
    clear h
    go_enter Tryz.func37, Tryz.ntmps37
    go_wp2
    go_ret2
    exact ⟨rfl, rfl⟩
theorem add_eq (a b c : Int) (w : World) (ha : fit a) (hb : fit b) (h : fit c) (e : a + b = c) :
    Calls Tryz.prog 37 #[.int .i64 a, .int .i64 b] w fun e w' => e = .returned (.tuple #[.int .i64 c, .bool true]) ∧ w = w' := by
  subst e; exact add_yes a b w ha hb h
/-! Sub -/
theorem sub_yes (a b : Int) (w : World) (ha : fit a) (hb : fit b) (h : fit (a - b)) :
    Calls Tryz.prog 97 #[.int .i64 a, .int .i64 b] w fun e w' => e = .returned (.tuple #[.int .i64 (a - b), .bool true]) ∧ w = w' := by
  unfold fit at ha hb h
  obtain ⟨ha1, ha2⟩ := ha; obtain ⟨hb1, hb2⟩ := hb; obtain ⟨h1, h2⟩ := h
  rcases Int.lt_trichotomy b 0 with hs | rfl | hs
  · have t1 : ¬ (b > 0) := by omega
    have t2 : ¬ (a > 9223372036854775807 + b) := by omega
    go_enter Tryz.func97, Tryz.ntmps97
    go_wp2
    go_ret2
    exact ⟨rfl, rfl⟩
  · rw [Int.sub_zero]
    go_enter Tryz.func97, Tryz.ntmps97
    go_wp2
    go_ret2
    exact ⟨rfl, rfl⟩
  · have t1 : ¬ (b < 0) := by omega
    have t2 : ¬ (a < -9223372036854775808 + b) := by omega
    go_enter Tryz.func97, Tryz.ntmps97
    go_wp2
    go_ret2
    exact ⟨rfl, rfl⟩
theorem sub_no (a b : Int) (w : World) (ha : fit a) (hb : fit b) (h : ¬ fit (a - b)) :
    Calls Tryz.prog 97 #[.int .i64 a, .int .i64 b] w fun e w' => e = .returned (.tuple #[.int .i64 0, .bool false]) ∧ w = w' := by
  unfold fit at ha hb h
  obtain ⟨ha1, ha2⟩ := ha; obtain ⟨hb1, hb2⟩ := hb
  by_cases hs : b < 0
  · have t1 : ¬ (b > 0) := by omega
    have t2 : (a > 9223372036854775807 + b) := by omega
    clear h
    go_enter Tryz.func97, Tryz.ntmps97
    go_wp2
    go_ret2
    exact ⟨rfl, rfl⟩
  · have t0 : 0 < b := by omega
    have t2 : (a < -9223372036854775808 + b) := by omega
    clear h
    go_enter Tryz.func97, Tryz.ntmps97
    go_wp2
    go_ret2
    exact ⟨rfl, rfl⟩

theorem sub_eq (a b c : Int) (w : World) (ha : fit a) (hb : fit b) (h : fit c) (e : a - b = c) :
    Calls Tryz.prog 97 #[.int .i64 a, .int .i64 b] w fun e w' => e = .returned (.tuple #[.int .i64 c, .bool true]) ∧ w = w' := by
  subst e; exact sub_yes a b w ha hb h
/-! Mul: the mathematics -/
theorem tdiv_back (a b : Int) (h : a ≠ 0) : (a * b).tdiv a = b := Int.mul_tdiv_cancel_left b h
theorem wrap_off (n : Int) (h : ¬ fit n) : fit (wrap64 n) ∧ ∃ k : Int, wrap64 n = n + k * 18446744073709551616 ∧ k ≠ 0 := by
  unfold fit at *
  have hw : wrap64 n = (n + 9223372036854775808) % 18446744073709551616 - 9223372036854775808 := by unfold wrap64; rfl
  have hd := Int.emod_def (n + 9223372036854775808) 18446744073709551616
  have h1 := Int.emod_nonneg (n + 9223372036854775808) (b := 18446744073709551616) (by omega)
  have h2 := Int.emod_lt_of_pos (n + 9223372036854775808) (b := 18446744073709551616) (by omega)
  refine ⟨by rw [hw]; omega, -((n + 9223372036854775808) / 18446744073709551616), by rw [hw]; omega, ?_⟩
  intro hk
  apply h
  omega
theorem tmod_small (n a : Int) (ha : a ≠ 0) (hf : fit a) : -9223372036854775808 < n.tmod a ∧ n.tmod a < 9223372036854775808 := by
  unfold fit at hf
  have h := Int.natAbs_tmod n a
  have h2 : n.natAbs % a.natAbs < a.natAbs := Nat.mod_lt _ (by omega)
  omega
theorem mul_off (a b : Int) (ha : a ≠ 0) (hf : fit a) (h : ¬ fit (a * b)) : (wrap64 (a * b)).tdiv a ≠ b := by
  intro e
  obtain ⟨_, k, hk, hk0⟩ := wrap_off _ h
  have hm := tmod_small (wrap64 (a * b)) a ha hf
  have hd := Int.mul_tdiv_add_tmod (wrap64 (a * b)) a
  rw [e] at hd
  omega
theorem quo_fit (n a : Int) (ha : a ≠ 0) (h1 : a ≠ -1) (hn : fit n) : fit (n.tdiv a) := by
  unfold fit at *
  have h : (n.tdiv a).natAbs = n.natAbs / a.natAbs := Int.natAbs_tdiv n a
  by_cases ha0 : 0 < a
  · have := IntWalk.i64_quo' n a ⟨hn.1, hn.2, by omega⟩
    have h2 := Nat.div_le_self n.natAbs a.natAbs
    by_cases hz : n.tdiv a = 9223372036854775808
    · exfalso
      rw [hz] at this
      have hw : IntKind.i64.wrap 9223372036854775808 = -9223372036854775808 := by rw [IntKind.wrap_i64]; rfl
      omega
    · omega
  · have h2 : n.natAbs / a.natAbs ≤ n.natAbs / 2 := Nat.div_le_div_left (by omega) (by omega)
    omega
theorem mul_yes (a b : Int) (w : World) (ha : fit a) (hb : fit b) (h : fit (a * b)) :
    Calls Tryz.prog 79 #[.int .i64 a, .int .i64 b] w fun e w' => e = .returned (.tuple #[.int .i64 (a * b), .bool true]) ∧ w = w' := by
  by_cases h0 : a = 0
  · subst h0
    rw [Int.zero_mul]
    go_enter Tryz.func79, Tryz.ntmps79
    go_wp2
    go_ret2
    exact ⟨rfl, rfl⟩
  · by_cases h1 : a = -1
    · subst h1
      have e : -1 * b = 0 - b := by omega
      rw [e] at h ⊢
      clear e
      have hz : fit 0 := ⟨by omega, by omega⟩
      go_enter Tryz.func79, Tryz.ntmps79
      go_wp2_with (go_at_call 97; refine (sub_yes _ _ _ hz hb h).mono ?_; rintro e w' ⟨rfl, rfl⟩)
      go_ret2
      exact ⟨by rw [Int.zero_sub]; rfl, rfl⟩
    · have hq := tdiv_back a b h0
      unfold fit at ha hb h
      obtain ⟨ha1, ha2⟩ := ha; obtain ⟨hb1, hb2⟩ := hb; obtain ⟨hp1, hp2⟩ := h
      have hq2 : IntKind.i64.wrap ((a * b).tdiv a) = b := by rw [hq]; exact IntWalk.i64_in _ ⟨hb1, hb2⟩
      have hq3 : wrap64 ((a * b).tdiv a) = b := by rw [hq]; exact IntWalk.wrap64_in _ ⟨hb1, hb2⟩
      clear hq
      go_enter Tryz.func79, Tryz.ntmps79
      go_wp2
      go_ret2
      exact ⟨rfl, rfl⟩
theorem mul_no (a b : Int) (w : World) (ha : fit a) (hb : fit b) (h : ¬ fit (a * b)) :
    Calls Tryz.prog 79 #[.int .i64 a, .int .i64 b] w fun e w' => e = .returned (.tuple #[.int .i64 0, .bool false]) ∧ w = w' := by
  have h0 : a ≠ 0 := by rintro rfl; apply h; rw [Int.zero_mul]; exact ⟨by omega, by omega⟩
  by_cases h1 : a = -1
  · subst h1
    have e : -1 * b = 0 - b := by omega
    rw [e] at h
    clear e
    have hz : fit 0 := ⟨by omega, by omega⟩
    go_enter Tryz.func79, Tryz.ntmps79
    go_wp2_with (go_at_call 97; refine (sub_no _ _ _ hz hb h).mono ?_; rintro e w' ⟨rfl, rfl⟩)
    go_ret2
    exact ⟨rfl, rfl⟩
  · have ho := mul_off a b h0 ha h
    have hf := (wrap_off _ h).1
    have hq := quo_fit (wrap64 (a * b)) a h0 h1 hf
    have hne : (wrap64 ((wrap64 (a * b)).tdiv a) != b) = true := by rw [IntWalk.wrap64_in _ hq]; simpa using ho
    have hne2 : (IntKind.i64.wrap ((IntKind.i64.wrap (a * b)).tdiv a) != b) = true := by rw [IntWalk.i64_left, IntWalk.i64_left]; exact hne
    unfold fit at ha hb
    obtain ⟨ha1, ha2⟩ := ha; obtain ⟨hb1, hb2⟩ := hb
    clear ho hf hq h
    go_enter Tryz.func79, Tryz.ntmps79
    go_wp2
    go_ret2
    exact ⟨rfl, rfl⟩

theorem mul_eq (a b c : Int) (w : World) (ha : fit a) (hb : fit b) (h : fit c) (e : a * b = c) :
    Calls Tryz.prog 79 #[.int .i64 a, .int .i64 b] w fun e w' => e = .returned (.tuple #[.int .i64 c, .bool true]) ∧ w = w' := by
  subst e; exact mul_yes a b w ha hb h
end Go.Proofs.YtpkohihnocblfaaGreatDoor.num

/-
  What lines.Number answers: the number that a text is in decimals, and true; nought and false of any other text. Condition: the text is no longer than an int can tell.
-/
namespace Go.Proofs.YtpkohihnocblfaaGreatDoor.lines
open Go.ChangeShapes Go.WideShapes Go.ChangeAt Go.RowKit
open lx
set_option linter.unusedVariables false
set_option maxRecDepth 100000

/-- what is told of a number. -/
def NTold (s : ByteArray) (w : World) (e : Ending) (w' : World) : Prop := e = .returned (.tuple #[.int .i64 (nmI (L s)), .bool (nmT (L s))]) ∧ Below w.heap.size w w'
theorem ntold_no {s : ByteArray} {w W : World} (h : nm (L s) = none) (hb : Below w.heap.size w W) : NTold s w (.returned (.tuple #[.int .i64 0, .bool false])) W := by
  obtain ⟨a, b⟩ := nm_no h
  unfold NTold
  rw [a, b]
  exact ⟨rfl, hb⟩
theorem ntold_yes {s : ByteArray} {w W : World} {n : Int} (h : nm (L s) = some n) (hb : Below w.heap.size w W) : NTold s w (.returned (.tuple #[.int .i64 n, .bool true])) W := by
  obtain ⟨a, b⟩ := nm_yes h
  unfold NTold
  rw [a, b]
  exact ⟨rfl, hb⟩
def NHead (s : ByteArray) (w : World) (t : Value) (W : World) : Prop :=
  ∃ (p : Nat) (n : Int), t = .int .i64 n ∧ W = w.alloc (.stringIter s p) ∧ p ≤ s.size ∧ 0 ≤ n ∧ n ≤ 9223372036854775807 ∧ nmb n ((L s).drop p) = nm (L s)
theorem next_at (w : World) (s : ByteArray) (p : Nat) (ty : TypeId) (h : p < s.size) :
    (Instr.next (.pointer (some ⟨w.heap.size, 0, none⟩)) true ty).run Tryz.prog (w.alloc (.stringIter s p)) = .ok (.tuple #[.bool true, .int .i64 p, .int .i32 (Utf8.decode s p).1]) (w.alloc (.stringIter s (p + (Utf8.decode s p).2))) :=
  run_next_any (P := Tryz.prog) w s p ty h
theorem next_end (w : World) (s : ByteArray) (p : Nat) (ty : TypeId) (h : ¬ p < s.size) :
    (Instr.next (.pointer (some ⟨w.heap.size, 0, none⟩)) true ty).run Tryz.prog (w.alloc (.stringIter s p)) = .ok (.tuple #[.bool false]) (w.alloc (.stringIter s p)) :=
  run_next_end (P := Tryz.prog) w s p ty h
theorem pos_at (w : World) (s : ByteArray) (p : Nat) : (w.alloc (.stringIter s p)).iterPos w.heap.size = p := World.iterPos_iter w s p
theorem bel1 (w : World) (o : Obj) : Below w.heap.size w (w.alloc o) := (Below.refl _ _).alloc (Nat.le_refl _) _

set_option maxHeartbeats 2000000 in
theorem number_at (s : ByteArray) (w : World) (hs : s.size < 4294967281) : Calls Tryz.prog 55 #[.string s] w (NTold s w) := by
  by_cases h0 : s.size = 0
  · obtain rfl := tl_nil h0
    have R := Lib.hid (ntold_no (s := ⟨#[]⟩) (w := w) (W := w) rfl (Below.refl _ _))
    clear h0 hs
    go_enter Tryz.func55, Tryz.ntmps55
    go_wp2
    go_ret2
    exact R.out
  have t0 := tl_ne (show 0 < s.size by omega)
  have N0 := Lib.hid (nm_of s (by omega))
  go_enter Tryz.func55, Tryz.ntmps55
  go_wp2
  go_loopw [4] (fun t W => NHead s w t W) (fun _ W => s.size - W.iterPos w.heap.size)
  case atStart => exact ⟨0, 0, rfl, rfl, by omega, by omega, by omega, N0.out.symm⟩
  case round =>
    obtain ⟨p, n, rfl, rfl, hp, hn0, hn1, e⟩ := hrel
    by_cases hlt : p < s.size
    · by_cases ha : bt s p < 128
      · have hnx := fun ty => next_at w s p ty hlt
        rw [decode_ascii s p hlt (by rw [bt_at]; exact ha), bt_at] at hnx
        simp only at hnx
        have MS : Hid (s.size - (w.alloc (.stringIter s (p + 1))).iterPos w.heap.size < s.size - (w.alloc (.stringIter s p)).iterPos w.heap.size) := by
          show _ < _
          rw [pos_at, pos_at]
          omega
        by_cases hd : 48 ≤ bt s p ∧ bt s p ≤ 57
        · by_cases hm : 10 * n ≤ 9223372036854775807
          · have M := Lib.hid (fun W => num.mul_yes n 10 W ⟨by omega, by omega⟩ ⟨by omega, by omega⟩ ⟨by omega, by omega⟩)
            by_cases hq : 10 * n + ((bt s p : Int) - 48) ≤ 9223372036854775807
            · have A := Lib.hid (fun W => num.add_yes (n * 10) ((bt s p : Int) - 48) W ⟨by omega, by omega⟩ ⟨by omega, by omega⟩ ⟨by omega, by omega⟩)
              have E2 := Lib.hid ((nmb_go s p n hlt hd.1 hd.2 hq).symm.trans e)
              clear e
              go_wp2_with (first
                | (go_at_call 79; (with_reducible refine (M.out _).mono ?_); rintro e w' ⟨rfl, rfl⟩)
                | (go_at_call 37; (with_reducible refine (A.out _).mono ?_); rintro e w' ⟨rfl, rfl⟩))
              go_roundw
              case rel => exact ⟨p + 1, _, rfl, rfl, by omega, by omega, by omega, by rw [Int.mul_comm n 10]; exact E2.out⟩
              case measure => exact MS.out
            · have A := Lib.hid (fun W => num.add_no (n * 10) ((bt s p : Int) - 48) W ⟨by omega, by omega⟩ ⟨by omega, by omega⟩ (fun k => by have := k.2; omega))
              have R := Lib.hid (ntold_no (w := w) (W := w.alloc (.stringIter s (p + 1))) (e.symm.trans (nmb_stop s p n hlt (by omega))) (bel1 _ _))
              clear e
              go_wp2_with (first
                | (go_at_call 79; (with_reducible refine (M.out _).mono ?_); rintro e w' ⟨rfl, rfl⟩)
                | (go_at_call 37; (with_reducible refine (A.out _).mono ?_); rintro e w' ⟨rfl, rfl⟩))
              go_ret2
              exact R.out
          · have M := Lib.hid (fun W => num.mul_no n 10 W ⟨by omega, by omega⟩ ⟨by omega, by omega⟩ (fun k => by have := k.2; omega))
            have R := Lib.hid (ntold_no (w := w) (W := w.alloc (.stringIter s (p + 1))) (e.symm.trans (nmb_stop s p n hlt (by omega))) (bel1 _ _))
            clear e
            go_wp2_with (go_at_call 79; (with_reducible refine (M.out _).mono ?_); rintro e w' ⟨rfl, rfl⟩)
            go_ret2
            exact R.out
        · have R := Lib.hid (ntold_no (w := w) (W := w.alloc (.stringIter s (p + 1))) (e.symm.trans (nmb_stop s p n hlt (by omega))) (bel1 _ _))
          clear e MS
          by_cases hd2 : bt s p < 48
          · go_wp2
            go_ret2
            exact R.out
          · have hd3 : 57 < bt s p := by omega
            go_wp2
            go_ret2
            exact R.out
      · have hnx := fun ty => next_at w s p ty hlt
        obtain ⟨d1, d2, d3, d4⟩ := decode_far s p hlt (by omega)
        have dl := decode_le s p
        have R := Lib.hid (fun q => ntold_no (w := w) (W := w.alloc (.stringIter s q)) (e.symm.trans (nmb_stop s p n hlt (by omega))) (bel1 _ _))
        clear d4 e
        generalize Utf8.decode s p = D at *
        obtain ⟨r, d⟩ := D
        simp only at hnx d1 d2 d3 dl
        go_wp2
        go_ret2
        exact R.out _
    · have hnx := fun ty => next_end w s p ty hlt
      have R := Lib.hid (ntold_yes (w := w) (W := w.alloc (.stringIter s p)) (e.symm.trans (nmb_done s p n (by omega))) (bel1 _ _))
      clear e
      go_wp2
      go_ret2
      exact R.out
theorem number_on {w : World} (W : World) (hb : Below w.heap.size w W) (s : ByteArray) (hs : s.size < 4294967281) : Calls Tryz.prog 55 #[.string s] W fun e w' => e = .returned (.tuple #[.int .i64 (nmI (L s)), .bool (nmT (L s))]) ∧ Below w.heap.size w w' :=
  (number_at s W hs).mono fun e w' ⟨he, hw⟩ => ⟨he, hb.trans (hw.mono hb.size)⟩
end Go.Proofs.YtpkohihnocblfaaGreatDoor.lines
