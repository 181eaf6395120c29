/-
  What lines.Fold and the document's own Fold answer: the text with small letters for the great ones from A to Z. Condition: the text is no longer than a slice of bytes can count.
-/
import Derived.Test.YtiboijhfieaepaaGreatDoorLinesMem
import Derived.Test.YtiboijhfieaepaaGreatDoorLinesCur
import Derived.Lib.ConvBytes
import Derived.Lib.SlBytesRow
import Derived.Laws.BytesArg
namespace Go.Proofs.YtiboijhfieaepaaGreatDoor.lines
open Go.ChangeShapes Go.WideShapes Go.ChangeAt Go.RowKit
open lx
set_option linter.unusedVariables false
set_option maxRecDepth 100000

/-! a text's bytes in new memory -/
def bw (W : World) (X : ByteArray) : World := Lib.bytesWorld W 5 X
def bcap (W : World) (X : ByteArray) : Nat := grownCap W X.size 0 5
theorem to_bytes (W : World) (X : ByteArray) : (convert 9 57 (.string X)).run Tryz.prog W = .ok (.slice (some ⟨W.heap.size, 0, none⟩) X.size (bcap W X)) (bw W X) :=
  Lib.run_convert_string_bytes W 9 57 5 X Tryz.underlying9 Tryz.underlying57 Tryz.underlying5
theorem bw_cell (W : World) (X : ByteArray) (n : Nat) (h : n < X.size) : (bw W X).cell? ⟨W.heap.size, n, none⟩ = some (.int .u8 (bt X n)) :=
  Lib.bytesWorld_cell W 5 X n h
theorem bw_frozen (W : World) (X : ByteArray) (n : Nat) (h : n < X.size) : (bw W X).frozen? ⟨W.heap.size, n, none⟩ = false := by
  have hn := Lib.bytesWorld_at_new W 5 X
  have hz : X.size ≤ (Lib.bytesCells W 5 X).size := by
    have : X.data.size = X.size := rfl
    simp [Lib.bytesCells, this]
  simp only [bw, World.frozen?, hn]
  simp
  omega
theorem bw_below (W : World) (X : ByteArray) : Below W.heap.size W (bw W X) := by
  refine ⟨rfl, rfl, rfl, ?_, fun j hj => Lib.bytesWorld_at_old W _ X j hj⟩
  have := Lib.bytesWorld_size W 5 X
  show W.heap.size ≤ (bw W X).heap.size
  unfold bw
  omega
/-- a text out of bytes. -/
theorem from_bytes (W : World) (X : ByteArray) (b n cap : Nat) (hn : X.size = n) (hc : ∀ j, j < X.size → W.cell? ⟨b, j, none⟩ = some (.int .u8 (bt X j))) :
    (convert 57 9 (.slice (some ⟨b, 0, none⟩) n cap)).run Tryz.prog W = .ok (.string X) W := by
  subst hn
  refine Lib.run_convert_whole W 57 5 9 Tryz.underlying57 Tryz.underlying5 Tryz.underlying9 b 0 X ?_ cap
  intro j hj
  rw [Nat.zero_add, hc j hj, bt_at]

/-- bytes as cells. -/
def bl (l : List UInt8) : List Value := l.map fun c => .int .u8 (c.toNat : Nat)
theorem bl_len (l : List UInt8) : (bl l).length = l.length := by unfold bl; simp
theorem bl_one (l : List UInt8) : ∀ u ∈ bl l, u.oneCell' = true := by
  intro u hu
  obtain ⟨x, _, rfl⟩ := List.mem_map.1 hu
  rfl
/-- 'out = append(out, c)', out a row of bytes of the call's own. -/
theorem app_byte {ops : Array Oper} {rest : List Oper} {o : Oper} {a : Act} {Q : Exit → Act → World → Prop} (hgd : o.guard = none) (s x : Operand)
    (ho : o.op = .call { callee := .builtin .append, args := #[s, x], argTypes := #[57, 57] }) (base : Nat) (W : World) (v : Value) (l : List UInt8) (c : UInt8) (z : Int) (hz : z = (c.toNat : Nat))
    (hs : a.eval s = v) (hx : a.eval x = .slice (some ⟨W.heap.size, 0, none⟩) 1 1) (hown : W.ownsRow base 5 1 v l.length (bl l)) (hn : l.length < 8000000000000) (hbase : base ≤ W.heap.size)
    (h : ∀ v' w', w'.ownsRow base 5 1 v' (l ++ [c]).length (bl (l ++ [c])) → W.grownBy w' v.ownBlock → wpList Tryz.prog ops Q rest (a.put o.dst v') w') :
    wpList Tryz.prog ops Q (o :: rest) a (W.alloc (.cells #[.int .u8 z] 5)) := by
  subst hz
  obtain ⟨i0, hi, hz0, hz1, hz2⟩ := info_parts infoB
  refine wpList_append_own _ hgd s x 57 ho base 5 i0 _ 1 1 Tryz.underlying57 hi hz0 hz1 hz2 rfl (by decide) v l.length (bl l) hs (hown.alloc _) ⟨W.heap.size, 0, none⟩ 1 1 (bl [c]) hx rfl (cell_one_new _ _ _) (bl_one [c]) ?_ (by omega) (by simp; omega) ?_
  · unfold maxLen; omega
  · intro v' w' h1 h2 _
    refine h v' w' ?_ ((World.grownBy_alloc W _ _).trans h2)
    have e : bl (l ++ [c]) = bl l ++ bl [c] := by unfold bl; simp
    rw [e, List.length_append]
    exact h1

/-! lines.Fold -/
/-- a byte, folded as far as place k. -/
def fb (s : ByteArray) (k j : Nat) : Nat := if j < k then bt (foldS s) j else bt s j
def FHead (s : ByteArray) (w : World) (t : Value) (W : World) : Prop :=
  ∃ k : Nat, k ≤ s.size ∧ t = .int .i64 k ∧ (∀ j, j < s.size → W.cell? ⟨w.heap.size, j, none⟩ = some (.int .u8 (fb s k j)) ∧ W.frozen? ⟨w.heap.size, j, none⟩ = false) ∧ Below w.heap.size w W
theorem fhead_keep {s : ByteArray} {w W : World} {k : Nat} (hk : k < s.size) (hc : ∀ j, j < s.size → W.cell? ⟨w.heap.size, j, none⟩ = some (.int .u8 (fb s k j)) ∧ W.frozen? ⟨w.heap.size, j, none⟩ = false) (hb : Below w.heap.size w W) (hn : ¬ (65 ≤ bt s k ∧ bt s k ≤ 90)) :
    FHead s w (.int .i64 ((k : Int) + 1)) W := by
  refine ⟨k + 1, hk, rfl, fun j hj => ?_, hb⟩
  obtain ⟨h1, h2⟩ := hc j hj
  refine ⟨h1.trans ?_, h2⟩
  have e : fb s k j = fb s (k + 1) j := by
    unfold fb
    by_cases h : j = k
    · subst h
      rw [if_neg (Nat.lt_irrefl _), if_pos (Nat.lt_succ_self _), fold_bt s j hk, if_neg hn]
    · by_cases h' : j < k
      · rw [if_pos h', if_pos (by omega)]
      · rw [if_neg h', if_neg (by omega)]
  rw [e]
theorem fhead_set {s : ByteArray} {w W : World} {k : Nat} (hk : k < s.size) (hc : ∀ j, j < s.size → W.cell? ⟨w.heap.size, j, none⟩ = some (.int .u8 (fb s k j)) ∧ W.frozen? ⟨w.heap.size, j, none⟩ = false) (hb : Below w.heap.size w W) (hn : 65 ≤ bt s k ∧ bt s k ≤ 90) :
    FHead s w (.int .i64 ((k : Int) + 1)) (W.setCell ⟨w.heap.size, k, none⟩ (.int .u8 ((bt s k : Int) - 65 + 97))) := by
  refine ⟨k + 1, hk, rfl, fun j hj => ?_, hb.setCell (p := ⟨w.heap.size, k, none⟩) (Nat.le_refl _) _⟩
  obtain ⟨h1, h2⟩ := hc j hj
  have fz : (W.setCell ⟨w.heap.size, k, none⟩ (.int .u8 ((bt s k : Int) - 65 + 97))).frozen? ⟨w.heap.size, j, none⟩ = false := by
    simpa using h2
  refine ⟨?_, fz⟩
  by_cases h : j = k
  · subst h
    rw [World.cell?_setCell_same _ _ _ h1]
    unfold fb
    rw [if_pos (Nat.lt_succ_self _), fold_bt s j hk, if_pos hn]
    congr 2
    omega
  · rw [World.cell?_setCell_other _ _ _ _ (by simp), h1]
    unfold fb
    by_cases h' : j < k
    · rw [if_pos h', if_pos (by omega)]
    · rw [if_neg h', if_neg (by omega)]
set_option maxHeartbeats 1000000 in
theorem fold_at (s : ByteArray) (w : World) (hs : s.size < 4294967281) : Calls Tryz.prog 32 #[.string s] w fun e w' => e = .returned (.string (foldS s)) ∧ Below w.heap.size w w' := by
  have hto := to_bytes w s
  go_enter Tryz.func32, Tryz.ntmps32
  go_wp2
  go_loopw [10] (fun t W => FHead s w t W) (fun t _ => s.size - (intOf t).toNat)
  case atStart => exact ⟨0, by omega, rfl, fun j hj => ⟨bw_cell w s j hj, bw_frozen w s j hj⟩, bw_below w s⟩
  case round =>
    obtain ⟨k, hk, rfl, hc, hb⟩ := hrel
    clear hto
    by_cases hlt : k < s.size
    · have hcell : wr.cell? ⟨w.heap.size, k, none⟩ = some (.int .u8 (bt s k)) := by
        rw [(hc k hlt).1]
        unfold fb
        rw [if_neg (Nat.lt_irrefl _)]
      have hfr := (hc k hlt).2
      have bl := bt_lt s k
      by_cases hd : 65 ≤ bt s k ∧ bt s k ≤ 90
      · have R := Lib.hid (fhead_set hlt hc hb hd)
        clear hc
        obtain ⟨d1, d2⟩ := hd
        go_wp2
        go_roundw
        case rel => exact R.out
        case measure => simp [intOf]; omega
      · have R := Lib.hid (fhead_keep hlt hc hb hd)
        clear hc
        by_cases d1 : 65 ≤ bt s k
        · have d2 : 90 < bt s k := by omega
          clear hd
          go_wp2
          go_roundw
          case rel => exact R.out
          case measure => simp [intOf]; omega
        · have d2 : bt s k < 65 := by omega
          clear hd
          go_wp2
          go_roundw
          case rel => exact R.out
          case measure => simp [intOf]; omega
    · obtain rfl : s.size = k := by omega
      have hfrom := from_bytes wr (foldS s) w.heap.size s.size (bcap w s) (fold_size s) (fun j hj => by
        rw [fold_size] at hj
        rw [(hc j hj).1]
        unfold fb
        rw [if_pos hj])
      clear hc
      go_wp2
      go_ret
      exact ⟨rfl, hb⟩
theorem fold_on {w : World} (W : World) (hb : Below w.heap.size w W) (s : ByteArray) (hs : s.size < 4294967281) : Calls Tryz.prog 32 #[.string s] W fun e w' => e = .returned (.string (foldS s)) ∧ Below w.heap.size w w' :=
  (fold_at s W hs).mono fun e w' ⟨he, hw⟩ => ⟨he, hb.trans (hw.mono hb.size)⟩
end Go.Proofs.YtiboijhfieaepaaGreatDoor.lines
