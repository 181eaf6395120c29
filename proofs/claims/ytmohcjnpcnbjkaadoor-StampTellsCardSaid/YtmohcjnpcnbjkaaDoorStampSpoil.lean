/-
  A text with one byte of another kind: the conversions to bytes and back, the memory that they make, and plain facts of the new text. Conditions: as said.
-/
import Derived.Test.YtmohcjnpcnbjkaaDoorStampOrd
import Derived.Test.YtmohcjnpcnbjkaaDoorStampParse
import Derived.Lib.ConvBytes
import Derived.Lib.SlBytesRow
namespace Go.Proofs.YtmohcjnpcnbjkaaDoor.stx
open Go.ChangeShapes Go.WideShapes Go.ChangeAt Go.RowKit
open cal
set_option linter.unusedVariables false

def setB (X : ByteArray) (n : Nat) (c : UInt8) : ByteArray := ⟨X.data.setIfInBounds n c⟩
theorem setB_size (X : ByteArray) (n : Nat) (c : UInt8) : (setB X n c).size = X.size := by
  show (X.data.setIfInBounds n c).size = X.data.size
  simp
theorem setB_same (X : ByteArray) (n : Nat) (c : UInt8) (h : n < X.size) : bt (setB X n c) n = c.toNat := by
  have h' : n < X.data.toList.length := by simpa using h
  simp only [bt, setB, List.getD_eq_getElem?_getD, Array.toList_setIfInBounds]
  rw [List.getElem?_set_self h', Option.getD_some]
theorem setB_other (X : ByteArray) (n j : Nat) (c : UInt8) (h : j ≠ n) : bt (setB X n c) j = bt X j := by
  simp [bt, setB, List.getD_eq_getElem?_getD, Ne.symm h]
theorem setB_id (X : ByteArray) (n : Nat) (c : UInt8) (h : n < X.size) (e : bt X n = c.toNat) : setB X n c = X := by
  have h' : n < X.data.size := h
  have e1 : X.data[n] = c := by
    have := bt_at X n h
    rw [e] at this
    exact UInt8.toNat_inj.1 this
  apply ByteArray.ext
  show X.data.setIfInBounds n c = X.data
  rw [← e1]
  apply Array.ext'
  simp [Array.setIfInBounds]
/-- where a text with one byte of another kind says something else, that byte is a digit. -/
theorem spoiled_digit {X : ByteArray} {n : Nat} {c : UInt8} (hn : n < 20) (hX : FitsAll X) (hY : FitsAll (setB X n c)) (ne : setB X n c ≠ X) : 48 ≤ c.toNat ∧ c.toNat ≤ 57 := by
  have hz := hX.1
  have e := setB_same X n c (by omega)
  by_cases hd : lay n = 48
  · have := fit_dig (hY.2 n hn) hd
    omega
  · have h1 := fit_mark (hY.2 n hn) hd
    have h2 := fit_mark (hX.2 n hn) hd
    exact absurd (setB_id X n c (by omega) (by omega)) ne

/-- what a text says: nothing, or a day and a second. -/
theorem says (t : ByteArray) : (∀ y m d h i x : Int, Vld y m d → Clk h i x → t ≠ txt y m d h i x) ∨ ∃ y m d h i x : Int, Vld y m d ∧ Clk h i x ∧ t = txt y m d h i x := by
  by_cases h : ∃ y m d h i x : Int, Vld y m d ∧ Clk h i x ∧ t = txt y m d h i x
  · exact Or.inr h
  · exact Or.inl fun y m d h' i x v c e => h ⟨y, m, d, h', i, x, v, c, e⟩

/-! the memory -/
def bw (W : World) (X : ByteArray) : World := Lib.bytesWorld W 5 X
def bcap (W : World) (X : ByteArray) : Nat := grownCap W X.size 0 5
def bset (W : World) (X : ByteArray) (n : Nat) (c : UInt8) : World := (bw W X).setCell ⟨W.heap.size, n, none⟩ (.int .u8 c.toNat)
theorem to_bytes (W : World) (X : ByteArray) : (convert 9 35 (.string X)).run Tryd.prog W = .ok (.slice (some ⟨W.heap.size, 0, none⟩) X.size (bcap W X)) (bw W X) :=
  Lib.run_convert_string_bytes W 9 35 5 X Tryd.underlying9 Tryd.underlying35 Tryd.underlying5
theorem bw_cell (W : World) (X : ByteArray) (n : Nat) (h : n < X.size) : (bw W X).cell? ⟨W.heap.size, n, none⟩ = some (.int .u8 (bt X n)) :=
  Lib.bytesWorld_cell W 5 X n h
theorem bw_frozen (W : World) (X : ByteArray) (n : Nat) (h : n < X.size) : (bw W X).frozen? ⟨W.heap.size, n, none⟩ = false := by
  have hn := Lib.bytesWorld_at_new W 5 X
  have hz : X.size ≤ (Lib.bytesCells W 5 X).size := by
    have : X.data.size = X.size := rfl
    simp [Lib.bytesCells, this]
  simp only [bw, World.frozen?, hn]
  simp
  omega
theorem bw_below {w W : World} (hb : Below w.heap.size w W) (X : ByteArray) : Below w.heap.size w (bw W X) := by
  refine hb.trans ⟨rfl, rfl, rfl, ?_, fun j hj => Lib.bytesWorld_at_old W _ X j (Nat.lt_of_lt_of_le hj hb.size)⟩
  have := Lib.bytesWorld_size W 5 X
  show W.heap.size ≤ (bw W X).heap.size
  unfold bw
  omega
theorem bset_below {w W : World} (hb : Below w.heap.size w W) (X : ByteArray) (n : Nat) (c : UInt8) : Below w.heap.size w (bset W X n c) :=
  (bw_below hb X).setCell (p := ⟨W.heap.size, n, none⟩) hb.size _
theorem bset_cell (W : World) (X : ByteArray) (n j : Nat) (c : UInt8) (hn : n < X.size) (h : j < X.size) : (bset W X n c).cell? ⟨W.heap.size, j, none⟩ = some (.int .u8 (bt (setB X n c) j)) := by
  unfold bset
  by_cases e : j = n
  · subst e
    rw [setB_same X j c hn, World.cell?_setCell_same _ _ _ (bw_cell W X j hn)]
  · rw [setB_other X n j c e, World.cell?_setCell_other _ _ _ _ (by simp), bw_cell W X j h]
theorem from_bytes (W : World) (X : ByteArray) (n : Nat) (c : UInt8) (hn : n < X.size) (cap : Nat) :
    (convert 35 9 (.slice (some ⟨W.heap.size, 0, none⟩) X.size cap)).run Tryd.prog (bset W X n c) = .ok (.string (setB X n c)) (bset W X n c) := by
  rw [← setB_size X n c]
  refine Lib.run_convert_whole (bset W X n c) 35 5 9 Tryd.underlying35 Tryd.underlying5 Tryd.underlying9 W.heap.size 0 (setB X n c) ?_ cap
  intro j hj
  rw [Nat.zero_add, bset_cell W X n j c hn (by rw [setB_size] at hj; exact hj), bt_at]
theorem one_byte (W : World) (Y : ByteArray) (n : Nat) (h : n < Y.size) : (Instr.slice 9 (.string Y) (some (.int .i64 n)) (some (.int .i64 ((n : Int) + 1))) none).run Tryd.prog W = .ok (.string (Y.extract n (n + 1))) W := by
  rw [run_slice_string W 9 Y .i64 .i64 n ((n : Int) + 1) Tryd.underlying9 (by omega) (by omega) (by omega)]
  rfl
end Go.Proofs.YtmohcjnpcnbjkaaDoor.stx
