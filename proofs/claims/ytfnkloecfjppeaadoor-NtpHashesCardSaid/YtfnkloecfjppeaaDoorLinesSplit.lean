/-
  What lines.Split answers: the lines of a text, in new memory. Conditions: the library's variable MaxLen holds some number; the text has fewer than 2^32 - 15 bytes.
-/
import Derived.Test.YtfnkloecfjppeaaDoorLinesMem
namespace Go.Proofs.YtfnkloecfjppeaaDoor.lines
open Go.ChangeShapes Go.WideShapes Go.ChangeAt Go.RowKit
open lx
set_option linter.unusedVariables false

/-- what a function that answers a row of texts leaves. -/
def Told (W : World) (l : List ByteArray) (e : Ending) (w' : World) : Prop := ∃ A c, e = .returned (.slice A l.length c) ∧ Strs w' A l ∧ l.length ≤ c ∧ Below W.heap.size W w'
def szOf : Value → Nat
  | .string s => s.size
  | _ => 0
/-- at the head of a round. -/
def SHead (s : ByteArray) (w : World) (t v : Value) (W : World) : Prop :=
  ∃ (r : ByteArray) (ls : List ByteArray) (x : Value), t = .string r ∧ x = v ∧ W.ownsRow w.heap.size 9 1 v ls.length (ls.map Value.string) ∧ ls.map L ++ spl [] (L r) = spl [] (L s) ∧ ls.length + r.size ≤ s.size ∧ Below w.heap.size w W
theorem shead_step {s : ByteArray} {w W W1 : World} {v v' : Value} {ls : List ByteArray} {r x r' : ByteArray} (e : ls.map L ++ spl [] (L r) = spl [] (L s)) (ex : spl [] (L r) = trim (L x) :: spl [] (L r')) (hz : ls.length + r.size ≤ s.size) (hr : r'.size < r.size)
    (ho : W.ownsRow w.heap.size 9 1 v ls.length (ls.map Value.string)) (hb : Below w.heap.size w W)
    (ho' : W1.ownsRow w.heap.size 9 1 v' (ls ++ [B (trim (L x))]).length ((ls ++ [B (trim (L x))]).map Value.string)) {n : Nat} (hg : (W.drewN n).grownBy W1 v.ownBlock) : SHead s w (.string r') v' W1 := by
  refine ⟨r', ls ++ [B (trim (L x))], v', rfl, rfl, ho', ?_, by simp; omega, (below_drewN hb n).grown hg hb.size fun k hk => (ho.lt k hk).1⟩
  rw [← e, ex, List.map_append, List.map_cons, L_B, List.map_nil, List.append_assoc, List.singleton_append]
theorem split_end {s : ByteArray} {w W : World} {v : Value} {ls : List ByteArray} {r : ByteArray} (e : ls.map L ++ spl [] (L r) = spl [] (L s)) (h0 : r.size = 0) (ho : W.ownsRow w.heap.size 9 1 v ls.length (ls.map Value.string)) (hb : Below w.heap.size w W) :
    Told w (splitS s) (.returned v) W := by
  obtain rfl := tl_nil h0
  have e2 : splitS s = ls := by
    unfold splitS
    rw [← e, show spl [] (L ⟨#[]⟩) = [] from rfl, List.append_nil, map_BL]
  rw [e2]
  obtain ⟨A, c, rfl, hs, hc⟩ := Strs.of_own ho
  exact ⟨A, c, rfl, hs, hc, hb⟩

end Go.Proofs.YtfnkloecfjppeaaDoor.lines
