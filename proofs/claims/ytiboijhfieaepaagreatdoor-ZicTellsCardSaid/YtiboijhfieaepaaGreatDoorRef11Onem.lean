/-
  The document's own reader of a line, layer 11: any line. Conditions: texts of at most 300000 bytes.
-/
import Derived.Test.YtiboijhfieaepaaGreatDoorRef11OneFm
import Derived.Test.YtiboijhfieaepaaGreatDoorRef11OneTm
namespace Go.Proofs.YtiboijhfieaepaaGreatDoor.ref11
open Go.ChangeShapes Go.WideShapes Go.ChangeAt Go.RowKit
open lx zs mem cal
open zic (Wds Small lit_is head_g lw_small)
set_option linter.unusedVariables false
set_option maxRecDepth 100000

theorem read_at (s : ByteArray) (w : World) (hs : s.size ≤ 300000) : Calls Tryz.prog 23 #[.string s] w fun e w' => e = .returned (.agg (rowC (zic.wl s))) ∧ Below w.heap.size w w' := by
  have h := kd_le (zic.wl s)
  rcases (show kd (zic.wl s) = 0 ∨ kd (zic.wl s) = 1 ∨ kd (zic.wl s) = 2 ∨ kd (zic.wl s) = 3 by omega) with k | k | k | k
  · exact read_none s w hs k
  · cases hg : moT (mo (zic.wl s)) with
    | true => exact read_one_t s w hs k hg
    | false => exact read_one_f s w hs k hg
  · exact read_two s w hs k
  · exact read_bad s w hs k
end Go.Proofs.YtiboijhfieaepaaGreatDoor.ref11
