/-
  What lines.Split answers: the lines of a text, in new memory. Conditions: the library's variable MaxLen holds some number; the text has fewer than 2^32 - 15 bytes.
-/
import Derived.Test.YtiboijhfieaepaaGreatDoorLinesMem
namespace Go.Proofs.YtiboijhfieaepaaGreatDoor.lines
open Go.ChangeShapes Go.WideShapes Go.ChangeAt Go.RowKit
open lx
set_option linter.unusedVariables false
set_option maxRecDepth 100000

/-- what a function that answers a row of texts leaves. -/
def Told (W : World) (l : List ByteArray) (e : Ending) (w' : World) : Prop := ∃ A c, e = .returned (.slice A l.length c) ∧ Strs w' A l ∧ (l.length ≤ c ∧ ∀ b o, A = some ⟨b, o, none⟩ → W.heap.size ≤ b) ∧ Below W.heap.size W w'
def szOf : Value → Nat
  | .string s => s.size
  | _ => 0
/-- at the head of a round. -/
def SHead (s : ByteArray) (w : World) (t v : Value) (W : World) : Prop :=
  ∃ (r : ByteArray) (ls : List ByteArray) (x : Value), t = .string r ∧ x = v ∧ W.ownsRow w.heap.size 9 1 v ls.length (ls.map Value.string) ∧ ls.map L ++ spl [] (L r) = spl [] (L s) ∧ ls.length + r.size ≤ s.size ∧ Below w.heap.size w W
theorem shead_step {s : ByteArray} {w W W1 : World} {v v' : Value} {ls : List ByteArray} {r x r' : ByteArray} (e : ls.map L ++ spl [] (L r) = spl [] (L s)) (ex : spl [] (L r) = trim (L x) :: spl [] (L r')) (hz : ls.length + r.size ≤ s.size) (hr : r'.size < r.size)
    (ho : W.ownsRow w.heap.size 9 1 v ls.length (ls.map Value.string)) (hb : Below w.heap.size w W)
    (ho' : W1.ownsRow w.heap.size 9 1 v' (ls ++ [B (trim (L x))]).length ((ls ++ [B (trim (L x))]).map Value.string)) {n : Nat} (hg : (W.drewN n).grownBy W1 v.ownBlock) : SHead s w (.string r') v' W1 := by
  refine ⟨r', ls ++ [B (trim (L x))], v', rfl, rfl, ho', ?_, by simp; omega, (below_drewN hb n).grown hg hb.size fun k hk => (ho.lt k hk).1⟩
  rw [← e, ex, List.map_append, List.map_cons, L_B, List.map_nil, List.append_assoc, List.singleton_append]
theorem split_end {s : ByteArray} {w W : World} {v : Value} {ls : List ByteArray} {r : ByteArray} (e : ls.map L ++ spl [] (L r) = spl [] (L s)) (h0 : r.size = 0) (ho : W.ownsRow w.heap.size 9 1 v ls.length (ls.map Value.string)) (hb : Below w.heap.size w W) :
    Told w (splitS s) (.returned v) W := by
  obtain rfl := tl_nil h0
  have e2 : splitS s = ls := by
    unfold splitS
    rw [← e, show spl [] (L ⟨#[]⟩) = [] from rfl, List.append_nil, map_BL]
  rw [e2]
  obtain ⟨A, c, rfl, hs, hc⟩ := Strs.of_own ho
  exact ⟨A, c, rfl, hs, ⟨hc, fun b o e => (ho.lt b (by rw [e]; rfl)).1⟩, hb⟩

set_option maxHeartbeats 1000000 in
theorem split_at (s : ByteArray) (w : World) (T : ML w) (hs : s.size < 4294967281) : Calls Tryz.prog 15 #[.string s] w (Told w (splitS s)) := by
  go_enter Tryz.func15, Tryz.ntmps15
  go_wp2
  go_loopw [0, 3] (fun t v W => SHead s w t v W) (fun t _ _ => szOf t)
  case atStart => exact ⟨s, [], _, rfl, rfl, World.ownsRow_nil _ _ _ _, rfl, by simp, Below.refl _ _⟩
  case round =>
    obtain ⟨r, ls, v, rfl, rfl, ho, e, hz, hb⟩ := hrel
    have HO := fun n => Lib.hid (show (wr.drewN n).ownsRow w.heap.size 9 1 v ls.length (ls.map Value.string) from ho)
    by_cases h0 : r.size = 0
    · have E := Lib.hid (split_end e h0 ho hb)
      obtain rfl := tl_nil h0
      clear e
      go_wp2
      go_ret
      exact E.out
    · have t1 := tl_ne (show 0 < r.size by omega)
      have E := Lib.hid e
      have Tr := T.below hb
      rcases hit_or r lf with hm | ⟨i, hi2⟩
      · have C := Lib.hid (lf_miss_on Tr r (by omega) hm)
        have R := Lib.hid (fun W => ts_is r W (by omega))
        have X : Hid (spl [] (L r) = trim (L r) :: spl [] (L ⟨#[]⟩)) := lf_miss hm h0
        have SZ : Hid ((⟨#[]⟩ : ByteArray).size < r.size) := (show 0 < r.size by omega)
        clear e hm
        go_wp2_with (first
          | (go_at_call 42; (with_reducible refine C.out.mono ?_); rintro e w' ⟨rfl, n, rfl⟩)
          | (go_at_call 43; (with_reducible refine (R.out _).mono ?_); rintro e w' ⟨rfl, rfl⟩)
          | (at_builtin; refine app_one rfl _ _ rfl w.heap.size (wr.drewN _) v ls _ rfl rfl (HO _).out (by omega) hb.size ?_; intro v' w1 ho' hg))
        go_roundw
        case rel => exact shead_step E.out X.out hz SZ.out ho hb ho' hg
        case measure => exact SZ.out
      · have C := Lib.hid (lf_hit_on Tr r i (by omega) hi2)
        have X := Lib.hid (lf_hit hi2)
        have hi3 := hi2.2.1
        have z : lf.size = 1 := rfl
        have SZ : Hid ((r.extract (i + 1) r.size).size < r.size) := by
          show (r.extract (i + 1) r.size).size < r.size
          simp
          omega
        have R := Lib.hid (fun W => ts_is (r.extract 0 i) W (by simp; omega))
        clear e hi2 z
        generalize r.extract 0 i = x at *
        generalize r.extract (i + 1) r.size = r' at *
        go_wp2_with (first
          | (go_at_call 42; (with_reducible refine C.out.mono ?_); rintro e w' ⟨rfl, n, rfl⟩)
          | (go_at_call 43; (with_reducible refine (R.out _).mono ?_); rintro e w' ⟨rfl, rfl⟩)
          | (at_builtin; refine app_one rfl _ _ rfl w.heap.size (wr.drewN _) v ls _ rfl rfl (HO _).out (by omega) hb.size ?_; intro v' w1 ho' hg))
        go_roundw
        case rel => exact shead_step E.out X.out hz SZ.out ho hb ho' hg
        case measure => exact SZ.out
theorem split_on {w : World} (T : ML w) (W : World) (hb : Below w.heap.size w W) (s : ByteArray) (hs : s.size < 4294967281) : Calls Tryz.prog 15 #[.string s] W (Told W (splitS s)) := split_at s W (T.below hb) hs
end Go.Proofs.YtiboijhfieaepaaGreatDoor.lines
