/-
  What stamp's numbers answers: the six numbers of a row of bytes that fits the layout, and true; noughts and false of any other. No condition.
-/
import Derived.Test.YtmohcjnpcnbjkaaDoorStampShape
import Derived.Test.YtmohcjnpcnbjkaaDoorStamp
import Derived.Lib.OthersKept
namespace Go.Proofs.YtmohcjnpcnbjkaaDoor.stamp
open Go.ChangeShapes Go.WideShapes Go.ChangeAt Go.RowKit
open cal stx
set_option linter.unusedVariables false

def zer : Array Value := #[.int .i64 0, .int .i64 0, .int .i64 0, .int .i64 0, .int .i64 0, .int .i64 0]
def cells (s : ByteArray) (p : Nat) : Array Value := ((got s p).map fun z => Value.int .i64 z).toArray
theorem cells_at (s : ByteArray) (p k : Nat) (h : k < 6) : (cells s p)[k]? = some (.int .i64 ((got s p).getD k 0)) := by
  have hl := got_len s p
  have h' : k < (got s p).length := by omega
  simp [cells, List.getD_eq_getElem?_getD, List.getElem?_eq_getElem h']
theorem cells_dig (s : ByteArray) (p : Nat) (hd : lay p = 48) : (cells s p).setIfInBounds (gk p) (.int .i64 ((got s p).getD (gk p) 0 * 10 + ((bt s p : Int) - 48))) = cells s (p + 1) := by
  unfold cells
  rw [got_dig s p hd]
  apply Array.ext'
  simp [List.map_set]

theorem numbers_size (s : ByteArray) (w : World) (h : s.size ≠ 20) (hm : s.size ≤ 9223372036854775807) :
    Calls Tryd.prog 21 #[.string s] w fun e w' => e = .returned (.tuple #[.agg zer, .bool false]) ∧ Below w.heap.size w w' := by
  have t : ((s.size : Int) != 20) = true := by simp; omega
  clear h
  go_enter Tryd.func21, Tryd.ntmps21
  go_wp2
  exact bodyPost_ret (v := .tuple #[.agg zer, .bool false]) (by simp [results, zer, Tryd.results21, go_sem]) rfl ⟨rfl, ((Below.refl _ _).alloc (Nat.le_refl _) _).alloc (by simp) _⟩

def lays : ByteArray := ⟨#[48, 48, 48, 48, 45, 48, 48, 45, 48, 48, 84, 48, 48, 58, 48, 48, 58, 48, 48, 90]⟩
theorem lays_at (p : Nat) (hp : p < 20) (h : p < lays.size) : (lays[p]'h).toNat = lay p := by
  rcases twenty hp with rfl | rfl | rfl | rfl | rfl | rfl | rfl | rfl | rfl | rfl | rfl | rfl | rfl | rfl | rfl | rfl | rfl | rfl | rfl | rfl <;> rfl
/-- the world at the head of a round. -/
def wat (w : World) (s : ByteArray) (p : Nat) : World := ((w.alloc (.cells zer 38)).alloc (.cells (cells s p) 38)).alloc (.stringIter s p)
theorem next_at (w : World) (s : ByteArray) (c : Array Value) (p : Nat) (ty : TypeId) (h : p < s.size) :
    (Instr.next (.pointer (some ⟨w.heap.size + 1 + 1, 0, none⟩)) true ty).run Tryd.prog (((w.alloc (.cells zer 38)).alloc (.cells c 38)).alloc (.stringIter s p)) =
      .ok (.tuple #[.bool true, .int .i64 p, .int .i32 (Utf8.decode s p).1]) (((w.alloc (.cells zer 38)).alloc (.cells c 38)).alloc (.stringIter s (p + (Utf8.decode s p).2))) := by
  have := run_next_any (P := Tryd.prog) ((w.alloc (.cells zer 38)).alloc (.cells c 38)) s p ty h
  rw [show ((w.alloc (.cells zer 38)).alloc (.cells c 38)).heap.size = w.heap.size + 1 + 1 by simp] at this
  exact this
theorem next_done (w : World) (s : ByteArray) (c : Array Value) (p : Nat) (ty : TypeId) (h : ¬ p < s.size) :
    (Instr.next (.pointer (some ⟨w.heap.size + 1 + 1, 0, none⟩)) true ty).run Tryd.prog (((w.alloc (.cells zer 38)).alloc (.cells c 38)).alloc (.stringIter s p)) =
      .ok (.tuple #[.bool false]) (((w.alloc (.cells zer 38)).alloc (.cells c 38)).alloc (.stringIter s p)) := by
  have := run_next_end (P := Tryd.prog) ((w.alloc (.cells zer 38)).alloc (.cells c 38)) s p ty h
  rw [show ((w.alloc (.cells zer 38)).alloc (.cells c 38)).heap.size = w.heap.size + 1 + 1 by simp] at this
  exact this
theorem wat_pos (w : World) (s : ByteArray) (p : Nat) : (wat w s p).iterPos (w.heap.size + 1 + 1) = p := by
  have := World.iterPos_iter ((w.alloc (.cells zer 38)).alloc (.cells (cells s p) 38)) s p
  rw [show ((w.alloc (.cells zer 38)).alloc (.cells (cells s p) 38)).heap.size = w.heap.size + 1 + 1 by simp] at this
  exact this
/-- a sign at a place that does not fit. -/
theorem misfit {s : ByteArray} {p : Nat} (hp : p < 20) (hs : s.size = 20) (h : ¬ Fits s p) : (lay p = 48 ∧ ((Utf8.decode s p).1 < 48 ∨ 57 < (Utf8.decode s p).1)) ∨ (lay p ≠ 48 ∧ (Utf8.decode s p).1 ≠ lay p) := by
  have hb := bt_at s p (by omega)
  have hl := lay_byte p hp
  unfold Fits at h
  by_cases ha : (s[p]'(by omega)).toNat < 128
  · rw [decode_ascii s p (by omega) ha, hb]
    omega
  · have := (decode_high s p (by omega) (by omega)).1
    omega

theorem cells_all (s : ByteArray) : cells s 20 = #[.int .i64 (rY s), .int .i64 (r2 s 5 6), .int .i64 (r2 s 8 9), .int .i64 (r2 s 11 12), .int .i64 (r2 s 14 15), .int .i64 (r2 s 17 18)] := by
  unfold cells; rw [got_all]; rfl
def ReadTo (s : ByteArray) (w : World) (e : Ending) (w' : World) : Prop :=
  (FitsAll s ∧ e = .returned (.tuple #[.agg #[.int .i64 (rY s), .int .i64 (r2 s 5 6), .int .i64 (r2 s 8 9), .int .i64 (r2 s 11 12), .int .i64 (r2 s 14 15), .int .i64 (r2 s 17 18)], .bool true]) ∨
    ¬ FitsAll s ∧ e = .returned (.tuple #[.agg zer, .bool false])) ∧ Below w.heap.size w w'
def Head (s : ByteArray) (w : World) (k : Value) (W : World) : Prop := ∃ p : Nat, p ≤ 20 ∧ k = .int .i64 (gk p) ∧ W = wat w s p ∧ ∀ j, j < p → Fits s j
theorem bel3 (w : World) (a b c : Obj) : Below w.heap.size w (((w.alloc a).alloc b).alloc c) :=
  (((Below.refl _ _).alloc (Nat.le_refl _) _).alloc (by simp) _).alloc (by simp; omega) _

theorem head_next (w : World) (s : ByteArray) (p : Nat) (hlt : p < 20) (k : Nat) (hk : gk (p + 1) = k) (hf : ∀ j, j < p + 1 → Fits s j) {c : Array Value} :
    Head s w (.int .i64 (k : Nat)) (((w.alloc (.cells #[.int .i64 0, .int .i64 0, .int .i64 0, .int .i64 0, .int .i64 0, .int .i64 0] 38)).alloc (.cells (cells s (p + 1)) 38)).alloc (.stringIter s (p + 1))) ∧
      20 - World.iterPos (((w.alloc (.cells #[.int .i64 0, .int .i64 0, .int .i64 0, .int .i64 0, .int .i64 0, .int .i64 0] 38)).alloc (.cells (cells s (p + 1)) 38)).alloc (.stringIter s (p + 1))) (w.heap.size + 1 + 1) <
        20 - World.iterPos (((w.alloc (.cells #[.int .i64 0, .int .i64 0, .int .i64 0, .int .i64 0, .int .i64 0, .int .i64 0] 38)).alloc (.cells c 38)).alloc (.stringIter s p)) (w.heap.size + 1 + 1) := by
  refine ⟨⟨p + 1, by omega, by rw [hk], rfl, hf⟩, ?_⟩
  have a : World.iterPos (((w.alloc (.cells #[.int .i64 0, .int .i64 0, .int .i64 0, .int .i64 0, .int .i64 0, .int .i64 0] 38)).alloc (.cells c 38)).alloc (.stringIter s p)) (w.heap.size + 1 + 1) = p := by
    have := World.iterPos_iter ((w.alloc (.cells zer 38)).alloc (.cells c 38)) s p
    rw [show ((w.alloc (.cells zer 38)).alloc (.cells c 38)).heap.size = w.heap.size + 1 + 1 by simp] at this
    exact this
  have b := wat_pos w s (p + 1)
  unfold wat zer at b
  omega

set_option maxHeartbeats 4000000 in
theorem numbers_walk (s : ByteArray) (w : World) (h : s.size = 20) :
    Calls Tryd.prog 21 #[.string s] w (ReadTo s w) := by
  have t : ((s.size : Int) != 20) = false := by simp; omega
  have H := Lib.hid h
  clear h
  go_enter Tryd.func21, Tryd.ntmps21
  go_wp2
  go_loopw [5] (fun k W => Head s w k W) (fun _ W => 20 - W.iterPos (w.heap.size + 1 + 1))
  case atStart => exact ⟨0, by omega, rfl, rfl, fun j hj => by omega⟩
  case round =>
    obtain ⟨p, hp, rfl, rfl, hf⟩ := hrel
    have HF := Lib.hid hf
    clear hf
    have MP := Lib.hid (wat_pos w s p)
    unfold wat zer
    by_cases hlt : p < 20
    · have hnx := fun ty => next_at w s (cells s p) p ty (by have := H.out; omega)
      unfold zer at hnx
      have hl := fun h => lays_at p hlt h
      unfold lays at hl
      by_cases hfit : Fits s p
      · have hb := bt_at s p (by have := H.out; omega)
        by_cases hd : lay p = 48
        · have hbd := fit_dig hfit hd
          have hdec := decode_ascii s p (by have := H.out; omega) (by omega)
          rw [hb] at hdec
          rw [hdec] at hnx
          simp only at hnx
          obtain ⟨hk, hk'⟩ := gk_dig p hlt hd
          have HK := Lib.hid hk'
          have hc := cells_at s p (gk p) hk
          have hg := got_bd s p hlt hd HF.out
          have CD := Lib.hid (cells_dig s p hd)
          have HF2 : Hid (∀ j, j < p + 1 → Fits s j) := fun j hj => by
            rcases Nat.lt_or_ge j p with h | h
            · exact HF.out j h
            · obtain rfl : j = p := by omega
              exact hfit
          rw [hd] at hl
          obtain ⟨hb1, hb2⟩ := hbd
          obtain ⟨hg1, hg2⟩ := hg
          clear hdec hb hk' hd hfit HF
          generalize bt s p = B at *
          generalize List.getD (got s p) (gk p) 0 = G at *
          go_wp2
          rw [CD.out]
          exact head_next w s p hlt _ HK.out HF2.out
        · have hbm := fit_mark hfit hd
          have lb := lay_byte p hlt
          have hdec := decode_ascii s p (by have := H.out; omega) (by omega)
          rw [hb, hbm] at hdec
          rw [hdec] at hnx
          simp only at hnx
          obtain ⟨hk, hk'⟩ := gk_mark p hlt hd
          have HK := Lib.hid hk'
          have CM : Hid (cells s p = cells s (p + 1)) := by show cells s p = cells s (p + 1); unfold cells; rw [got_mark s p hd]
          have HF2 : Hid (∀ j, j < p + 1 → Fits s j) := fun j hj => by
            rcases Nat.lt_or_ge j p with h | h
            · exact HF.out j h
            · obtain rfl : j = p := by omega
              exact hfit
          clear hdec hb hk' hfit HF hbm
          generalize lay p = L at *
          have lb2 : L ≤ 90 := by omega
          have t1 : ((L : Int) == 48) = false := by simpa using (show ¬ (L : Int) = 48 by omega)
          have t2 : ((L : Int) != 48) = true := by simpa using (show ¬ (L : Int) = 48 by omega)
          clear lb hd
          go_wp2
          rw [CM.out]
          exact head_next w s p hlt _ HK.out HF2.out
      · have mf := misfit hlt H.out hfit
        have dl := decode_le s p
        have lb := lay_byte p hlt
        have NF : Hid (¬ FitsAll s) := fun k => hfit (k.2 p hlt)
        clear hfit MP
        generalize lay p = L at *
        generalize Utf8.decode s p = D at *
        obtain ⟨r, wd⟩ := D
        simp only at mf dl hnx
        rcases mf with ⟨rfl, mf⟩ | ⟨mf1, mf2⟩
        · go_wp2
          all_goals first
            | (exfalso; omega)
            | exact bodyPost_ret (v := .tuple #[.agg zer, .bool false]) (by simp [results, zer, Tryd.results21, go_sem]) rfl ⟨Or.inr ⟨NF.out, rfl⟩, bel3 _ _ _ _⟩
        · have lb2 : L ≤ 90 := by omega
          have t1 : ((L : Int) == 48) = false := by simpa using (show ¬ (L : Int) = 48 by omega)
          have t2 : ((L : Int) != 48) = true := by simpa using (show ¬ (L : Int) = 48 by omega)
          have t3 : ((r : Int) == (L : Int)) = false := by simp; omega
          clear lb
          go_wp2
          all_goals first
            | (exfalso; omega)
            | exact bodyPost_ret (v := .tuple #[.agg zer, .bool false]) (by simp [results, zer, Tryd.results21, go_sem]) rfl ⟨Or.inr ⟨NF.out, rfl⟩, bel3 _ _ _ _⟩
    · obtain rfl : p = 20 := by omega
      have hnx := fun ty => next_done w s (cells s 20) 20 ty (by have := H.out; omega)
      unfold zer at hnx
      have FA : Hid (FitsAll s) := ⟨H.out, HF.out⟩
      rw [cells_all] at hnx ⊢
      clear MP HF hp hlt
      go_wp2
      exact bodyPost_ret (v := .tuple #[.agg #[.int .i64 (rY s), .int .i64 (r2 s 5 6), .int .i64 (r2 s 8 9), .int .i64 (r2 s 11 12), .int .i64 (r2 s 14 15), .int .i64 (r2 s 17 18)], .bool true]) (by simp [results, Tryd.results21, go_sem]) rfl ⟨Or.inl ⟨FA.out, rfl⟩, bel3 _ _ _ _⟩
end Go.Proofs.YtmohcjnpcnbjkaaDoor.stamp
