/-
  What package octet's readers answer, call by call. Conditions: the slices that are handed in read as bytes; readers are such as Open made.
-/
import Derived.Test.YtkdmecpelfcbmaaOctRead
namespace Go.Proofs.Ytkdmecpelfcbmaa.oct
open Go.ChangeShapes Go.WideShapes Go.ChangeAt Go.RowKit
open om mem
set_option linter.unusedVariables false
set_option maxRecDepth 100000

/-- a reader: its block, what is left, whether it has failed; all of it lies in blocks from lo on, below hi. -/
def Rdr (T : TypeId) (lo hi : Nat) (W : World) (g : Nat) (l : List Nat) (f : Bool) : Prop :=
  lo ≤ g ∧ g < hi ∧ ∃ v, W.heap[g]? = some (.cells #[v, .bool f] T) ∧ By (fun b => lo ≤ b ∧ b < hi ∧ b ≠ g) W v l
theorem Rdr.below {T : TypeId} {lo hi : Nat} {W W' : World} {g : Nat} {l : List Nat} {f : Bool} (h : Rdr T lo hi W g l f) (hb : Below W.heap.size W W') : Rdr T lo hi W' g l f := by
  obtain ⟨h1, h2, v, h3, h4⟩ := h
  exact ⟨h1, h2, v, kept h3 hb, h4.below hb⟩
theorem Rdr.keep {T : TypeId} {lo hi : Nat} {W W' : World} {g : Nat} {l : List Nat} {f : Bool} (h : Rdr T lo hi W g l f) {k : Nat} (hk : Keep k W W') (hn : k < lo ∨ hi ≤ k) : Rdr T lo hi W' g l f := by
  obtain ⟨h1, h2, v, h3, h4⟩ := h
  refine ⟨h1, h2, v, ?_, h4.keep hk (fun b hb => by omega)⟩
  rw [hk.block g (hp_lt h3) (by omega)]
  exact h3
theorem set_cell0 {W : World} {g : Nat} {v x : Value} {f : Bool} {T : TypeId} (h : W.heap[g]? = some (.cells #[v, .bool f] T)) : (W.setCell ⟨g, 0, none⟩ x).heap[g]? = some (.cells #[x, .bool f] T) :=
  heap_setCell_same W g 0 _ _ _ h
theorem set_cell1 {W : World} {g : Nat} {v x : Value} {f : Value} {T : TypeId} (h : W.heap[g]? = some (.cells #[v, f] T)) : (W.setCell ⟨g, 1, none⟩ x).heap[g]? = some (.cells #[v, x] T) :=
  heap_setCell_same W g 1 _ _ _ h
theorem fz {W : World} {g : Nat} {c : Array Value} {T : TypeId} (h : W.heap[g]? = some (.cells c T)) (j : Nat) : W.frozen? ⟨g, j, none⟩ = false := frozen_of_row W g j c T h
set_option maxHeartbeats 1000000 in
theorem fail_at (W : World) (g : Nat) (v : Value) (f : Bool) (h : W.heap[g]? = some (.cells #[v, .bool f] 98)) : Calls Try.prog 61 #[.pointer (some ⟨g, 0, none⟩)] W fun e w' => e = .returned (.tuple #[]) ∧ w'.heap[g]? = some (.cells #[.slice none 0 0, .bool true] 98) ∧ Keep g W w' := by
  have c0 := row_cell h 0
  have c1 := row_cell h 1
  have f0 := fz h 0
  have f1 := fz h 1
  have R := Lib.hid (show ((W.setCell ⟨g, 0, none⟩ (.slice none 0 0)).setCell ⟨g, 1, none⟩ (.bool true)).heap[g]? = some (.cells #[.slice none 0 0, .bool true] 98) from set_cell1 (set_cell0 h))
  clear h
  go_enter Try.func61, Try.ntmps61
  go_wp2
  go_end0
  exact ⟨rfl, R.out, ((Keep.refl g W).setCell 0 _).setCell 1 _⟩
/-! pieces of a slice -/
set_option maxRecDepth 100000 in
theorem cutH (A : Option Addr) (n c f : Nat) (z : Int) (hz : z = (f : Nat)) (h : f ≤ c) (W : World) : (Instr.slice 29 (.slice A n c) none (some (.int .i64 z)) none).run Try.prog W = .ok (.slice A f c) W := by
  subst hz
  rw [run_slice_h (P := Try.prog) W 29 A n c Try.underlying29 .i64 f (by omega) (by omega)]
  rw [show (Go.sizeOf (Try.prog.elem 29)).run Try.prog W = .ok 1 W by kernel_rfl]
  simp only [Result.andThen, sliced, Int.toNat_natCast, Nat.sub_zero, Nat.zero_mul]
  cases A with
  | none => simp
  | some a => simp [Addr.add]
def tlA (A : Option Addr) (c f : Nat) : Option Addr := if c = f then A else A.map (·.add f)
set_option maxRecDepth 100000 in
theorem cutT (A : Option Addr) (n c f : Nat) (z : Int) (hz : z = (f : Nat)) (h : f ≤ n) (W : World) : (Instr.slice 29 (.slice A n c) (some (.int .i64 z)) none none).run Try.prog W = .ok (.slice (tlA A c f) (n - f) (c - f)) W := by
  subst hz
  rw [run_slice_l (P := Try.prog) W 29 A n c Try.underlying29 .i64 f (by omega) (by omega)]
  rw [show (Go.sizeOf (Try.prog.elem 29)).run Try.prog W = .ok 1 W by kernel_rfl]
  simp only [Result.andThen, sliced, Int.toNat_natCast, Nat.mul_one, tlA]
theorem By.head {P : Nat → Prop} {W : World} {A : Option Addr} {l : List Nat} {c : Nat} (h : By P W (.slice A l.length c) l) (f : Nat) (hf : f ≤ l.length) : By P W (.slice A f c) (l.take f) := by
  rcases h with ⟨e, rfl⟩ | ⟨b, o, cap, e, hc, hp, hr⟩
  · cases e
    obtain rfl : f = 0 := by simpa using hf
    exact Or.inl ⟨rfl, rfl⟩
  · cases e
    refine Or.inr ⟨b, o, _, by rw [List.length_take, Nat.min_eq_left hf], by rw [List.length_take]; omega, hp, fun k hk => ?_⟩
    rw [List.length_take] at hk
    rw [List.getElem_take]
    exact hr k (by omega)
theorem By.tail {P : Nat → Prop} {W : World} {A : Option Addr} {l : List Nat} {c : Nat} (h : By P W (.slice A l.length c) l) (f : Nat) (hf : f ≤ l.length) : By P W (.slice (tlA A c f) (l.length - f) (c - f)) (l.drop f) := by
  rcases h with ⟨e, rfl⟩ | ⟨b, o, cap, e, hc, hp, hr⟩
  · cases e
    obtain rfl : f = 0 := by simpa using hf
    exact Or.inl ⟨rfl, rfl⟩
  · cases e
    unfold tlA
    by_cases hcf : c = f
    · rw [if_pos hcf]
      have e0 : l.drop f = [] := List.drop_eq_nil_of_le (by omega)
      refine Or.inr ⟨b, o, c - f, by rw [List.length_drop], by rw [List.length_drop]; omega, hp, fun k hk => ?_⟩
      rw [List.length_drop] at hk
      omega
    · rw [if_neg hcf]
      refine Or.inr ⟨b, o + f, c - f, by rw [List.length_drop]; simp [Addr.add], by rw [List.length_drop]; omega, hp, fun k hk => ?_⟩
      rw [List.length_drop] at hk
      rw [List.getElem_drop, show o + f + k = o + (f + k) by omega]
      exact hr (f + k) (by omega)
/-! what is next -/
def okB (n : Int) (l : List Nat) : Bool := decide (0 ≤ n ∧ n ≤ l.length)
def pre (n : Int) (l : List Nat) : List Nat := if okB n l = true then l.take n.toNat else []
def rst (n : Int) (l : List Nat) : List Nat := if okB n l = true then l.drop n.toNat else []
def fl (n : Int) (l : List Nat) (f : Bool) : Bool := if okB n l = true then f else true
theorem ok_iff {n : Int} {l : List Nat} : okB n l = true ↔ 0 ≤ n ∧ n ≤ l.length := by unfold okB; simp
theorem ok_no {n : Int} {l : List Nat} : okB n l = false ↔ ¬ (0 ≤ n ∧ n ≤ l.length) := by rw [← ok_iff]; simp
theorem pre_yes {n : Int} {l : List Nat} (h : okB n l = true) : pre n l = l.take n.toNat := if_pos h
theorem rst_yes {n : Int} {l : List Nat} (h : okB n l = true) : rst n l = l.drop n.toNat := if_pos h
theorem fl_yes {n : Int} {l : List Nat} {f : Bool} (h : okB n l = true) : fl n l f = f := if_pos h
theorem pre_no {n : Int} {l : List Nat} (h : okB n l = false) : pre n l = [] := if_neg (by rw [h]; decide)
theorem rst_no {n : Int} {l : List Nat} (h : okB n l = false) : rst n l = [] := if_neg (by rw [h]; decide)
theorem fl_no {n : Int} {l : List Nat} {f : Bool} (h : okB n l = false) : fl n l f = true := if_neg (by rw [h]; decide)
theorem pre_le (n : Int) (l : List Nat) : (pre n l).length ≤ l.length := by unfold pre; split <;> simp [List.length_take]; omega
theorem rst_le (n : Int) (l : List Nat) : (rst n l).length ≤ l.length := by unfold rst; split <;> simp [List.length_drop]
theorem pre_bys {n : Int} {l : List Nat} (h : Bys l) : Bys (pre n l) := by
  unfold pre; split
  · exact h.take _
  · exact bys_nil
theorem rst_bys {n : Int} {l : List Nat} (h : Bys l) : Bys (rst n l) := by
  unfold rst; split
  · exact h.drop _
  · exact bys_nil
def NextTold (lo hi : Nat) (W : World) (g : Nat) (l : List Nat) (f : Bool) (n : Int) (e : Ending) (w' : World) : Prop :=
  ∃ v', e = .returned v' ∧ By (fun b => lo ≤ b ∧ b < hi ∧ b ≠ g) w' v' (pre n l) ∧ Rdr 98 lo hi w' g (rst n l) (fl n l f) ∧ Keep g W w'
set_option maxHeartbeats 1000000 in
theorem next_at (lo hi : Nat) (W : World) (g : Nat) (l : List Nat) (f : Bool) (n : Int) (h : Rdr 98 lo hi W g l f) (hn : I64 n) (hl : l.length < 9000000000000000000) : Calls Try.prog 56 #[.pointer (some ⟨g, 0, none⟩), .int .i64 n] W (NextTold lo hi W g l f n) := by
  obtain ⟨n1, n2⟩ := hn
  obtain ⟨h1, h2, v, hg, hby⟩ := h
  obtain ⟨A, cap, rfl, hc, hA, _⟩ := hby.rd
  have c0 : W.cell? ⟨g, 0, none⟩ = some (.slice A l.length cap) := row_cell hg 0
  have f0 := fz hg 0
  by_cases hok : okB n l = true
  · obtain ⟨k1, k2⟩ := ok_iff.1 hok
    obtain ⟨m, rfl⟩ : ∃ m : Nat, n = m := ⟨n.toNat, by omega⟩
    have q1 := fun W => cutH A l.length cap m (m : Int) rfl (by omega) W
    have q2 := fun W => cutT A l.length cap m (m : Int) rfl (by omega) W
    have R : Hid (NextTold lo hi W g l f m (.returned (.slice A m cap)) (W.setCell ⟨g, 0, none⟩ (.slice (tlA A cap m) (l.length - m) (cap - m)))) := Lib.hid (by
      have K := (Keep.refl g W).setCell 0 (.slice (tlA A cap m) (l.length - m) (cap - m))
      refine ⟨.slice A m cap, rfl, ?_, ⟨h1, h2, .slice (tlA A cap m) (l.length - m) (cap - m), ?_, ?_⟩, K⟩
      · rw [pre_yes hok]; exact (hby.head m (by omega)).keep K (fun b hb => hb.2.2)
      · rw [fl_yes hok]; exact set_cell0 hg
      · rw [rst_yes hok]; exact (hby.tail m (by omega)).keep K (fun b hb => hb.2.2))
    have t : ((m : Int) < 0) = False := by simp
    clear hby hg hok hA h1 h2
    go_enter Try.func56, Try.ntmps56
    go_wp2
    go_ret
    exact R.out
  · have hok' : okB n l = false := by simpa using hok
    have F := Lib.hid (fail_at W g _ f hg)
    have R : Hid (∀ w', w'.heap[g]? = some (.cells #[.slice none 0 0, .bool true] 98) → Keep g W w' → NextTold lo hi W g l f n (.returned (.slice none 0 0)) w') := Lib.hid (by
      intro w' hw K
      refine ⟨.slice none 0 0, rfl, ?_, ⟨h1, h2, .slice none 0 0, ?_, ?_⟩, K⟩
      · rw [pre_no hok']; exact Or.inl ⟨rfl, rfl⟩
      · rw [fl_no hok']; exact hw
      · rw [rst_no hok']; exact Or.inl ⟨rfl, rfl⟩)
    have hno := ok_no.1 hok'
    clear hby hg hok hok' hA h1 h2
    by_cases hn0 : n < 0
    · clear hno
      go_enter Try.func56, Try.ntmps56
      go_wp2_with (go_at_call 61; (with_reducible refine F.out.mono ?_); rintro e w1 ⟨rfl, hw1, hk1⟩; have HW := Lib.hid hw1; have HK := Lib.hid hk1; clear hw1 hk1)
      go_ret
      exact R.out _ HW.out HK.out
    · have hgt : (l.length : Int) < n := by omega
      clear hno
      go_enter Try.func56, Try.ntmps56
      go_wp2_with (go_at_call 61; (with_reducible refine F.out.mono ?_); rintro e w1 ⟨rfl, hw1, hk1⟩; have HW := Lib.hid hw1; have HK := Lib.hid hk1; clear hw1 hk1)
      go_ret
      exact R.out _ HW.out HK.out
end Go.Proofs.Ytkdmecpelfcbmaa.oct
