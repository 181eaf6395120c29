/-
  A strings.Builder that the call has made itself, by its bytes: the library's copyCheck, WriteByte and WriteString are walked here; String by the kit's contract. Conditions: as said.
-/
import Derived.Test.YtkdmecpelfcbmaaLinesMem
import Derived.Test.YtkdmecpelfcbmaaShelf
import Derived.Test.YtkdmecpelfcbmaaMem
import Derived.Lib.Builder
import Derived.Lib.Walk
import Derived.Lib.AppendStr
import Derived.Lib.UnsafeStr
import Derived.Laws.Externs
namespace Go.Proofs.Ytkdmecpelfcbmaa.bldr
open Go.ChangeShapes Go.WideShapes Go.ChangeAt Go.RowKit
open lx mem
open Go.Lib (byteCells byteCells_length)
set_option linter.unusedVariables false
set_option maxRecDepth 100000

def Own (base : Nat) (W : World) (v : Value) (l : List UInt8) : Prop := W.ownsRow base 5 1 v l.length (byteCells l)
def Bld (B b : Nat) (l : List UInt8) (w : World) : Prop := Lib.IsBuilder 83 5 B b (byteCells l) w
def BldAt (B b : Nat) (l : List UInt8) (w : World) : Prop := Lib.BuilderAt 83 5 B b (.pointer (some ⟨b, 0, none⟩)) (byteCells l) w
theorem cells_app (l m : List UInt8) : byteCells l ++ byteCells m = byteCells (l ++ m) := by simp [byteCells]
theorem cells_one (l : List UInt8) : ∀ u ∈ byteCells l, u.oneCell' = true := by
  intro u hu
  obtain ⟨x, _, rfl⟩ := List.mem_map.1 hu
  rfl
theorem own_lt {base : Nat} {W : World} {v : Value} {l : List UInt8} (h : Own base W v l) (k : Nat) (hk : v.ownBlock = some k) : base ≤ k := by
  rcases h.2 with ⟨rfl, _⟩ | ⟨g, cap, cur, rfl, hb, _⟩
  · cases hk
  · cases hk
    exact hb
theorem own_below {base : Nat} {w W W' : World} {v : Value} {l : List UInt8} (ho : Own base W v l) (hb : Below base w W) (hbs : base ≤ W.heap.size) (hg : W.grownBy W' v.ownBlock) : Below base w W' := hb.grown hg hbs (fun k hk => own_lt ho k hk)
theorem row_keep {B0 : Nat} {e : TypeId} {k : Nat} {v : Value} {n : Nat} {xs : List Value} {W W' : World} (h : W.ownsRow B0 e k v n xs) (hb : Below W.heap.size W W') : W'.ownsRow B0 e k v n xs := by
  refine ⟨h.1, ?_⟩
  rcases h.2 with h | ⟨g, cap, c, hv, hb0, hh, r⟩
  · exact .inl h
  · exact .inr ⟨g, cap, c, hv, hb0, kept hh hb, r⟩
theorem app_byte {ops : Array Oper} {rest : List Oper} {o : Oper} {a : Act} {Q : Exit → Act → World → Prop} (hgd : o.guard = none) (s x : Operand)
    (ho : o.op = .call { callee := .builtin .append, args := #[s, x], argTypes := #[29, 29] }) (base : Nat) (W : World) (v : Value) (l : List UInt8) (c : UInt8) (z : Int) (hz : z = (c.toNat : Nat))
    (hs : a.eval s = v) (hx : a.eval x = .slice (some ⟨W.heap.size, 0, none⟩) 1 1) (hown : Own base W v l) (hn : l.length < 8000000000000) (hbase : base ≤ W.heap.size)
    (h : ∀ g cap w', Own base w' (.slice (some ⟨g, 0, none⟩) (l ++ [c]).length cap) (l ++ [c]) → W.grownBy w' v.ownBlock → wpList Try.prog ops Q rest (a.put o.dst (.slice (some ⟨g, 0, none⟩) (l ++ [c]).length cap)) w') :
    wpList Try.prog ops Q (o :: rest) a (W.alloc (.cells #[.int .u8 z] 5)) := by
  subst hz
  obtain ⟨i0, hi, hz0, hz1, hz2⟩ := info_parts lines.infoB
  refine wpList_append_own _ hgd s x 29 ho base 5 i0 _ 1 1 Try.underlying29 hi hz0 hz1 hz2 rfl (by decide) v l.length (byteCells l) hs (row_keep hown (bal (Below.refl _ _) _)) ⟨W.heap.size, 0, none⟩ 1 1 (byteCells [c]) hx rfl (cell_one_new _ _ _) (cells_one [c]) ?_ (by omega) (by simp; omega) ?_
  · unfold maxLen; omega
  · intro v' w' h1 h2 _
    have h1' : Own base w' v' (l ++ [c]) := by
      unfold Own
      rw [← cells_app, List.length_append]
      exact h1
    obtain ⟨g, cap, rfl⟩ : ∃ g cap, v' = .slice (some ⟨g, 0, none⟩) (l ++ [c]).length cap := by
      rcases h1'.2 with ⟨_, k⟩ | ⟨g, cap, cur, k, _⟩
      · simp at k
      · exact ⟨g, cap, k⟩
    exact h g cap w' h1' ((World.grownBy_alloc W _ _).trans h2)
theorem app_str {ops : Array Oper} {rest : List Oper} {o : Oper} {a : Act} {Q : Exit → Act → World → Prop} (hgd : o.guard = none) (sl x : Operand)
    (ho : o.op = .call { callee := .builtin .append, args := #[sl, x], argTypes := #[29, 9] }) (base : Nat) (W : World) (v : Value) (l : List UInt8) (s : ByteArray)
    (hs : a.eval sl = v) (hx : a.eval x = .string s) (hown : Own base W v l) (hn : l.length + s.size < 8000000000000) (hbase : base ≤ W.heap.size)
    (h : ∀ A cap w', Own base w' (.slice A (l ++ L s).length cap) (l ++ L s) → W.grownBy w' v.ownBlock → wpList Try.prog ops Q rest (a.put o.dst (.slice A (l ++ L s).length cap)) w') :
    wpList Try.prog ops Q (o :: rest) a W := by
  obtain ⟨i0, hi, hz0, hz1, hz2⟩ := info_parts lines.infoB
  refine Lib.wpList_append_own_string _ hgd sl x 29 9 ho base 5 i0 Try.underlying29 Try.underlying9 hi hz0 hz1 hz2 v l.length (byteCells l) hs hown s hx (by unfold maxLen; omega) (by omega) hbase ?_
  intro v' w' h1 h2 _
  have h1' : Own base w' v' (l ++ L s) := by
    unfold Own
    rw [← cells_app, List.length_append, L_len]
    exact h1
  obtain ⟨A, cap, rfl⟩ : ∃ A cap, v' = .slice A (l ++ L s).length cap := by
    rcases h1'.2 with ⟨k, z⟩ | ⟨g, cap, cur, k, _⟩
    · exact ⟨none, 0, by rw [z]; exact k⟩
    · exact ⟨_, cap, k⟩
  exact h A cap w' h1' h2
theorem szBuilder : (Try.prog.info? 83).map (·.size) = some 2 := by kernel_rfl
set_option maxHeartbeats 1000000 in
theorem check_used (b : Nat) (w : World) (h0 : w.cell? ⟨b, 0, none⟩ = some (.pointer (some ⟨b, 0, none⟩))) :
    Calls Try.prog 58 #[.pointer (some ⟨b, 0, none⟩)] w fun e w' => e = .returned (.tuple #[]) ∧ w = w' := by
  obtain ⟨j, hj, _⟩ := Option.map_eq_some_iff.1 szBuilder
  go_enter Try.func58, Try.ntmps58
  go_wp2
  rw [Lib.run_neq_ptr_same w _ Try.underlying81 hj]
  go_wp2
  go_end0
  exact ⟨rfl, rfl⟩
set_option maxHeartbeats 1000000 in
theorem check_fresh (b : Nat) (w : World) (h0 : w.cell? ⟨b, 0, none⟩ = some (.pointer none)) (hsh : w.shape? b = some (83, 2)) (hfz : w.frozen? ⟨b, 0, none⟩ = false) :
    Calls Try.prog 58 #[.pointer (some ⟨b, 0, none⟩)] w fun e w' => e = .returned (.tuple #[]) ∧ w' = w.setCell ⟨b, 0, none⟩ (.pointer (some ⟨b, 0, none⟩)) := by
  obtain ⟨j, hj, hjs⟩ := Option.map_eq_some_iff.1 szBuilder
  go_enter Try.func58, Try.ntmps58
  go_wp2
  rw [Lib.run_to_unsafe w ⟨b, 0, none⟩ Try.underlying81 Try.underlying111 hj (by rw [hjs]; decide) hsh (Nat.zero_lt_succ 1)]
  simp only [Result.andThen]
  rw [Oper.upon_value]
  go_wp2
  rw [run_callFunc_extern Try.func65 (by kernel_rfl) (by kernel_rfl) (by kernel_rfl) (e := Extern.AbiNoEscape.same) (by kernel_rfl), Lib.run_noEscape]
  simp only [Result.andThen]
  rw [Oper.upon_value]
  go_wp2
  rw [Lib.run_from_unsafe w ⟨b, 0, none⟩ Try.underlying111 Try.underlying81 hj hsh (by kernel_rfl)]
  simp only [Result.andThen]
  rw [Oper.upon_value]
  go_wp2
  go_end0
  exact ⟨rfl, rfl⟩
theorem check_any (B b : Nat) (l : List UInt8) (w : World) (h : Bld B b l w) :
    Calls Try.prog 58 #[.pointer (some ⟨b, 0, none⟩)] w fun e w' => e = .returned (.tuple #[]) ∧ BldAt B b l w' ∧ Below B w w' := by
  rcases h with h | h
  · exact (check_fresh b w h.cell0 h.shape h.frozen0).mono fun e w' ⟨he, hw⟩ => ⟨he, by rw [hw]; exact h.used _, by rw [hw]; exact (Below.refl B w).setCell (p := ⟨b, 0, none⟩) h.1 _⟩
  · exact (check_used b w h.cell0).mono fun e w' ⟨he, hw⟩ => ⟨he, by rw [← hw]; exact h, by rw [← hw]; exact Below.refl _ _⟩
theorem wrote {b : Nat} {w1 w2 : World} {v : Value} (hbk : w1.heap[b]? = some (.cells #[.pointer (some ⟨b, 0, none⟩), v] 83 (0, 0))) (hne : v.ownBlock ≠ some b) (hg : w1.grownBy w2 v.ownBlock) :
    Hid (w2.heap[b]? = some (.cells #[.pointer (some ⟨b, 0, none⟩), v] 83 (0, 0))) ∧ w2.cell? ⟨b, 0, none⟩ = some (.pointer (some ⟨b, 0, none⟩)) ∧ w2.cell? ⟨b, 1, none⟩ = some v ∧ w2.frozen? ⟨b, 1, none⟩ = false := by
  have h2 : w2.heap[b]? = some (.cells #[.pointer (some ⟨b, 0, none⟩), v] 83 (0, 0)) := by
    rw [hg.block b (Array.getElem?_eq_some_iff.1 hbk).1 (fun e => hne e.symm)]; exact hbk
  exact ⟨h2, row_cell h2 0, row_cell h2 1, frozen_of_row _ _ _ _ _ h2⟩
theorem opened {B b : Nat} {l : List UInt8} {w1 : World} (h1 : BldAt B b l w1) : B ≤ b ∧ ∃ v, w1.cell? ⟨b, 0, none⟩ = some (.pointer (some ⟨b, 0, none⟩)) ∧ w1.cell? ⟨b, 1, none⟩ = some v ∧ Hid (Own B w1 v l) ∧ Hid (w1.heap[b]? = some (.cells #[.pointer (some ⟨b, 0, none⟩), v] 83 (0, 0))) ∧ Hid (v.ownBlock ≠ some b) := by
  obtain ⟨hBb, v, hbk, hown, hne⟩ := h1
  rw [byteCells_length] at hown
  exact ⟨hBb, v, row_cell hbk 0, row_cell hbk 1, hown, hbk, hne⟩
theorem put_at {B b : Nat} {w2 : World} {v v' : Value} {l : List UInt8} (hB : B ≤ b) (hbk : w2.heap[b]? = some (.cells #[.pointer (some ⟨b, 0, none⟩), v] 83 (0, 0))) (ho : Own B w2 v' l) : BldAt B b l (w2.setCell ⟨b, 1, none⟩ v') :=
  Lib.BuilderAt.put hB hbk (by rw [byteCells_length]; exact ho) (by decide)
set_option maxHeartbeats 1000000 in
theorem string_any (B b : Nat) (l : List UInt8) (s : ByteArray) (w : World) (h : Bld B b l w) (hl : l.length < 10000000) (hs : s.size < 10000000) (hB : B ≤ w.heap.size) :
    Calls Try.prog 46 #[.pointer (some ⟨b, 0, none⟩), .string s] w fun e w' => e = .returned (.tuple #[.int .i64 (s.size : Nat), .nilIface]) ∧ BldAt B b (l ++ L s) w' ∧ Below B w w' := by
  have C := Lib.hid (check_any B b l w h)
  clear h
  go_enter Try.func46, Try.ntmps46
  go_wp2_with (first
    | (go_at_call 58; (with_reducible refine C.out.mono ?_); rintro e w1 ⟨rfl, h1, hb1⟩; obtain ⟨hBb, v, c0, c1, HO, HK, HN⟩ := opened h1; have hs1 := hb1.size)
    | (at_builtin; refine app_str rfl _ _ rfl B w1 v l s rfl rfl HO.out (by omega) (by omega) ?_; intro A2 cap2 w2 ho2 hg2; obtain ⟨K2, d0, d1, f1⟩ := wrote HK.out HN.out hg2))
  go_ret2
  exact ⟨rfl, put_at hBb K2.out (by simpa using ho2), (own_below HO.out hb1 (by omega) hg2).setCell (p := ⟨b, 1, none⟩) hBb _⟩
theorem bat_below {T e : TypeId} {B b : Nat} {p : Value} {l : List Value} {W W' : World} (h : Lib.BuilderAt T e B b p l W) (hb : Below W.heap.size W W') : Lib.BuilderAt T e B b p l W' := by
  obtain ⟨hB, v, hbk, hown, hne⟩ := h
  exact ⟨hB, v, kept hbk hb, row_keep hown hb, hne⟩

/-! one that was made at block g, as the call had come to the world Wa -/
def WB (g : Nat) (Wa : World) (l : List UInt8) (W : World) : Prop := Bld g g l W ∧ Below g Wa W ∧ g ≤ W.heap.size
theorem wb_call {g : Nat} {Wa W W' : World} {l : List UInt8} (h : WB g Wa l W) (hb : Below W.heap.size W W') : WB g Wa l W' :=
  ⟨h.1.elim (fun k => .inl (bat_below k hb)) (fun k => .inr (bat_below k hb)), h.2.1.trans (hb.mono h.2.2), Nat.le_trans h.2.2 hb.size⟩
theorem wb_str {g : Nat} {Wa W : World} {l : List UInt8} (h : WB g Wa l W) (x : List UInt8) (hl : l.length ≤ 1000000) (hx : x.length ≤ 1000000) :
    Calls Try.prog 46 #[.pointer (some ⟨g, 0, none⟩), .string (B x)] W fun e w' => (∃ n : Nat, e = .returned (.tuple #[.int .i64 n, .nilIface])) ∧ WB g Wa (l ++ x) w' := by
  refine (string_any g g l (B x) W h.1 (by omega) (by rw [B_size]; omega) h.2.2).mono ?_
  rintro e w' ⟨rfl, h1, h2⟩
  rw [L_B] at h1
  exact ⟨⟨_, rfl⟩, .inr h1, h.2.1.trans h2, Nat.le_trans h.2.2 h2.size⟩
theorem wb_text {g : Nat} {Wa W : World} {l : List UInt8} (h : WB g Wa l W) : Calls Try.prog 47 #[.pointer (some ⟨g, 0, none⟩)] W fun e w' => e = .returned (.string (B l)) ∧ Below g Wa w' := by
  refine (Try.Builder_String_any g g l W h.1 h.2.2).mono ?_
  rintro e w' ⟨rfl, h2⟩
  exact ⟨rfl, h.2.1.trans h2⟩
theorem wb_new (w : World) : WB w.heap.size w [] (w.alloc (.cells #[.pointer none, .slice none 0 0] 83)) :=
  ⟨Lib.fresh_isBuilder 83 5 w, (Below.refl _ _).alloc (by simp) _, by simp⟩
end Go.Proofs.Ytkdmecpelfcbmaa.bldr
