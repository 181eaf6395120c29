/-
  What zic.Text answers: the lines of a table (zs.full), where it is right. Conditions: the names of months of package zic, the tables of package day and the library's powers of ten hold what their initialisers lay; the library's variable MaxLen holds some number; the slice reads as the row.
-/
import Derived.Test.YtiboijhfieaepaaGreatDoorZicWrite
namespace Go.Proofs.YtiboijhfieaepaaGreatDoor.zic
open Go.ChangeShapes Go.WideShapes Go.ChangeAt Go.RowKit
open lx zs mem stx
open lm (Lp ce dy st)
open leap (tcs Lps rl)
open bldr (WB wb_call wb_str wb_byte wb_text wb_new)
set_option linter.unusedVariables false
set_option maxRecDepth 100000

theorem txw_snoc (ws : List (List (List UInt8))) (w : List (List UInt8)) : txw (ws ++ [w]) = txw ws ++ (tabs w ++ [10]) := by
  unfold txw
  rw [List.map_append, byl_app]
  unfold byl
  simp
theorem leap_ws {lv : List Lp} (hg : lm.Good lv) {k : Nat} (hk : k < lv.length) : (tabs (wLeap lv k)).length ≤ 200 := by
  have hd := hg.day hk
  obtain ⟨v, _⟩ := dtm_spec (n := dy lv k) (by omega) (by omega)
  have dm := cal.dim_bd (dtm (dy lv k)).1 (dtm (dy lv k)).2.1
  unfold cal.Vld at v
  refine line_ws (by decide) ⟨by omega, by omega, by omega, by omega, by omega, by omega⟩ (fun w hw => ?_) (Nat.le_refl _)
  simp only [List.mem_cons, List.not_mem_nil, or_false] at hw
  rcases hw with rfl | rfl <;> (split <;> decide)
theorem wls_len {lv : List Lp} (hg : lm.Good lv) : ∀ k, k ≤ lv.length → (txw (wls lv k)).length ≤ 201 * k
  | 0, _ => by simp [wls, txw, byl]
  | k + 1, hk => by
    have h1 := wls_len hg k (by omega)
    have h2 := leap_ws hg (k := k) (by omega)
    rw [wls_succ, txw_snoc, List.length_append, List.length_append, List.length_singleton]
    omega
theorem leap_call {g1 : Nat} {w1 wr : World} {lv : List Lp} {k : Nat} (hg : lm.Good lv) (hk : k < lv.length) (hB : WB g1 w1 (txw (wls lv k)) wr) (T : All wr) (o : Obj) (s : Int) (sg lt : ByteArray) (hs : s = if st lv k = -1 then 86399 else 86400)
    (hsg : L sg = if st lv k = -1 then [45] else [43]) (hlt : L lt = if rl lv k = true then [82] else [83]) :
    Calls Tryz.prog 27 #[.pointer (some ⟨g1, 0, none⟩), .string ⟨#[108, 101, 97, 112]⟩, .int .i64 (dy lv k), .int .i64 s, .slice (some ⟨wr.heap.size + 1, 0, none⟩) 2 2] ((wr.alloc o).alloc (.cells #[.string sg, .string lt] 9)) fun e w' => e = .returned (.tuple #[]) ∧ WB g1 w1 (txw (wls lv (k + 1))) w' := by
  have hd := hg.day hk
  have hb : Below wr.heap.size wr ((wr.alloc o).alloc (.cells #[.string sg, .string lt] 9)) := bal (bal (Below.refl _ _) _) _
  have hw := wls_len hg k (by omega)
  have hl := hg.len
  have hsz : (wr.alloc o).heap.size = wr.heap.size + 1 := by simp
  have hn := hp_new (wr.alloc o) (.cells #[.string sg, .string lt] 9)
  rw [hsz] at hn
  have := line_at g1 w1 (txw (wls lv k)) leapL (dy lv k) s (.slice (some ⟨wr.heap.size + 1, 0, none⟩) 2 2) [L sg, L lt] _ (T.below hb) (wb_call hB hb) (by omega) ⟨by decide, by decide, by decide⟩ ⟨by omega, by omega⟩ (by rw [hs]; split <;> omega)
    (.inr ⟨L sg, L lt, wr.heap.size + 1, rfl, rfl, by simp, by rw [B_L]; exact row_cell hn 0, by rw [B_L]; exact row_cell hn 1, by rw [hsg]; split <;> decide, by rw [hlt]; split <;> decide⟩)
  rw [wls_succ, txw_snoc]
  unfold wLeap
  rw [← hs, ← hsg, ← hlt]
  exact this
/-- what Text answers. -/
def TXold (lv : List Lp) (has : Bool) (x : Int) (w : World) (e : Ending) (w' : World) : Prop :=
  Below w.heap.size w w' ∧ ((ce lv has x = 0 ∧ e = .returned (.tuple #[.string (B (txw (full lv has x))), .bool true])) ∨ (ce lv has x ≠ 0 ∧ e = .returned (.tuple #[.string ⟨#[]⟩, .bool false])))
/-- at the head of a round. -/
def XHead (lv : List Lp) (g : Nat) (Wa : World) (i : Value) (W : World) : Prop := ∃ k : Nat, k ≤ lv.length ∧ i = .int .i64 (k : Nat) ∧ WB g Wa (txw (wls lv k)) W
set_option maxHeartbeats 4000000 in
theorem text_at (lv : List Lp) (A : Option Addr) (c : Nat) (has : Bool) (x : Int) (w : World) (T : All w) (hl : Lps w A lv) (hn : lv.length ≤ 9223372036854775807) :
    Calls Tryz.prog 8 #[.agg #[.slice A lv.length c, .bool has, .int .i64 x]] w (TXold lv has x w) := by
  have hb0 : Below w.heap.size w (w.alloc (.cells #[.slice A lv.length c, .bool has, .int .i64 x] 24)) := bal (Below.refl _ _) _
  have RI : Hid (∀ W, Below w.heap.size w W → Calls Tryz.prog 21 #[.agg #[.slice A lv.length c, .bool has, .int .i64 x]] W fun e w' => e = .returned (.bool (ce lv has x == 0)) ∧ Below W.heap.size W w') := fun W hb => leap.right_at lv A c has x W (T.below hb).tabs (hl.below hb) hn
  have HB0 := Lib.hid hb0
  by_cases hc : ce lv has x = 0
  · have hg := lm.good_of hc
    have xb := x_bd hc
    have u : (ce lv has x == 0) = true := by simpa using hc
    rw [u] at RI
    have hcap := hg.len
    have FF : Hid (∀ w1, Below (w.alloc (.cells #[.slice A lv.length c, .bool has, .int .i64 x] 24)).heap.size (w.alloc (.cells #[.slice A lv.length c, .bool has, .int .i64 x] 24)) w1 → ∀ l W, WB w1.heap.size w1 l W →
        Below w.heap.size w W ∧ W.cell? ⟨w.heap.size, 0, none⟩ = some (.slice A lv.length c) ∧ W.cell? ⟨w.heap.size, 1, none⟩ = some (.bool has) ∧ W.cell? ⟨w.heap.size, 2, none⟩ = some (.int .i64 x)) := fun w1 hb1 l W h => by
      have s1 : w.heap.size < w1.heap.size := by have := hb1.size; simp at this; omega
      have hk : W.heap[w.heap.size]? = some (.cells (tcs A lv.length c has x) 24 (0, 0)) := by
        rw [h.2.1.block w.heap.size s1]
        exact kept (hp_new w _) hb1
      obtain ⟨a0, a1, a2⟩ := leap.tcs_cells hk
      exact ⟨(btr hb0 hb1).trans (h.2.1.mono (by omega)), a0, a1, a2⟩
    have HL := Lib.hid (fun W (hb : Below w.heap.size w W) => hl.below hb)
    have HT := Lib.hid (fun W (hb : Below w.heap.size w W) => T.below hb)
    have HG := Lib.hid hg
    have DS := Lib.hid (fun k (hk : k < lv.length) => hg.step hk)
    have WL := Lib.hid (wls_len hg lv.length (Nat.le_refl _))
    have R : Hid (∀ W, Below w.heap.size w W → TXold lv has x w (.returned (.tuple #[.string (B (txw (full lv has x))), .bool true])) W) := fun W hb => ⟨hb, .inl ⟨hc, rfl⟩⟩
    have ST : Hid (∀ g Wa l W, WB g Wa l W → Calls Tryz.prog 28 #[.pointer (some ⟨g, 0, none⟩)] W fun e w' => e = .returned (.string (B l)) ∧ Below g Wa w') := fun g Wa l W h => wb_text h
    have XL : Hid (has = true → ∀ g Wa W, WB g Wa (txw (wls lv lv.length)) W → All W → Calls Tryz.prog 27 #[.pointer (some ⟨g, 0, none⟩), .string ⟨#[101, 120, 112, 105, 114, 101, 115]⟩, .int .i64 (x / 86400), .int .i64 (x % 86400), .slice none 0 0] W fun e w' => e = .returned (.tuple #[]) ∧ WB g Wa (txw (full lv has x)) w') := fun h g Wa W hB T => by
      subst h
      simp only [if_true] at xb
      have := wls_len hg lv.length (Nat.le_refl _)
      have hh := line_at g Wa (txw (wls lv lv.length)) expL (x / 86400) (x % 86400) (.slice none 0 0) [] W T hB (by omega) ⟨by decide, by decide, by decide⟩ ⟨by omega, by omega⟩ ⟨by omega, by omega⟩ (.inl ⟨rfl, rfl⟩)
      have e : full lv true x = wls lv lv.length ++ [wExp x] := rfl
      rw [e, txw_snoc]
      exact hh
    have E0 : Hid (has = false → txw (full lv has x) = txw (wls lv lv.length)) := fun h => by
      subst h
      unfold full
      simp
    have hx0 : has = true → 0 ≤ x ∧ x ≤ 253402300799 := fun h => by
      rw [if_pos h] at xb
      omega
    clear hb0 T hl hc u xb hg
    go_enter Tryz.func8, Tryz.ntmps8
    go_wp2_with (go_at_call 21; with_reducible refine (RI.out _ HB0.out).mono ?_; rintro e w1 ⟨rfl, hb1⟩; have b0 := Lib.hid (wb_new w1); have F := Lib.hid (FF.out w1 hb1); obtain ⟨ex0, c0, c1, c2⟩ := F.out _ _ b0.out)
    clear c0 c1 c2
    have S1 : Hid (w.heap.size < w1.heap.size) := (show w.heap.size < w1.heap.size by have := hb1.size; simp at this; omega)
    generalize hgg : w1.heap.size = g1 at *
    go_loopw [16] (fun i W => XHead lv g1 w1 i W) (fun i _ => lv.length - (intOf i).toNat)
    case atStart => exact ⟨0, Nat.zero_le _, rfl, b0.out⟩
    case round =>
      obtain ⟨k, hk, rfl, hB⟩ := hrel
      obtain ⟨exr, c0, c1, c2⟩ := F.out _ _ hB
      by_cases hlt : k < lv.length
      · obtain ⟨b, o, rfl, hbl, hcell⟩ := HL.out _ exr (by intro e; rw [e] at hlt; simp at hlt)
        obtain ⟨x0, x1, x2⟩ := hcell k hlt
        have hst := DS.out k hlt
        have d1 : decide ((k : Int) < (lv.length : Int)) = true := by simp; omega
        have d2 : decide (k < lv.length) = true := by simp; omega
        have RL : Hid (∀ W, WB g1 w1 (txw (wls lv (k + 1))) W → XHead lv g1 w1 (.int .i64 ((k : Int) + 1)) W) := fun W h => ⟨k + 1, hlt, rfl, h⟩
        have LC := Lib.hid (fun o s sg lt hs hsg hlt' => leap_call HG.out hlt hB (HT.out _ exr) o s sg lt hs hsg hlt')
        clear hcell F HL DS XL ST R E0 hB exr HT RI HB0 FF
        rcases hst with hst | hst <;> cases hr : rl lv k
        all_goals
          rw [hst] at x1 LC
          rw [hr] at x2 LC
          clear hst hr
          generalize dy lv k = D at *
        · have L1 : Hid (∀ o, Calls Tryz.prog 27 #[.pointer (some ⟨g1, 0, none⟩), .string ⟨#[108, 101, 97, 112]⟩, .int .i64 D, .int .i64 86400, .slice (some ⟨wr.heap.size + 1, 0, none⟩) 2 2] ((wr.alloc o).alloc (.cells #[.string ⟨#[43]⟩, .string ⟨#[83]⟩] 9)) fun e w' => e = .returned (.tuple #[]) ∧ WB g1 w1 (txw (wls lv (k + 1))) w') := fun o => LC.out o 86400 ⟨#[43]⟩ ⟨#[83]⟩ rfl rfl rfl
          clear LC
          go_wp2_with (go_at_call 27; with_reducible refine (L1.out _).mono ?_; rintro e w5 ⟨rfl, b5⟩)
          go_roundw
          case rel => exact RL.out _ b5
          case measure => simp [intOf]; omega
        · have L1 : Hid (∀ o, Calls Tryz.prog 27 #[.pointer (some ⟨g1, 0, none⟩), .string ⟨#[108, 101, 97, 112]⟩, .int .i64 D, .int .i64 86400, .slice (some ⟨wr.heap.size + 1, 0, none⟩) 2 2] ((wr.alloc o).alloc (.cells #[.string ⟨#[43]⟩, .string ⟨#[82]⟩] 9)) fun e w' => e = .returned (.tuple #[]) ∧ WB g1 w1 (txw (wls lv (k + 1))) w') := fun o => LC.out o 86400 ⟨#[43]⟩ ⟨#[82]⟩ rfl rfl rfl
          clear LC
          go_wp2_with (go_at_call 27; with_reducible refine (L1.out _).mono ?_; rintro e w5 ⟨rfl, b5⟩)
          go_roundw
          case rel => exact RL.out _ b5
          case measure => simp [intOf]; omega
        · have L1 : Hid (∀ o, Calls Tryz.prog 27 #[.pointer (some ⟨g1, 0, none⟩), .string ⟨#[108, 101, 97, 112]⟩, .int .i64 D, .int .i64 86399, .slice (some ⟨wr.heap.size + 1, 0, none⟩) 2 2] ((wr.alloc o).alloc (.cells #[.string ⟨#[45]⟩, .string ⟨#[83]⟩] 9)) fun e w' => e = .returned (.tuple #[]) ∧ WB g1 w1 (txw (wls lv (k + 1))) w') := fun o => LC.out o 86399 ⟨#[45]⟩ ⟨#[83]⟩ rfl rfl rfl
          clear LC
          go_wp2_with (go_at_call 27; with_reducible refine (L1.out _).mono ?_; rintro e w5 ⟨rfl, b5⟩)
          go_roundw
          case rel => exact RL.out _ b5
          case measure => simp [intOf]; omega
        · have L1 : Hid (∀ o, Calls Tryz.prog 27 #[.pointer (some ⟨g1, 0, none⟩), .string ⟨#[108, 101, 97, 112]⟩, .int .i64 D, .int .i64 86399, .slice (some ⟨wr.heap.size + 1, 0, none⟩) 2 2] ((wr.alloc o).alloc (.cells #[.string ⟨#[45]⟩, .string ⟨#[82]⟩] 9)) fun e w' => e = .returned (.tuple #[]) ∧ WB g1 w1 (txw (wls lv (k + 1))) w') := fun o => LC.out o 86399 ⟨#[45]⟩ ⟨#[82]⟩ rfl rfl rfl
          clear LC
          go_wp2_with (go_at_call 27; with_reducible refine (L1.out _).mono ?_; rintro e w5 ⟨rfl, b5⟩)
          go_roundw
          case rel => exact RL.out _ b5
          case measure => simp [intOf]; omega
      · obtain rfl : k = lv.length := by omega
        have d1 : decide ((lv.length : Int) < (lv.length : Int)) = false := by simp
        have d2 : decide (lv.length < lv.length) = false := by simp
        have FB : Hid (∀ W', Below g1 w1 W' → Below w.heap.size w W') := fun W' hb' => (btr HB0.out hb1).trans (hb'.mono (by have := S1.out; omega))
        have TT := Lib.hid (HT.out _ exr)
        have HBB := Lib.hid hB
        clear F HL DS hB exr HT RI FF HG d1
        cases has with
        | true =>
          obtain ⟨q1, q2⟩ := hx0 rfl
          have X1 := Lib.hid (XL.out rfl g1 w1 wr HBB.out TT.out)
          clear XL E0 hx0
          go_wp2_with (first
            | (go_at_call 27; with_reducible refine X1.out.mono ?_; rintro e w5 ⟨rfl, b5⟩; have SX := Lib.hid (ST.out _ _ _ _ b5))
            | (go_at_call 28; with_reducible refine SX.out.mono ?_; rintro e w6 ⟨rfl, hb6⟩))
          go_ret2
          exact R.out _ (FB.out _ hb6)
        | false =>
          have e0 := E0.out rfl
          have SX := Lib.hid (ST.out _ _ _ _ HBB.out)
          rw [← e0] at SX
          clear XL E0 hx0 e0
          go_wp2_with (go_at_call 28; with_reducible refine SX.out.mono ?_; rintro e w6 ⟨rfl, hb6⟩)
          go_ret2
          exact R.out _ (FB.out _ hb6)
  · have u : (ce lv has x == 0) = false := by simpa using hc
    rw [u] at RI
    have R : Hid (∀ W, Below w.heap.size w W → TXold lv has x w (.returned (.tuple #[.string ⟨#[]⟩, .bool false])) W) := fun W hb => ⟨hb, .inr ⟨hc, rfl⟩⟩
    clear T hl hb0 hc u
    generalize lv.length = n at *
    go_enter Tryz.func8, Tryz.ntmps8
    go_wp2_with (go_at_call 21; with_reducible refine (RI.out _ HB0.out).mono ?_; rintro e w1 ⟨rfl, hb1⟩)
    go_ret2
    exact R.out _ (btr HB0.out hb1)
end Go.Proofs.YtiboijhfieaepaaGreatDoor.zic
