/-
  What zic.Text answers: the lines of a table (zs.full), where it is right. Conditions: the names of months of package zic, the tables of package day and the library's powers of ten hold what their initialisers lay; the library's variable MaxLen holds some number; the slice reads as the row.
-/
import Derived.Test.YtpkohihnocblfaaGreatDoorG15
import Derived.Test.YtpkohihnocblfaaGreatDoorG07
import Derived.Test.YtpkohihnocblfaaGreatDoorG08
namespace Go.Proofs.YtpkohihnocblfaaGreatDoor.zic
open Go.ChangeShapes Go.WideShapes Go.ChangeAt Go.RowKit
open lx zs mem stx
open lm (Lp ce dy st)
open leap (tcs Lps rl)
open bldr (WB wb_call wb_str wb_byte wb_text wb_new)
set_option linter.unusedVariables false
set_option maxRecDepth 100000

theorem txw_snoc (ws : List (List (List UInt8))) (w : List (List UInt8)) : txw (ws ++ [w]) = txw ws ++ (tabs w ++ [10]) := by
  unfold txw
  rw [List.map_append, byl_app]
  unfold byl
  simp
theorem leap_ws {lv : List Lp} (hg : lm.Good lv) {k : Nat} (hk : k < lv.length) : (tabs (wLeap lv k)).length ≤ 200 := by
  have hd := hg.day hk
  obtain ⟨v, _⟩ := dtm_spec (n := dy lv k) (by omega) (by omega)
  have dm := cal.dim_bd (dtm (dy lv k)).1 (dtm (dy lv k)).2.1
  unfold cal.Vld at v
  refine line_ws (by decide) ⟨by omega, by omega, by omega, by omega, by omega, by omega⟩ (fun w hw => ?_) (Nat.le_refl _)
  simp only [List.mem_cons, List.not_mem_nil, or_false] at hw
  rcases hw with rfl | rfl <;> (split <;> decide)
theorem wls_len {lv : List Lp} (hg : lm.Good lv) : ∀ k, k ≤ lv.length → (txw (wls lv k)).length ≤ 201 * k
  | 0, _ => by simp [wls, txw, byl]
  | k + 1, hk => by
    have h1 := wls_len hg k (by omega)
    have h2 := leap_ws hg (k := k) (by omega)
    rw [wls_succ, txw_snoc, List.length_append, List.length_append, List.length_singleton]
    omega
theorem leap_call {g1 : Nat} {w1 wr : World} {lv : List Lp} {k : Nat} (hg : lm.Good lv) (hk : k < lv.length) (hB : WB g1 w1 (txw (wls lv k)) wr) (T : All wr) (o : Obj) (s : Int) (sg lt : ByteArray) (hs : s = if st lv k = -1 then 86399 else 86400)
    (hsg : L sg = if st lv k = -1 then [45] else [43]) (hlt : L lt = if rl lv k = true then [82] else [83]) :
    Calls Tryz.prog 21 #[.pointer (some ⟨g1, 0, none⟩), .string ⟨#[108, 101, 97, 112]⟩, .int .i64 (dy lv k), .int .i64 s, .slice (some ⟨wr.heap.size + 1, 0, none⟩) 2 2] ((wr.alloc o).alloc (.cells #[.string sg, .string lt] 9)) fun e w' => e = .returned (.tuple #[]) ∧ WB g1 w1 (txw (wls lv (k + 1))) w' := by
  have hd := hg.day hk
  have hb : Below wr.heap.size wr ((wr.alloc o).alloc (.cells #[.string sg, .string lt] 9)) := bal (bal (Below.refl _ _) _) _
  have hw := wls_len hg k (by omega)
  have hl := hg.len
  have hsz : (wr.alloc o).heap.size = wr.heap.size + 1 := by simp
  have hn := hp_new (wr.alloc o) (.cells #[.string sg, .string lt] 9)
  rw [hsz] at hn
  have := line_at g1 w1 (txw (wls lv k)) leapL (dy lv k) s (.slice (some ⟨wr.heap.size + 1, 0, none⟩) 2 2) [L sg, L lt] _ (T.below hb) (wb_call hB hb) (by omega) ⟨by decide, by decide, by decide⟩ ⟨by omega, by omega⟩ (by rw [hs]; split <;> omega)
    (.inr ⟨L sg, L lt, wr.heap.size + 1, rfl, rfl, by simp, by rw [B_L]; exact row_cell hn 0, by rw [B_L]; exact row_cell hn 1, by rw [hsg]; split <;> decide, by rw [hlt]; split <;> decide⟩)
  rw [wls_succ, txw_snoc]
  unfold wLeap
  rw [← hs, ← hsg, ← hlt]
  exact this
/-- what Text answers. -/
def TXold (lv : List Lp) (has : Bool) (x : Int) (w : World) (e : Ending) (w' : World) : Prop :=
  Below w.heap.size w w' ∧ ((ce lv has x = 0 ∧ e = .returned (.tuple #[.string (B (txw (full lv has x))), .bool true])) ∨ (ce lv has x ≠ 0 ∧ e = .returned (.tuple #[.string ⟨#[]⟩, .bool false])))
/-- at the head of a round. -/
def XHead (lv : List Lp) (g : Nat) (Wa : World) (i : Value) (W : World) : Prop := ∃ k : Nat, k ≤ lv.length ∧ i = .int .i64 (k : Nat) ∧ WB g Wa (txw (wls lv k)) W
set_option maxHeartbeats 4000000 in
theorem text_at (lv : List Lp) (A : Option Addr) (c : Nat) (has : Bool) (x : Int) (w : World) (T : All w) (hl : Lps w A lv) (hn : lv.length ≤ 9223372036854775807) :
    Calls Tryz.prog 7 #[.agg #[.slice A lv.length c, .bool has, .int .i64 x]] w (TXold lv has x w) := by
  have hb0 : Below w.heap.size w (w.alloc (.cells #[.slice A lv.length c, .bool has, .int .i64 x] 24)) := bal (Below.refl _ _) _
  have RI : Hid (∀ W, Below w.heap.size w W → Calls Tryz.prog 13 #[.agg #[.slice A lv.length c, .bool has, .int .i64 x]] W fun e w' => e = .returned (.bool (ce lv has x == 0)) ∧ Below W.heap.size W w') := fun W hb => leap.right_at lv A c has x W (T.below hb).tabs (hl.below hb) hn
  have HB0 := Lib.hid hb0
  by_cases hc : ce lv has x = 0
  · have hg := lm.good_of hc
    have xb := x_bd hc
    have u : (ce lv has x == 0) = true := by simpa using hc
    rw [u] at RI
    have hcap := hg.len
    have FF : Hid (∀ w1, Below (w.alloc (.cells #[.slice A lv.length c, .bool has, .int .i64 x] 24)).heap.size (w.alloc (.cells #[.slice A lv.length c, .bool has, .int .i64 x] 24)) w1 → ∀ l W, WB w1.heap.size w1 l W →
        Below w.heap.size w W ∧ W.cell? ⟨w.heap.size, 0, none⟩ = some (.slice A lv.length c) ∧ W.cell? ⟨w.heap.size, 1, none⟩ = some (.bool has) ∧ W.cell? ⟨w.heap.size, 2, none⟩ = some (.int .i64 x)) := fun w1 hb1 l W h => by
      have s1 : w.heap.size < w1.heap.size := by have := hb1.size; simp at this; omega
      have hk : W.heap[w.heap.size]? = some (.cells (tcs A lv.length c has x) 24 (0, 0)) := by
        rw [h.2.1.block w.heap.size s1]
        exact kept (hp_new w _) hb1
      obtain ⟨a0, a1, a2⟩ := leap.tcs_cells hk
      exact ⟨(btr hb0 hb1).trans (h.2.1.mono (by omega)), a0, a1, a2⟩
    have HL := Lib.hid (fun W (hb : Below w.heap.size w W) => hl.below hb)
    have HT := Lib.hid (fun W (hb : Below w.heap.size w W) => T.below hb)
    have HG := Lib.hid hg
    have DS := Lib.hid (fun k (hk : k < lv.length) => hg.step hk)
    have WL := Lib.hid (wls_len hg lv.length (Nat.le_refl _))
    have R : Hid (∀ W, Below w.heap.size w W → TXold lv has x w (.returned (.tuple #[.string (B (txw (full lv has x))), .bool true])) W) := fun W hb => ⟨hb, .inl ⟨hc, rfl⟩⟩
    have ST : Hid (∀ g Wa l W, WB g Wa l W → Calls Tryz.prog 20 #[.pointer (some ⟨g, 0, none⟩)] W fun e w' => e = .returned (.string (B l)) ∧ Below g Wa w') := fun g Wa l W h => wb_text h
    have XL : Hid (has = true → ∀ g Wa W, WB g Wa (txw (wls lv lv.length)) W → All W → Calls Tryz.prog 21 #[.pointer (some ⟨g, 0, none⟩), .string ⟨#[101, 120, 112, 105, 114, 101, 115]⟩, .int .i64 (x / 86400), .int .i64 (x % 86400), .slice none 0 0] W fun e w' => e = .returned (.tuple #[]) ∧ WB g Wa (txw (full lv has x)) w') := fun h g Wa W hB T => by
      subst h
      simp only [if_true] at xb
      have := wls_len hg lv.length (Nat.le_refl _)
      have hh := line_at g Wa (txw (wls lv lv.length)) expL (x / 86400) (x % 86400) (.slice none 0 0) [] W T hB (by omega) ⟨by decide, by decide, by decide⟩ ⟨by omega, by omega⟩ ⟨by omega, by omega⟩ (.inl ⟨rfl, rfl⟩)
      have e : full lv true x = wls lv lv.length ++ [wExp x] := rfl
      rw [e, txw_snoc]
      exact hh
    have E0 : Hid (has = false → txw (full lv has x) = txw (wls lv lv.length)) := fun h => by
      subst h
      unfold full
      simp
    have hx0 : has = true → 0 ≤ x ∧ x ≤ 253402300799 := fun h => by
      rw [if_pos h] at xb
      omega
    clear hb0 T hl hc u xb hg
    go_enter Tryz.func7, Tryz.ntmps7
    go_wp2_with (go_at_call 13; with_reducible refine (RI.out _ HB0.out).mono ?_; rintro e w1 ⟨rfl, hb1⟩; have b0 := Lib.hid (wb_new w1); have F := Lib.hid (FF.out w1 hb1); obtain ⟨ex0, c0, c1, c2⟩ := F.out _ _ b0.out)
    clear c0 c1 c2
    have S1 : Hid (w.heap.size < w1.heap.size) := (show w.heap.size < w1.heap.size by have := hb1.size; simp at this; omega)
    generalize hgg : w1.heap.size = g1 at *
    go_loopw [16] (fun i W => XHead lv g1 w1 i W) (fun i _ => lv.length - (intOf i).toNat)
    case atStart => exact ⟨0, Nat.zero_le _, rfl, b0.out⟩
    case round =>
      obtain ⟨k, hk, rfl, hB⟩ := hrel
      obtain ⟨exr, c0, c1, c2⟩ := F.out _ _ hB
      by_cases hlt : k < lv.length
      · obtain ⟨b, o, rfl, hbl, hcell⟩ := HL.out _ exr (by intro e; rw [e] at hlt; simp at hlt)
        obtain ⟨x0, x1, x2⟩ := hcell k hlt
        have hst := DS.out k hlt
        have d1 : decide ((k : Int) < (lv.length : Int)) = true := by simp; omega
        have d2 : decide (k < lv.length) = true := by simp; omega
        have RL : Hid (∀ W, WB g1 w1 (txw (wls lv (k + 1))) W → XHead lv g1 w1 (.int .i64 ((k : Int) + 1)) W) := fun W h => ⟨k + 1, hlt, rfl, h⟩
        have LC := Lib.hid (fun o s sg lt hs hsg hlt' => leap_call HG.out hlt hB (HT.out _ exr) o s sg lt hs hsg hlt')
        clear hcell F HL DS XL ST R E0 hB exr HT RI HB0 FF
        rcases hst with hst | hst <;> cases hr : rl lv k
        all_goals
          rw [hst] at x1 LC
          rw [hr] at x2 LC
          clear hst hr
          generalize dy lv k = D at *
        · have L1 : Hid (∀ o, Calls Tryz.prog 21 #[.pointer (some ⟨g1, 0, none⟩), .string ⟨#[108, 101, 97, 112]⟩, .int .i64 D, .int .i64 86400, .slice (some ⟨wr.heap.size + 1, 0, none⟩) 2 2] ((wr.alloc o).alloc (.cells #[.string ⟨#[43]⟩, .string ⟨#[83]⟩] 9)) fun e w' => e = .returned (.tuple #[]) ∧ WB g1 w1 (txw (wls lv (k + 1))) w') := fun o => LC.out o 86400 ⟨#[43]⟩ ⟨#[83]⟩ rfl rfl rfl
          clear LC
          go_wp2_with (go_at_call 21; with_reducible refine (L1.out _).mono ?_; rintro e w5 ⟨rfl, b5⟩)
          go_roundw
          case rel => exact RL.out _ b5
          case measure => simp [intOf]; omega
        · have L1 : Hid (∀ o, Calls Tryz.prog 21 #[.pointer (some ⟨g1, 0, none⟩), .string ⟨#[108, 101, 97, 112]⟩, .int .i64 D, .int .i64 86400, .slice (some ⟨wr.heap.size + 1, 0, none⟩) 2 2] ((wr.alloc o).alloc (.cells #[.string ⟨#[43]⟩, .string ⟨#[82]⟩] 9)) fun e w' => e = .returned (.tuple #[]) ∧ WB g1 w1 (txw (wls lv (k + 1))) w') := fun o => LC.out o 86400 ⟨#[43]⟩ ⟨#[82]⟩ rfl rfl rfl
          clear LC
          go_wp2_with (go_at_call 21; with_reducible refine (L1.out _).mono ?_; rintro e w5 ⟨rfl, b5⟩)
          go_roundw
          case rel => exact RL.out _ b5
          case measure => simp [intOf]; omega
        · have L1 : Hid (∀ o, Calls Tryz.prog 21 #[.pointer (some ⟨g1, 0, none⟩), .string ⟨#[108, 101, 97, 112]⟩, .int .i64 D, .int .i64 86399, .slice (some ⟨wr.heap.size + 1, 0, none⟩) 2 2] ((wr.alloc o).alloc (.cells #[.string ⟨#[45]⟩, .string ⟨#[83]⟩] 9)) fun e w' => e = .returned (.tuple #[]) ∧ WB g1 w1 (txw (wls lv (k + 1))) w') := fun o => LC.out o 86399 ⟨#[45]⟩ ⟨#[83]⟩ rfl rfl rfl
          clear LC
          go_wp2_with (go_at_call 21; with_reducible refine (L1.out _).mono ?_; rintro e w5 ⟨rfl, b5⟩)
          go_roundw
          case rel => exact RL.out _ b5
          case measure => simp [intOf]; omega
        · have L1 : Hid (∀ o, Calls Tryz.prog 21 #[.pointer (some ⟨g1, 0, none⟩), .string ⟨#[108, 101, 97, 112]⟩, .int .i64 D, .int .i64 86399, .slice (some ⟨wr.heap.size + 1, 0, none⟩) 2 2] ((wr.alloc o).alloc (.cells #[.string ⟨#[45]⟩, .string ⟨#[82]⟩] 9)) fun e w' => e = .returned (.tuple #[]) ∧ WB g1 w1 (txw (wls lv (k + 1))) w') := fun o => LC.out o 86399 ⟨#[45]⟩ ⟨#[82]⟩ rfl rfl rfl
          clear LC
          go_wp2_with (go_at_call 21; with_reducible refine (L1.out _).mono ?_; rintro e w5 ⟨rfl, b5⟩)
          go_roundw
          case rel => exact RL.out _ b5
          case measure => simp [intOf]; omega
      · obtain rfl : k = lv.length := by omega
        have d1 : decide ((lv.length : Int) < (lv.length : Int)) = false := by simp
        have d2 : decide (lv.length < lv.length) = false := by simp
        have FB : Hid (∀ W', Below g1 w1 W' → Below w.heap.size w W') := fun W' hb' => (btr HB0.out hb1).trans (hb'.mono (by have := S1.out; omega))
        have TT := Lib.hid (HT.out _ exr)
        have HBB := Lib.hid hB
        clear F HL DS hB exr HT RI FF HG d1
        cases has with
        | true =>
          obtain ⟨q1, q2⟩ := hx0 rfl
          have X1 := Lib.hid (XL.out rfl g1 w1 wr HBB.out TT.out)
          clear XL E0 hx0
          go_wp2_with (first
            | (go_at_call 21; with_reducible refine X1.out.mono ?_; rintro e w5 ⟨rfl, b5⟩; have SX := Lib.hid (ST.out _ _ _ _ b5))
            | (go_at_call 20; with_reducible refine SX.out.mono ?_; rintro e w6 ⟨rfl, hb6⟩))
          go_ret2
          exact R.out _ (FB.out _ hb6)
        | false =>
          have e0 := E0.out rfl
          have SX := Lib.hid (ST.out _ _ _ _ HBB.out)
          rw [← e0] at SX
          clear XL E0 hx0 e0
          go_wp2_with (go_at_call 20; with_reducible refine SX.out.mono ?_; rintro e w6 ⟨rfl, hb6⟩)
          go_ret2
          exact R.out _ (FB.out _ hb6)
  · have u : (ce lv has x == 0) = false := by simpa using hc
    rw [u] at RI
    have R : Hid (∀ W, Below w.heap.size w W → TXold lv has x w (.returned (.tuple #[.string ⟨#[]⟩, .bool false])) W) := fun W hb => ⟨hb, .inr ⟨hc, rfl⟩⟩
    clear T hl hb0 hc u
    generalize lv.length = n at *
    go_enter Tryz.func7, Tryz.ntmps7
    go_wp2_with (go_at_call 13; with_reducible refine (RI.out _ HB0.out).mono ?_; rintro e w1 ⟨rfl, hb1⟩)
    go_ret2
    exact R.out _ (btr HB0.out hb1)
end Go.Proofs.YtpkohihnocblfaaGreatDoor.zic

/-
  The small case of layer 11, as plain mathematics: what is read of its texts, and what is written. No condition.
-/
namespace Go.Proofs.YtpkohihnocblfaaGreatDoor.zs
open lx cal stx
open lm (Lp ce dy st)
open zic (wl)
set_option linter.unusedVariables false
set_option maxRecDepth 100000

def tA : ByteArray := ⟨#[35, 32, 120, 10, 76, 101, 97, 112, 9, 49, 57, 55, 50, 9, 74, 117, 110, 9, 51, 48, 9, 50, 51, 58, 53, 57, 58, 54, 48, 9, 43, 9, 83, 32, 35, 32, 121, 10, 10, 108, 101, 97, 112, 32, 49, 57, 55, 50, 32, 68, 69, 67, 69, 77, 66, 69, 82, 32, 51, 49, 32, 50, 51, 58, 53, 57, 58, 53, 57, 32, 45, 32, 114, 111, 108, 108, 10, 69, 120, 112, 105, 114, 101, 115, 32, 49, 57, 55, 52, 32, 74, 97, 110, 32, 49, 32, 48, 58, 48, 48, 58, 48, 53, 10]⟩
def tC : ByteArray := ⟨#[76, 101, 97, 112, 32, 49, 57, 55, 50, 32, 74, 117, 110, 32, 51, 48, 32, 50, 51, 58, 53, 57, 58, 53, 57, 32, 43, 32, 83]⟩
def tD : ByteArray := ⟨#[10, 76, 101, 97, 112, 32, 49, 57, 55, 50, 32, 74, 117, 110, 32, 50, 57, 32, 50, 51, 58, 53, 57, 58, 54, 48, 32, 43, 32, 83]⟩
def tE : ByteArray := ⟨#[76, 101, 97, 112, 32, 49, 57, 55, 50, 32, 74, 117, 110, 32, 51, 49, 32, 50, 51, 58, 53, 57, 58, 54, 48, 32, 43, 32, 83]⟩
def tF : ByteArray := ⟨#[76, 101, 97, 112, 32, 49, 57, 55, 50, 32, 74, 117, 32, 51, 48, 32, 50, 51, 58, 53, 57, 58, 54, 48, 32, 43, 32, 83]⟩
def tG : ByteArray := ⟨#[69, 120, 112, 105, 114, 101, 115, 32, 49, 57, 55, 51, 32, 74, 97, 110, 32, 49, 32, 48, 58, 48, 58, 48, 10, 69, 120, 112, 105, 114, 101, 115, 32, 49, 57, 55, 51, 32, 74, 97, 110, 32, 49, 32, 48, 58, 48, 58, 48]⟩
def tS : ByteArray := ⟨#[76, 101, 97, 112, 9, 49, 57, 55, 50, 9, 74, 117, 110, 9, 51, 48, 9, 50, 51, 58, 53, 57, 58, 54, 48, 9, 43, 9, 83, 10, 76, 101, 97, 112, 9, 49, 57, 55, 50, 9, 68, 101, 99, 9, 51, 49, 9, 50, 51, 58, 53, 57, 58, 53, 57, 9, 45, 9, 82, 10, 69, 120, 112, 105, 114, 101, 115, 9, 49, 57, 55, 52, 9, 74, 97, 110, 9, 49, 9, 48, 48, 58, 48, 48, 58, 48, 53, 10]⟩
def wa : List (List UInt8) := [[76, 101, 97, 112], [49, 57, 55, 50], [74, 117, 110], [51, 48], [50, 51, 58, 53, 57, 58, 54, 48], [43], [83]]
def wb : List (List UInt8) := [[108, 101, 97, 112], [49, 57, 55, 50], [68, 69, 67, 69, 77, 66, 69, 82], [51, 49], [50, 51, 58, 53, 57, 58, 53, 57], [45], [114, 111, 108, 108]]
def wc : List (List UInt8) := [[69, 120, 112, 105, 114, 101, 115], [49, 57, 55, 52], [74, 97, 110], [49], [48, 58, 48, 48, 58, 48, 53]]
def xc : List (List UInt8) := [[76, 101, 97, 112], [49, 57, 55, 50], [74, 117, 110], [51, 48], [50, 51, 58, 53, 57, 58, 53, 57], [43], [83]]
def xd : List (List UInt8) := [[76, 101, 97, 112], [49, 57, 55, 50], [74, 117, 110], [50, 57], [50, 51, 58, 53, 57, 58, 54, 48], [43], [83]]
def xe' : List (List UInt8) := [[76, 101, 97, 112], [49, 57, 55, 50], [74, 117, 110], [51, 49], [50, 51, 58, 53, 57, 58, 54, 48], [43], [83]]
def xf : List (List UInt8) := [[76, 101, 97, 112], [49, 57, 55, 50], [74, 117], [51, 48], [50, 51, 58, 53, 57, 58, 54, 48], [43], [83]]
def xg : List (List UInt8) := [[69, 120, 112, 105, 114, 101, 115], [49, 57, 55, 51], [74, 97, 110], [49], [48, 58, 48, 58, 48]]
theorem lines_a : (splitS tA).map wl = [[], wa, [], wb, wc] := by decide +kernel
theorem lines_c : (splitS tC).map wl = [xc] := by decide +kernel
theorem lines_d : (splitS tD).map wl = [[], xd] := by decide +kernel
theorem lines_e : (splitS tE).map wl = [xe'] := by decide +kernel
theorem lines_f : (splitS tF).map wl = [xf] := by decide +kernel
theorem lines_g : (splitS tG).map wl = [xg, xg] := by decide +kernel
def lA : List Lp := [(911, 1, false), (1095, -1, true)]
theorem goodA : lm.Good lA := by
  intro i hi
  match i, hi with
  | 0, _ => exact lm.wr_ok.2 ⟨by decide, by decide, by decide, lm.end_911, by decide, by decide⟩
  | 1, _ => exact lm.wr_ok.2 ⟨by decide, by decide, by decide, lm.end_1095, by decide, by decide⟩
theorem ceA : ce lA true 126230405 = 0 := lm.ce_ok.2 ⟨goodA, by decide⟩
theorem ce1 : ce [(911, 1, false)] false 0 = 0 := ce_good (good_take goodA 1)
theorem ce2 : ce lA false 0 = 0 := ce_good goodA
theorem end_910 : lm.endB 910 = false := lm.end_not (y := 1972) (m := 6) (d := 29) (by decide) (by decide) (by decide)
theorem ce3 : ce [(910, 1, false)] false 0 = 5 := by
  have h : lm.wr [(910, 1, false)] 0 = 5 := by
    unfold lm.wr
    rw [show lm.dy [((910 : Int), (1 : Int), false)] 0 = 910 from rfl, end_910]
    decide
  exact ((lm.ce_at (k := 0) (has := false) (x := 0) (fun i hi => absurd hi (by omega)) (by decide) (by rw [h]; decide)).2).trans h
theorem skip {s : S} (r : List (List (List UInt8))) (k : Nat) : run ([] :: r) k s = run r (k + 1) (stS [] (k + 1) s) := run_go rfl r k
theorem leap_E {w : List (List UInt8)} {s : S} {v : Int} (hk : kd w = 1) (hf : lfT w = true) (hd : moD (mo w) = true) (hs : moS (mo w) = if sgn w = -1 then 86399 else 86400) (hc : ce (s.lv ++ [lpO w]) false 0 = v) : stE w s = v := by
  unfold stE lE
  rw [hk, if_neg (by decide), if_pos rfl, hf, if_neg (by decide), hd, if_neg (by decide), if_neg (fun h => h hs), hc]
def q1 : S := stS [] 1 S0
def q2 : S := stS wa 2 q1
def q3 : S := stS [] 3 q2
def q4 : S := stS wb 4 q3
def q5 : S := stS wc 5 q4
theorem parse_a : parse ((splitS tA).map wl) = ⟨0, 0, lA, true, 126230405⟩ := by
  rw [lines_a]
  have h : run [[], wa, [], wb, wc] 0 S0 = ((0, 0), q5) := by
    rw [skip]
    show run [wa, [], wb, wc] 1 q1 = _
    rw [run_go (leap_E (by decide +kernel) (by decide +kernel) (by decide +kernel) (by decide +kernel) (by rw [show q1.lv ++ [lpO wa] = [(911, 1, false)] from by decide +kernel]; exact ce1))]
    show run [[], wb, wc] 2 q2 = _
    rw [skip]
    show run [wb, wc] 3 q3 = _
    rw [run_go (leap_E (by decide +kernel) (by decide +kernel) (by decide +kernel) (by decide +kernel) (by rw [show q3.lv ++ [lpO wb] = lA from by decide +kernel]; exact ce2))]
    show run [wc] 4 q4 = _
    have e : stE wc q4 = 0 := by
      unfold stE
      rw [show kd wc = 2 from by decide +kernel, if_neg (by decide), if_neg (by decide), if_pos rfl]
      decide +kernel
    rw [run_go e, run_nil]
    rfl
  rw [run_fin h]
  have f : q5.lv = lA ∧ q5.xl = 5 ∧ q5.ex = 126230405 := by decide +kernel
  obtain ⟨f1, f2, f3⟩ := f
  unfold fin
  rw [f1, f2, f3, if_neg (by decide), if_pos ceA]
theorem bad_run {ws : List (List (List UInt8))} {n : Nat} {c : Int} {s : S} (h : run ws 0 S0 = ((n, c), s)) (hc : c ≠ 0) : parse ws = bad n c := by
  unfold parse
  rw [h, if_pos hc]
theorem parse_c : parse ((splitS tC).map wl) = bad 1 6 := by
  rw [lines_c]
  have e : stE xc S0 = 6 := by
    unfold stE lE
    rw [show kd xc = 1 from by decide +kernel, if_neg (by decide), if_pos rfl, if_neg (by decide +kernel), if_neg (by decide +kernel), if_pos (by decide +kernel)]
  exact bad_run (s := S0) (by rw [run_no (by rw [e]; decide), e]) (by decide)
theorem parse_d : parse ((splitS tD).map wl) = bad 2 5 := by
  rw [lines_d]
  have e : stE xd q1 = 5 := leap_E (by decide +kernel) (by decide +kernel) (by decide +kernel) (by decide +kernel) (by rw [show q1.lv ++ [lpO xd] = [(910, 1, false)] from by decide +kernel]; exact ce3)
  refine bad_run (s := q1) ?_ (by decide)
  rw [skip]
  show run [xd] 1 q1 = _
  rw [run_no (by rw [e]; decide), e]
theorem parse_e : parse ((splitS tE).map wl) = bad 1 9 := by
  rw [lines_e]
  have e : stE xe' S0 = 9 := by
    unfold stE lE
    rw [show kd xe' = 1 from by decide +kernel, if_neg (by decide), if_pos rfl, if_neg (by decide +kernel), if_pos (by decide +kernel)]
  exact bad_run (s := S0) (by rw [run_no (by rw [e]; decide), e]) (by decide)
theorem parse_f : parse ((splitS tF).map wl) = bad 1 2 := by
  rw [lines_f]
  have e : stE xf S0 = 2 := by
    unfold stE lE
    rw [show kd xf = 1 from by decide +kernel, if_neg (by decide), if_pos rfl, if_pos (by decide +kernel)]
  exact bad_run (s := S0) (by rw [run_no (by rw [e]; decide), e]) (by decide)
def g1' : S := stS xg 1 S0
theorem parse_g : parse ((splitS tG).map wl) = bad 2 2 := by
  rw [lines_g]
  have k : kd xg = 2 := by decide +kernel
  have e1 : stE xg S0 = 0 := by
    unfold stE
    rw [k, if_neg (by decide), if_neg (by decide), if_pos rfl]
    decide +kernel
  have e2 : stE xg g1' = 2 := by
    unfold stE
    rw [k, if_neg (by decide), if_neg (by decide), if_pos rfl]
    decide +kernel
  refine bad_run (s := g1') ?_ (by decide)
  rw [run_go e1]
  show run [xg] 1 g1' = _
  rw [run_no (by rw [e2]; decide), e2]
theorem text_lits : B (txw (full lA true 126230405)) = tS := by
  have d1 : dtm 911 = (1972, 6, 30) := dtm_is (by decide) (by decide)
  have d2 : dtm 1095 = (1972, 12, 31) := dtm_is (by decide) (by decide)
  have d3 : dtm 1461 = (1974, 1, 1) := dtm_is (by decide) (by decide)
  have e : full lA true 126230405 = [lnW leapL (dtm 911) (ckm 86400) [[43], [83]], lnW leapL (dtm 1095) (ckm 86399) [[45], [82]], lnW expL (dtm 1461) (ckm 5) []] := rfl
  rw [e, d1, d2, d3]
  decide +kernel
theorem small_months : mon [115, 69, 112, 116] = 9 ∧ mon [109, 97] = 0 := by decide +kernel
theorem small_clocks : clkT [49, 58, 50, 58, 51] = true ∧ clkI [49, 58, 50, 58, 51] = 3723 ∧ clkT [49, 58, 50] = false ∧ clkT [48, 48, 49, 58, 50, 58, 51] = false ∧ clkI [49, 58, 50] = 0 ∧ clkI [48, 48, 49, 58, 50, 58, 51] = 0 := by decide +kernel
end Go.Proofs.YtpkohihnocblfaaGreatDoor.zs

/-
  The document's own answer of layer 9, Same, and the bound of its laws, Few, for seats that have no more of them. Condition: the slices read as the rows.
-/
namespace Go.Proofs.YtpkohihnocblfaaGreatDoor.ref09
open Go.ChangeShapes Go.WideShapes Go.ChangeAt Go.RowKit
open lm mem leap
set_option linter.unusedVariables false
set_option maxRecDepth 100000

/-- at the head of a round. -/
def SHead (l m : List Lp) (W1 : World) (i : Value) (W : World) : Prop :=
  ∃ k : Nat, k ≤ l.length ∧ i = .int .i64 (k : Nat) ∧ Below W1.heap.size W1 W ∧ ∀ j, j < k → (dy l j, lm.st l j, rl l j) = (dy m j, lm.st m j, rl m j)
set_option maxHeartbeats 2000000 in
theorem same_at (l m : List Lp) (A B : Option Addr) (c d : Nat) (h1 h2 : Bool) (x y : Int) (w : World) (h : Lps w A l) (g : Lps w B m) (hl : l.length ≤ 9223372036854775807) (hm : m.length ≤ 9223372036854775807) :
    Calls Tryz.prog 10 #[.agg #[.slice A l.length c, .bool h1, .int .i64 x], .agg #[.slice B m.length d, .bool h2, .int .i64 y]] w fun e w' => e = .returned (.bool (sm l m h1 h2 x y)) ∧ Below w.heap.size w w' := by
  have hw : Below w.heap.size w ((w.alloc (.cells #[.slice A l.length c, .bool h1, .int .i64 x] 24)).alloc (.cells #[.slice B m.length d, .bool h2, .int .i64 y] 24)) := bal (bal (Below.refl w.heap.size w) _) _
  have b0 : ((w.alloc (.cells #[.slice A l.length c, .bool h1, .int .i64 x] 24)).alloc (.cells #[.slice B m.length d, .bool h2, .int .i64 y] 24)).heap[w.heap.size]? = some (.cells (tcs A l.length c h1 x) 24) := hp_old (hp_new w _) _
  have b1 : ((w.alloc (.cells #[.slice A l.length c, .bool h1, .int .i64 x] 24)).alloc (.cells #[.slice B m.length d, .bool h2, .int .i64 y] 24)).heap[w.heap.size + 1]? = some (.cells (tcs B m.length d h2 y) 24) := hp_new1 w _ _
  have h' := h.below hw
  have g' := g.below hw
  have SI : Hid (sm l m h1 h2 x y = true ↔ l = m ∧ h1 = h2 ∧ x = y) := sm_iff
  have HB := Lib.hid hw
  clear h g hw
  by_cases hlen : l.length = m.length
  · by_cases e1 : h1 = h2
    · by_cases e2 : x = y
      · subst e1
        subst e2
        have SJ : Hid ((sm l m h1 h1 x x = true ↔ l = m)) := ⟨fun e => (SI.out.1 e).1, fun e => SI.out.2 ⟨e, rfl, rfl⟩⟩
        have q0 : ((l.length : Int) != (m.length : Int)) = false := by rw [hlen]; simp
        have HLE := Lib.hid hlen
        clear SI hlen
        go_enter Tryz.func10, Tryz.ntmps10
        go_wp2_with fail
        generalize (w.alloc (.cells #[.slice A l.length c, .bool h1, .int .i64 x] 24)).alloc (.cells #[.slice B m.length d, .bool h1, .int .i64 x] 24) = W1 at *
        go_loopw [5] (fun i W => SHead l m W1 i W) (fun i _ => l.length - (intOf i).toNat)
        case atStart => exact ⟨0, Nat.zero_le _, rfl, Below.refl _ _, fun j hj => by omega⟩
        case round =>
          obtain ⟨k, hk, rfl, hb, hok⟩ := hrel
          obtain ⟨t0, t1, t2⟩ := tcs_cells (kept b0 hb)
          obtain ⟨u0, u1, u2⟩ := tcs_cells (kept b1 hb)
          by_cases hlt : k < l.length
          · have hkm : k < m.length := by have := HLE.out; omega
            obtain ⟨b, o, rfl, hb0, hc⟩ := h'.below hb (by omega)
            obtain ⟨b', o', rfl, hb1, hc'⟩ := g'.below hb (by omega)
            obtain ⟨x0, x1, x2⟩ := hc k hlt
            obtain ⟨y0, y1, y2⟩ := hc' k hkm
            have q := eqL (dy l k) (lm.st l k) (dy m k) (lm.st m k) (rl l k) (rl m k)
            by_cases he : (dy l k, lm.st l k, rl l k) = (dy m k, lm.st m k, rl m k)
            · rw [decide_eq_true he] at q
              have R : Hid (∀ W', Below W1.heap.size W1 W' → SHead l m W1 (.int .i64 ((k : Int) + 1)) W') := fun W' hb' => ⟨k + 1, by omega, rfl, hb', fun j hj => by
                rcases Nat.eq_or_lt_of_le (Nat.le_of_lt_succ hj) with rfl | e
                · exact he
                · exact hok j e⟩
              clear hok he hc hc' h' g' b0 b1
              generalize dy l k = a0 at *
              generalize lm.st l k = a1 at *
              generalize rl l k = a2 at *
              generalize dy m k = b0 at *
              generalize lm.st m k = b1 at *
              generalize rl m k = b2 at *
              generalize l.length = n at *
              generalize m.length = n' at *
              go_wp2_with fail
              go_quiet (fail)
              go_wp2
              go_roundw
              case rel => exact R.out _ (bel_drewN hb _)
              case measure => simp [intOf]; omega
            · rw [decide_eq_false he] at q
              have E : Hid (sm l m h1 h1 x x = false) := by
                show sm l m h1 h1 x x = false
                rw [Bool.eq_false_iff]
                intro e
                exact he (by rw [SJ.out.1 e])
              clear hok he hc hc' h' g' SJ b0 b1
              generalize dy l k = a0 at *
              generalize lm.st l k = a1 at *
              generalize rl l k = a2 at *
              generalize dy m k = b0 at *
              generalize lm.st m k = b1 at *
              generalize rl m k = b2 at *
              generalize l.length = n at *
              generalize m.length = n' at *
              go_wp2_with fail
              go_quiet (fail)
              go_wp2
              go_ret
              exact ⟨(congrArg (fun b => Ending.returned (Value.bool b)) E.out).symm, bel_drewN (btr HB.out hb) _⟩
          · obtain rfl : k = l.length := by omega
            have E : Hid (sm l m h1 h1 x x = true) := SJ.out.2 (ext3 HLE.out hok)
            clear hok h' g' SJ
            go_wp2
            go_ret
            exact ⟨(congrArg (fun b => Ending.returned (Value.bool b)) E.out).symm, btr HB.out hb⟩
      · have E : sm l m h1 h2 x y = false := by
          rw [Bool.eq_false_iff]
          intro e
          exact e2 (SI.out.1 e).2.2
        rw [E]
        subst e1
        have q0 : ((l.length : Int) != (m.length : Int)) = false := by rw [hlen]; simp
        have q1 : (h1 != h1) = false := by simp
        have q2 : (x != y) = true := by simpa using e2
        clear SI E h' g' b0 b1 hlen e2
        generalize l.length = n at *
        generalize m.length = n' at *
        go_enter Tryz.func10, Tryz.ntmps10
        go_wp2
        go_ret
        exact ⟨rfl, HB.out⟩
    · have E : sm l m h1 h2 x y = false := by
        rw [Bool.eq_false_iff]
        intro e
        exact e1 (SI.out.1 e).2.1
      rw [E]
      have q0 : ((l.length : Int) != (m.length : Int)) = false := by rw [hlen]; simp
      clear SI E h' g' b0 b1 hlen
      generalize l.length = n at *
      generalize m.length = n' at *
      cases h1 <;> cases h2
      · exact absurd rfl e1
      · clear e1
        go_enter Tryz.func10, Tryz.ntmps10
        go_wp2
        go_ret
        exact ⟨rfl, HB.out⟩
      · clear e1
        go_enter Tryz.func10, Tryz.ntmps10
        go_wp2
        go_ret
        exact ⟨rfl, HB.out⟩
      · exact absurd rfl e1
  · have E : sm l m h1 h2 x y = false := by
      rw [Bool.eq_false_iff]
      intro e
      exact hlen (by rw [(SI.out.1 e).1])
    rw [E]
    have q0 : ((l.length : Int) != (m.length : Int)) = true := by simp; omega
    clear SI E h' g' b0 b1 hlen
    generalize l.length = n at *
    generalize m.length = n' at *
    go_enter Tryz.func10, Tryz.ntmps10
    go_wp2
    go_ret
    exact ⟨rfl, HB.out⟩
end Go.Proofs.YtpkohihnocblfaaGreatDoor.ref09
namespace Go.Proofs.YtpkohihnocblfaaGreatDoor.leap
open Go.ChangeShapes Go.WideShapes Go.ChangeAt Go.RowKit
open lm mem
theorem few_at (A : Option Addr) (n c : Nat) (has : Bool) (x : Int) (w : World) (hn : n ≤ 9223372036854775807) : Calls Tryz.prog 5 #[.agg #[.slice A n c, .bool has, .int .i64 x]] w fun e w' => e = .returned (.bool (decide (n ≤ 300))) ∧ Below w.heap.size w w' := by
  have hb := bal (Below.refl w.heap.size w) (.cells #[.slice A n c, .bool has, .int .i64 x] 24)
  by_cases h : n ≤ 300
  · rw [decide_eq_true h]
    have t : decide ((n : Int) ≤ 300) = true := by simp; omega
    go_enter Tryz.func5, Tryz.ntmps5
    go_wp2
    go_ret
    exact ⟨rfl, hb⟩
  · rw [decide_eq_false h]
    have t : decide ((n : Int) ≤ 300) = false := by simp; omega
    go_enter Tryz.func5, Tryz.ntmps5
    go_wp2
    go_ret
    exact ⟨rfl, hb⟩
theorem sm_self (l : List Lp) (h : Bool) (x : Int) : sm l l h h x x = true := sm_iff.2 ⟨rfl, rfl, rfl⟩
end Go.Proofs.YtpkohihnocblfaaGreatDoor.leap
