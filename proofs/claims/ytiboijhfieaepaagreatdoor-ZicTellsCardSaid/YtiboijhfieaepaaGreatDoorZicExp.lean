/-
  What takeExpiry of a source's reading answers, and leaves. Conditions: the names of months of package zic, and the tables of package day, hold what their initialisers lay; the library's variable MaxLen holds some number; the words have fewer than 2^32 - 15 bytes; the box holds how far the source is read.
-/
import Derived.Test.YtiboijhfieaepaaGreatDoorZicTake
import Derived.StillTailTactics
import Derived.BigRegion
import Derived.Deep.RegionHeld3
namespace Go.Proofs.YtiboijhfieaepaaGreatDoor.zic
open Go.ChangeShapes Go.WideShapes Go.ChangeAt Go.RowKit
open lx zs mem stx
open lm (Lp ce)
open leap (nx Own tcs Lps)
set_option linter.unusedVariables false
set_option maxRecDepth 100000

theorem took_exp {A : Option Addr} {n c : Nat} {b a : Nat} {s : S} {e : Int} {W w1 : World} (hn : n = s.lv.length) (hg : W.heap[b]? = some (.cells (rz A n c s.xl s.ex) 41 (0, 0))) (hl : Lps W A s.lv) (hc : s.lv.length ≤ c) (hne : ∀ g o, A = some ⟨g, o, none⟩ → g ≠ b ∧ b < g) (hb : Below W.heap.size W w1) :
    Took b W 0 { s with xl := a, ex := e } (.returned (.int .i64 0)) ((w1.setCell ⟨b, 3, none⟩ (.int .i64 (a : Nat))).setCell ⟨b, 4, none⟩ (.int .i64 e)) := by
  subst hn
  refine ⟨rfl, ((Keep.of_below hb).setCell 3 _).setCell 4 _, fun _ => ⟨A, c, ?_, ?_, hc, hne⟩⟩
  · exact heap_setCell_same _ b 4 _ _ _ (heap_setCell_same w1 b 3 _ _ _ (kept hg hb))
  · exact lps_keep (hl.below hb) (((Keep.refl b w1).setCell 3 _).setCell 4 _) (fun g o e => (hne g o e).1)
set_option maxHeartbeats 4000000 in
theorem takeExpiry_at (b : Nat) (s : S) (X : List (List UInt8)) (hX : X.length = 5) (A : Option Addr) (c : Nat) (a : Nat) (ha : a ≤ 9000000000) (W : World) (T : day.Tabs W) (TM : lines.ML W) (TN : Nm W) (h : RS b s W) (hw : Wds W A X) (hx : Small X) (hc5 : 5 ≤ c) :
    Calls Tryz.prog 20 #[.pointer (some ⟨b, 0, none⟩), .slice A 5 c, .int .i64 (a : Nat)] W (Took b W (xE X s) { s with xl := a, ex := moN (mo X) * 86400 + moS (mo X) }) := by
  have hbl := rs_lt h
  obtain ⟨A0, cA, hg, hl, hc, hne⟩ := h
  obtain ⟨q, o, rfl, hq, hcw⟩ := hw.cell (by omega)
  have SL := cut15 q o 5 c (by omega) hc5
  have MO : Hid (∀ W', Below W.heap.size W W' → Calls Tryz.prog 44 #[.slice (some ⟨q, o + 1, none⟩) 4 (c - 1)] W' fun e w' => e = .returned (.tuple #[.agg #[.bool (moT (mo X) && moD (mo X)), .int .i64 (oN (mo X)), .int .i64 (oS (mo X))], .bool (moT (mo X))]) ∧ Below W'.heap.size W' w') := fun W' hW =>
    moment_at (mo X) (mo_len (by omega)) _ _ W' (T.below hW) (TM.below hW) (TN.below hW) ((mo_wds hq (by omega) hcw).below hW) (mo_small hx (by omega))
  have RC := Lib.hid (fun w1 (hb : Below W.heap.size W w1) => rz_cells (kept hg hb))
  have FX : Hid (∀ E' w', xE X s = E' → E' ≠ 0 → Below W.heap.size W w' → Took b W (xE X s) { s with xl := a, ex := moN (mo X) * 86400 + moS (mo X) } (.returned (.int .i64 E')) w') := fun E' w' e hE hb => took_no e hE hb
  have TX : Hid (∀ w', Below W.heap.size W w' → Took b W 0 { s with xl := a, ex := moN (mo X) * 86400 + moS (mo X) } (.returned (.int .i64 0)) ((w'.setCell ⟨b, 3, none⟩ (.int .i64 (a : Nat))).setCell ⟨b, 4, none⟩ (.int .i64 (moN (mo X) * 86400 + moS (mo X))))) := fun w' hb => took_exp rfl hg hl hc hne hb
  have hb0 : Below W.heap.size W W := Below.refl _ _
  have EL : Hid (xE X s = if moT (mo X) = false ∨ s.xl ≠ 0 then 2 else if moD (mo X) = false ∨ moS (mo X) = 86400 then 9 else 0) := rfl
  have ON : Hid (moT (mo X) = true → oN (mo X) = moN (mo X) ∧ oS (mo X) = moS (mo X)) := fun k => ⟨if_pos k, if_pos k⟩
  have nb := moN_bd (mo X)
  have sb : 0 ≤ moS (mo X) ∧ moS (mo X) ≤ 86400 := clkI_bd _
  clear T TM TN hc hg hl hne hw hx hcw
  generalize xE X s = E at *
  generalize moT (mo X) = t0 at *
  generalize moD (mo X) = md at *
  generalize oN (mo X) = oN' at *
  generalize oS (mo X) = oS' at *
  cases t0 with
  | false =>
    obtain rfl : E = 2 := by rw [EL.out, if_pos (.inl rfl)]
    clear EL ON TX
    go_enter Tryz.func20, Tryz.ntmps20
    go_wp2_with (first
      | (go_at_call 44; with_reducible refine (MO.out _ hb0).mono ?_; rintro e w1 ⟨rfl, hb1⟩; have hm1 := Lib.hid (fun a b c => bal hb1 (.cells #[.bool a, .int .i64 b, .int .i64 c] 73)); have r3 := fun a b c => (RC.out _ (bal hb1 (.cells #[.bool a, .int .i64 b, .int .i64 c] 73))).2.2.2.1; have r4 := fun a b c => (RC.out _ (bal hb1 (.cells #[.bool a, .int .i64 b, .int .i64 c] 73))).2.2.2.2.1; have fz := fun a b c => (RC.out _ (bal hb1 (.cells #[.bool a, .int .i64 b, .int .i64 c] 73))).2.2.2.2.2)
      | (fail))
    go_ret
    exact FX.out 2 _ rfl (by decide) (hm1.out _ _ _)
  | true =>
    obtain ⟨rfl, rfl⟩ := ON.out rfl
    rw [Bool.true_and] at MO
    clear ON
    by_cases kx : s.xl = 0
    · have ux : ((s.xl : Int) != 0) = false := by rw [kx]; rfl
      rw [if_neg (by simp [kx])] at EL
      cases md with
      | false =>
        obtain rfl : E = 9 := by rw [EL.out, if_pos (.inl rfl)]
        clear EL TX
        generalize moN (mo X) = mn at *
        generalize moS (mo X) = ms at *
        generalize s.xl = xl at *
        go_enter Tryz.func20, Tryz.ntmps20
        go_wp2_with (first
          | (go_at_call 44; with_reducible refine (MO.out _ hb0).mono ?_; rintro e w1 ⟨rfl, hb1⟩; have hm1 := Lib.hid (fun a b c => bal hb1 (.cells #[.bool a, .int .i64 b, .int .i64 c] 73)); have r3 := fun a b c => (RC.out _ (bal hb1 (.cells #[.bool a, .int .i64 b, .int .i64 c] 73))).2.2.2.1; have r4 := fun a b c => (RC.out _ (bal hb1 (.cells #[.bool a, .int .i64 b, .int .i64 c] 73))).2.2.2.2.1; have fz := fun a b c => (RC.out _ (bal hb1 (.cells #[.bool a, .int .i64 b, .int .i64 c] 73))).2.2.2.2.2)
          | (fail))
        go_ret
        exact FX.out 9 _ rfl (by decide) (hm1.out _ _ _)
      | true =>
        by_cases ks : moS (mo X) = 86400
        · obtain rfl : E = 9 := by rw [EL.out, if_pos (.inr ks)]
          clear EL TX
          rw [ks] at MO
          generalize moN (mo X) = mn at *
          generalize s.xl = xl at *
          go_enter Tryz.func20, Tryz.ntmps20
          go_wp2_with (first
            | (go_at_call 44; with_reducible refine (MO.out _ hb0).mono ?_; rintro e w1 ⟨rfl, hb1⟩; have hm1 := Lib.hid (fun a b c => bal hb1 (.cells #[.bool a, .int .i64 b, .int .i64 c] 73)); have r3 := fun a b c => (RC.out _ (bal hb1 (.cells #[.bool a, .int .i64 b, .int .i64 c] 73))).2.2.2.1; have r4 := fun a b c => (RC.out _ (bal hb1 (.cells #[.bool a, .int .i64 b, .int .i64 c] 73))).2.2.2.2.1; have fz := fun a b c => (RC.out _ (bal hb1 (.cells #[.bool a, .int .i64 b, .int .i64 c] 73))).2.2.2.2.2)
            | (fail))
          go_ret
          exact FX.out 9 _ rfl (by decide) (hm1.out _ _ _)
        · obtain rfl : E = 0 := by rw [EL.out, if_neg (by simp [ks])]
          have us : (moS (mo X) == 86400) = false := by simpa using ks
          clear EL FX
          generalize moN (mo X) = mn at *
          generalize moS (mo X) = ms at *
          generalize s.xl = xl at *
          have p1 : IntKind.i64.wrap (mn * 86400) = mn * 86400 := IntWalk.i64_in _ (by omega)
          have p2 : IntKind.i64.wrap (mn * 86400 + ms) = mn * 86400 + ms := IntWalk.i64_in _ (by omega)
          go_enter Tryz.func20, Tryz.ntmps20
          go_wp2_with (first
            | (go_at_call 44; with_reducible refine (MO.out _ hb0).mono ?_; rintro e w1 ⟨rfl, hb1⟩; have hm1 := Lib.hid (fun a b c => bal hb1 (.cells #[.bool a, .int .i64 b, .int .i64 c] 73)); have r3 := fun a b c => (RC.out _ (bal hb1 (.cells #[.bool a, .int .i64 b, .int .i64 c] 73))).2.2.2.1; have r4 := fun a b c => (RC.out _ (bal hb1 (.cells #[.bool a, .int .i64 b, .int .i64 c] 73))).2.2.2.2.1; have fz := fun a b c => (RC.out _ (bal hb1 (.cells #[.bool a, .int .i64 b, .int .i64 c] 73))).2.2.2.2.2)
            | (fail))
          have TX2 := Lib.hid (TX.out _ (bel_drewN (hm1.out true mn ms) 1))
          clear TX ks us kx ux
          go_region
          go_wp2
          go_ret
          exact TX2.out
    · have ux : ((s.xl : Int) != 0) = true := by simp; omega
      obtain rfl : E = 2 := by rw [EL.out, if_pos (.inr kx)]
      clear EL TX
      generalize moN (mo X) = mn at *
      generalize moS (mo X) = ms at *
      generalize s.xl = xl at *
      go_enter Tryz.func20, Tryz.ntmps20
      go_wp2_with (first
        | (go_at_call 44; with_reducible refine (MO.out _ hb0).mono ?_; rintro e w1 ⟨rfl, hb1⟩; have hm1 := Lib.hid (fun a b c => bal hb1 (.cells #[.bool a, .int .i64 b, .int .i64 c] 73)); have r3 := fun a b c => (RC.out _ (bal hb1 (.cells #[.bool a, .int .i64 b, .int .i64 c] 73))).2.2.2.1; have r4 := fun a b c => (RC.out _ (bal hb1 (.cells #[.bool a, .int .i64 b, .int .i64 c] 73))).2.2.2.2.1; have fz := fun a b c => (RC.out _ (bal hb1 (.cells #[.bool a, .int .i64 b, .int .i64 c] 73))).2.2.2.2.2)
        | (fail))
      go_ret
      exact FX.out 2 _ rfl (by decide) (hm1.out _ _ _)
end Go.Proofs.YtiboijhfieaepaaGreatDoor.zic
