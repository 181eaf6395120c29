/-
  RecordSums: a sum is that of all steps up to a second, and changes just at leaps, by their step, for every right row of records, and every second. Condition: the row's own (the listed tables hold what their initialisers lay; the card ties that).
-/
import Derived.Test.YtooineinpgiofaaDoorRecLaw
import Derived.Test.YtooineinpgiofaaDoorCards
import Derived.Test.YtooineinpgiofaaDoorTie
import Derived.SevenTiedAt
namespace Go.Proofs.YtooineinpgiofaaDoor.recordSums
open Go.ChangeShapes Go.WideShapes Go.ChangeAt Go.RowKit
open rec rm mem
set_option linter.unusedVariables false
set_option maxRecDepth 100000

/-- what the loop has gathered. -/
def ps (l : List Cr) (d : Int) : Nat → Int
  | 0 => 0
  | k + 1 => ps l d k + (if ra l k ≤ d then sp l (ra l k) else 0)
theorem ps_leaps {l : List Cr} (h : rm.Ok l) (d : Int) : ∀ k, k ≤ nl l → ps l d k = ahd l (min k (fx l (d + 1)))
  | 0, _ => by rw [ps, Nat.zero_min, ahd_zero]
  | k + 1, hk => by
    rw [ps, ps_leaps h d k (by omega)]
    by_cases hc : k < fx l (d + 1)
    · have := fx_lt hc
      rw [if_pos (by omega), (sp_at h (by omega)).2, show min k (fx l (d + 1)) = k by omega, show min (k + 1) (fx l (d + 1)) = k + 1 by omega, ahd_succ]
      omega
    · have hf : fx l (d + 1) ≤ k := by omega
      have hr : d < ra l k := by
        have := (h.found (d + 1) (i := k) (by omega)).2 hf
        omega
      rw [if_neg (by omega), show min k (fx l (d + 1)) = fx l (d + 1) by omega, show min (k + 1) (fx l (d + 1)) = fx l (d + 1) by omega]
      omega
theorem ps_bd {l : List Cr} (h : rm.Ok l) (d : Int) {k : Nat} (hk : k ≤ nl l) : -201 ≤ ps l d k ∧ ps l d k ≤ 201 := by
  rw [ps_leaps h d k hk]
  have := nl_le l
  have := h.len
  have := h.ahd (k := min k (fx l (d + 1))) (by omega)
  omega
/-- what the last lines of it make. -/
theorem ps_end {l : List Cr} (h : rm.Ok l) (d : Int) (h0 : l.length ≤ 1 ∨ ra l (l.length - 1) ≠ ra l (l.length - 2) ∨ d < ra l (l.length - 1)) : ps l d l.length = rm.sm l d := by
  have hfl := fx_le l (d + 1)
  cases hx : hasX l
  · have e := nl_no hx
    rw [ps_leaps h d _ (by omega), show min l.length (fx l (d + 1)) = fx l (d + 1) by omega]
    rfl
  · have e := nl_yes hx
    rw [← e, ps, ps_leaps h d _ (Nat.le_refl _), show min (nl l) (fx l (d + 1)) = fx l (d + 1) by omega]
    have : (if ra l (nl l) ≤ d then sp l (ra l (nl l)) else 0) = 0 := by
      by_cases hc : ra l (nl l) ≤ d
      · rw [if_pos hc]
        refine sp_none fun i hi => ?_
        have hl := h.last hx (by omega)
        rw [← e] at h0
        simp only [Nat.add_sub_cancel] at h0
        have h1 : ra l (nl l) ≠ ra l (nl l - 1) := by
          rcases h0 with k | k | k
          · omega
          · rw [show nl l + 1 - 2 = nl l - 1 by omega] at k; exact k
          · omega
        by_cases hq : i = nl l - 1
        · subst hq; omega
        · have := h.lt (i := nl l - 1) (by omega) i (by omega); omega
      · rw [if_neg hc]
    rw [this]
    show _ = ahd l (fx l (d + 1))
    omega
theorem ps_twice {l : List Cr} (h : rm.Ok l) (d : Int) (h1 : 1 < l.length) (h2 : ra l (l.length - 1) = ra l (l.length - 2)) (h3 : ra l (l.length - 1) ≤ d) : ps l d l.length - sp l (ra l (l.length - 1)) = rm.sm l d ∧ -201 ≤ ps l d l.length - sp l (ra l (l.length - 1)) ∧ ps l d l.length - sp l (ra l (l.length - 1)) ≤ 201 := by
  have hfl := fx_le l (d + 1)
  have hb := sm_bd h d
  suffices e : ps l d l.length - sp l (ra l (l.length - 1)) = rm.sm l d by rw [e]; exact ⟨rfl, hb.1, hb.2⟩
  cases hx : hasX l
  · have e := nl_no hx
    have := h.gap (i := l.length - 1) (by omega) (by omega)
    rw [show l.length - 1 - 1 = l.length - 2 by omega] at this
    omega
  · have e := nl_yes hx
    have e1 : l.length - 1 = nl l := by omega
    rw [e1] at h3 ⊢
    rw [← e, ps, if_pos h3, ps_leaps h d _ (Nat.le_refl _), show min (nl l) (fx l (d + 1)) = fx l (d + 1) by omega]
    show _ = ahd l (fx l (d + 1))
    omega
def GHead (l : List Cr) (d : Int) (w : World) (s i : Value) (W : World) : Prop :=
  ∃ k : Nat, k ≤ l.length ∧ i = .int .i64 (k : Nat) ∧ s = .int .i64 (ps l d k) ∧ Below w.heap.size w W
set_option maxHeartbeats 4000000 in
theorem walk (w : World) (l : List Cr) (A : Option Addr) (c : Nat) (h : Crs w A l) (hc : l.length ≤ c) (d : Int) (hd : -9223372036854775808 ≤ d ∧ d ≤ 9223372036854775807) (T : day.Tabs w) :
    Calls Tryd.prog 5 #[.slice A l.length c, .int .i64 d] w fun e w' => e = .returned (.bool true) ∧ Below w.heap.size w w' := by
  have hn := h.1.2
  have hA : Below w.heap.size w w := Below.refl _ _
  have SM : Hid (∀ W, Below w.heap.size w W → Calls Tryd.prog 9 #[] W fun e w' => e = .returned (.bool true) ∧ Below W.heap.size W w') := fun W hb => small_at W (T.below hb)
  have RI : Hid (∀ W, Below w.heap.size w W → Calls Tryd.prog 16 #[.slice A l.length c] W fun e w' => e = .returned (.bool (ew l == 0)) ∧ Below W.heap.size W w') := fun W hb => right_at l A c W (h.below hb)
  by_cases g1 : l.length ≤ 300
  · have t1 : decide (300 < (l.length : Int)) = false := by simp; omega
    by_cases g2 : ew l = 0
    · rw [show (ew l == 0) = true by simpa using g2] at RI
      have hO := ew_ok.1 g2
      have hlen := hO.len
      have hnl := nl_le l
      by_cases g3 : d = -9223372036854775808
      · have t2 : (d == -9223372036854775808) = true := by simpa using g3
        clear h T g2 hO g3
        generalize l.length = n at *
        go_enter Tryd.func5, Tryd.ntmps5
        go_wp2_with (first
          | (go_at_call 9; (with_reducible refine (SM.out _ hA).mono ?_; rintro e w1 ⟨rfl, hb1⟩; have hA := btr hA hb1; (try have y0 := YC.out _ hA); (try obtain ⟨y0, y1, y2⟩ := YL.out _ hA)))
          | (go_at_call 16; (with_reducible refine (RI.out _ hA).mono ?_; rintro e w1 ⟨rfl, hb1⟩; have hA := btr hA hb1; (try have y0 := YC.out _ hA); (try obtain ⟨y0, y1, y2⟩ := YL.out _ hA))))
        go_ret
        exact ⟨rfl, hA⟩
      · have t2 : (d == -9223372036854775808) = false := by simpa using g3
        have hd1 : -9223372036854775808 < d := by omega
        have STP : Hid (∀ x W, Below w.heap.size w W → Calls Tryd.prog 26 #[.slice A l.length c, .int .i64 x] W fun e w' => e = .returned (.int .i64 (sp l x)) ∧ Below W.heap.size W w') := fun x W hb => step_at l A c x W (h.below hb) hO hc
        have SUM : Hid (∀ x W, Below w.heap.size w W → Calls Tryd.prog 24 #[.slice A l.length c, .int .i64 x] W fun e w' => e = .returned (.int .i64 (rm.sm l x)) ∧ Below W.heap.size W w') := fun x W hb => sum_at l A c x W (h.below hb) hO hc
        have HH := Lib.hid h
        have HO := Lib.hid hO
        clear h T g2 hO
        go_enter Tryd.func5, Tryd.ntmps5
        go_wp2_with (first
          | (go_at_call 9; (with_reducible refine (SM.out _ hA).mono ?_; rintro e w1 ⟨rfl, hb1⟩; have hA := btr hA hb1; (try have y0 := YC.out _ hA); (try obtain ⟨y0, y1, y2⟩ := YL.out _ hA)))
          | (go_at_call 16; (with_reducible refine (RI.out _ hA).mono ?_; rintro e w1 ⟨rfl, hb1⟩; have hA := btr hA hb1; (try have y0 := YC.out _ hA); (try obtain ⟨y0, y1, y2⟩ := YL.out _ hA))))
        go_loopw [6, 7] (fun s i W => GHead l d w s i W) (fun _ i _ => l.length - (intOf i).toNat)
        case atStart => exact ⟨0, Nat.zero_le _, rfl, rfl, hA⟩
        case round =>
          obtain ⟨k, hk, rfl, rfl, hb⟩ := hrel
          clear hA RI SM
          by_cases hlt : k < l.length
          · have hkm : k ≤ nl l := by
              cases hx : hasX l
              · have := nl_no hx; omega
              · have := nl_yes hx; omega
            have pb := ps_bd HO.out d hkm
            have sb := sp_bd HO.out (ra l k)
            have R : Hid (∀ W' z, z = (if ra l k ≤ d then sp l (ra l k) else 0) → Below wr.heap.size wr W' → GHead l d w (.int .i64 (ps l d k + z)) (.int .i64 ((k : Int) + 1)) W') := fun W' z hz hb' => ⟨k + 1, by omega, rfl, by rw [ps, hz], btr hb hb'⟩
            have STK := Lib.hid (STP.out (ra l k) wr hb)
            obtain ⟨b, o, rfl, hb0, hcc⟩ := (HH.out.below hb).2 (by omega)
            obtain ⟨y0, y1⟩ := hcc k hlt
            clear hcc HH STP SUM
            by_cases hr : ra l k ≤ d
            · have R1 := Lib.hid (fun W' hb' => R.out W' (sp l (ra l k)) (by rw [if_pos hr]) hb')
              have t3 : decide (ra l k ≤ d) = true := by simpa using hr
              clear R
              generalize ps l d k = N at *
              generalize sp l (ra l k) = z at *
              generalize ra l k = X at *
              generalize hln : l.length = n at *
              go_wp2_with (go_at_call 26; (with_reducible refine (STK.out).mono ?_); rintro e w1 ⟨rfl, hb1⟩)
              exact ⟨R1.out _ hb1, by simp [intOf]; omega⟩
            · have R1 := Lib.hid (fun W' hb' => R.out W' 0 (by rw [if_neg hr]) hb')
              have t3 : decide (ra l k ≤ d) = false := by simpa using hr
              simp only [Int.add_zero] at R1
              clear R STK
              generalize ps l d k = N at *
              generalize sp l (ra l k) = z at *
              generalize ra l k = X at *
              generalize hln : l.length = n at *
              go_wp2
              exact ⟨R1.out _ (Below.refl _ _), by simp [intOf]; omega⟩
          · obtain rfl : k = l.length := by omega
            have hO := HO.out
            have sn := sm_next hO d
            have sb := sp_bd hO d
            have mb := sm_bd hO d
            have mb1 := sm_bd hO (d - 1)
            have hA : Below w.heap.size w wr := hb
            have S1 := Lib.hid (SUM.out d)
            have S2 := Lib.hid (SUM.out (d - 1))
            have P1 := Lib.hid (STP.out d)
            by_cases c1 : l.length ≤ 1
            · have t3 : decide (1 < (l.length : Int)) = false := by simp; omega
              rw [ps_end hO d (Or.inl c1)]
              clear hO HO HH SUM STP
              generalize rm.sm l (d - 1) = Z1 at *
              generalize rm.sm l d = Z at *
              generalize sp l d = z at *
              have t4 : (Z == Z1 + z) = true := by rw [beq_iff_eq]; exact sn
              generalize l.length = n at *
              go_wp2_with fail
              go_quiet (fail)
              go_wp2_with fail
              generalize hW : World.drewN _ _ = W3 at *
              have hA : Below w.heap.size w W3 := hW ▸ bel_drewN hA _
              clear hW
              go_wp2_with (first
                | (go_at_call 26; (with_reducible refine (P1.out _ hA).mono ?_; rintro e w1 ⟨rfl, hb1⟩; have hA := btr hA hb1; (try have y0 := YC.out _ hA); (try obtain ⟨y0, y1, y2⟩ := YL.out _ hA)))
                | (go_at_call 24; (first | (with_reducible refine (S1.out _ hA).mono ?_; rintro e w1 ⟨rfl, hb1⟩; have hA := btr hA hb1; (try have y0 := YC.out _ hA); (try obtain ⟨y0, y1, y2⟩ := YL.out _ hA)) | (with_reducible refine (S2.out _ hA).mono ?_; rintro e w1 ⟨rfl, hb1⟩; have hA := btr hA hb1; (try have y0 := YC.out _ hA); (try obtain ⟨y0, y1, y2⟩ := YL.out _ hA)))))
              go_ret
              exact ⟨ret_bool (by first | rfl | simp [*]), hA⟩
            · have t3 : decide (1 < (l.length : Int)) = true := by simp; omega
              have hl1 : (l.length : Int) - 1 = ((l.length - 1 : Nat) : Int) := by omega
              have hl2 : (l.length : Int) - 2 = ((l.length - 2 : Nat) : Int) := by omega
              obtain ⟨b, o, rfl, hb0, hcc⟩ := (HH.out.below hb).2 (by omega)
              have yA := (hcc (l.length - 1) (by omega)).1
              have yB := (hcc (l.length - 2) (by omega)).1
              clear hcc
              by_cases c2 : ra l (l.length - 1) = ra l (l.length - 2)
              · by_cases c3 : ra l (l.length - 1) ≤ d
                · obtain ⟨pt, pt1, pt2⟩ := ps_twice hO d (by omega) c2 c3
                  have pb3 : -202 ≤ ps l d l.length ∧ ps l d l.length ≤ 202 := by have := sp_bd hO (ra l (l.length - 1)); omega
                  have sb3 := sp_bd hO (ra l (l.length - 1))
                  have P3 := Lib.hid (STP.out (ra l (l.length - 1)))
                  have t5 : (ra l (l.length - 1) == ra l (l.length - 2)) = true := by simpa using c2
                  have t6 : decide (ra l (l.length - 1) ≤ d) = true := by simpa using c3
                  clear hO HO HH SUM STP c2
                  generalize rm.sm l (d - 1) = Z1 at *
                  generalize hZ : rm.sm l d = Z at *
                  generalize sp l d = z at *
                  have t4 : (Z == Z1 + z) = true := by rw [beq_iff_eq]; exact sn
                  generalize ps l d l.length = N at *
                  generalize sp l (ra l (l.length - 1)) = z3 at *
                  have t7 : (Z == N - z3) = true := by rw [beq_iff_eq]; exact pt.symm
                  generalize ra l (l.length - 1) = X at *
                  generalize ra l (l.length - 2) = Y at *
                  generalize l.length = n at *
                  go_wp2_with fail
                  go_quiet (fail)
                  go_wp2_with fail
                  generalize hW : World.drewN _ _ = W3 at *
                  have hA : Below w.heap.size w W3 := hW ▸ bel_drewN hA _
                  have yC : W3.cell? ⟨b, o + (n - 1) * 2, none⟩ = some (.int .i64 X) := by rw [← hW]; exact yA
                  clear hW
                  go_wp2_with (first
                    | (go_at_call 26; (first | (with_reducible refine (P3.out _ hA).mono ?_; rintro e w1 ⟨rfl, hb1⟩; have hA := btr hA hb1; (try have y0 := YC.out _ hA); (try obtain ⟨y0, y1, y2⟩ := YL.out _ hA)) | (with_reducible refine (P1.out _ hA).mono ?_; rintro e w1 ⟨rfl, hb1⟩; have hA := btr hA hb1; (try have y0 := YC.out _ hA); (try obtain ⟨y0, y1, y2⟩ := YL.out _ hA))))
                    | (go_at_call 24; (first | (with_reducible refine (S1.out _ hA).mono ?_; rintro e w1 ⟨rfl, hb1⟩; have hA := btr hA hb1; (try have y0 := YC.out _ hA); (try obtain ⟨y0, y1, y2⟩ := YL.out _ hA)) | (with_reducible refine (S2.out _ hA).mono ?_; rintro e w1 ⟨rfl, hb1⟩; have hA := btr hA hb1; (try have y0 := YC.out _ hA); (try obtain ⟨y0, y1, y2⟩ := YL.out _ hA)))))
                  go_ret
                  exact ⟨ret_bool (by first | rfl | simp [*]), hA⟩
                · rw [ps_end hO d (Or.inr (Or.inr (by omega)))]
                  have t5 : (ra l (l.length - 1) == ra l (l.length - 2)) = true := by simpa using c2
                  have t6 : decide (ra l (l.length - 1) ≤ d) = false := by simpa using c3
                  clear hO HO HH SUM STP c2
                  generalize rm.sm l (d - 1) = Z1 at *
                  generalize rm.sm l d = Z at *
                  generalize sp l d = z at *
                  have t4 : (Z == Z1 + z) = true := by rw [beq_iff_eq]; exact sn
                  generalize ra l (l.length - 1) = X at *
                  generalize ra l (l.length - 2) = Y at *
                  generalize l.length = n at *
                  go_wp2_with fail
                  go_quiet (fail)
                  go_wp2_with fail
                  generalize hW : World.drewN _ _ = W3 at *
                  have hA : Below w.heap.size w W3 := hW ▸ bel_drewN hA _
                  clear hW
                  go_wp2_with (first
                    | (go_at_call 26; (with_reducible refine (P1.out _ hA).mono ?_; rintro e w1 ⟨rfl, hb1⟩; have hA := btr hA hb1; (try have y0 := YC.out _ hA); (try obtain ⟨y0, y1, y2⟩ := YL.out _ hA)))
                    | (go_at_call 24; (first | (with_reducible refine (S1.out _ hA).mono ?_; rintro e w1 ⟨rfl, hb1⟩; have hA := btr hA hb1; (try have y0 := YC.out _ hA); (try obtain ⟨y0, y1, y2⟩ := YL.out _ hA)) | (with_reducible refine (S2.out _ hA).mono ?_; rintro e w1 ⟨rfl, hb1⟩; have hA := btr hA hb1; (try have y0 := YC.out _ hA); (try obtain ⟨y0, y1, y2⟩ := YL.out _ hA)))))
                  go_ret
                  exact ⟨ret_bool (by first | rfl | simp [*]), hA⟩
              · rw [ps_end hO d (Or.inr (Or.inl c2))]
                have t5 : (ra l (l.length - 1) == ra l (l.length - 2)) = false := by simpa using c2
                clear hO HO HH SUM STP c2
                generalize rm.sm l (d - 1) = Z1 at *
                generalize rm.sm l d = Z at *
                generalize sp l d = z at *
                have t4 : (Z == Z1 + z) = true := by rw [beq_iff_eq]; exact sn
                generalize ra l (l.length - 1) = X at *
                generalize ra l (l.length - 2) = Y at *
                generalize l.length = n at *
                go_wp2_with fail
                go_quiet (fail)
                go_wp2_with fail
                generalize hW : World.drewN _ _ = W3 at *
                have hA : Below w.heap.size w W3 := hW ▸ bel_drewN hA _
                clear hW
                go_wp2_with (first
                  | (go_at_call 26; (with_reducible refine (P1.out _ hA).mono ?_; rintro e w1 ⟨rfl, hb1⟩; have hA := btr hA hb1; (try have y0 := YC.out _ hA); (try obtain ⟨y0, y1, y2⟩ := YL.out _ hA)))
                  | (go_at_call 24; (first | (with_reducible refine (S1.out _ hA).mono ?_; rintro e w1 ⟨rfl, hb1⟩; have hA := btr hA hb1; (try have y0 := YC.out _ hA); (try obtain ⟨y0, y1, y2⟩ := YL.out _ hA)) | (with_reducible refine (S2.out _ hA).mono ?_; rintro e w1 ⟨rfl, hb1⟩; have hA := btr hA hb1; (try have y0 := YC.out _ hA); (try obtain ⟨y0, y1, y2⟩ := YL.out _ hA)))))
                go_ret
                exact ⟨ret_bool (by first | rfl | simp [*]), hA⟩
    · rw [show (ew l == 0) = false by simpa using g2] at RI
      clear h T g2
      generalize l.length = n at *
      go_enter Tryd.func5, Tryd.ntmps5
      go_wp2_with (first
        | (go_at_call 9; (with_reducible refine (SM.out _ hA).mono ?_; rintro e w1 ⟨rfl, hb1⟩; have hA := btr hA hb1; (try have y0 := YC.out _ hA); (try obtain ⟨y0, y1, y2⟩ := YL.out _ hA)))
        | (go_at_call 16; (with_reducible refine (RI.out _ hA).mono ?_; rintro e w1 ⟨rfl, hb1⟩; have hA := btr hA hb1; (try have y0 := YC.out _ hA); (try obtain ⟨y0, y1, y2⟩ := YL.out _ hA))))
      go_ret
      exact ⟨rfl, hA⟩
  · have t1 : decide (300 < (l.length : Int)) = true := by simp; omega
    clear h T g1 RI
    generalize l.length = n at *
    go_enter Tryd.func5, Tryd.ntmps5
    go_wp2_with (first
      | (go_at_call 9; (with_reducible refine (SM.out _ hA).mono ?_; rintro e w1 ⟨rfl, hb1⟩; have hA := btr hA hb1; (try have y0 := YC.out _ hA); (try obtain ⟨y0, y1, y2⟩ := YL.out _ hA))))
    go_ret
    exact ⟨rfl, hA⟩
theorem door_met (os : Os) (args : Array Value) : laidMetH Tryd.prog Rows.recordSumsRow.laid ((World.doorLaid Tryd.prog 400 os).forCall (fun _ _ => 0) ⟨#[], args, []⟩).memory :=
  laidMetH_of_parts3 (fuel := 8) (laidMet_of_run' 8 (by kernel_rfl) (by kernel_rfl)) (by kernel_rfl) (by kernel_rfl)
set_option maxRecDepth 100000 in
theorem lifted (os : Os) (started : os.Started) (H : Type) (enc : TypeId × Value → H) :
    ReturnsInHanded {} Tryd.checked os 5 .any (fun w args => (Rows.recordSumsSpec.pre enc Tryd.prog Tryd.f5 [] false w args ∧ laidMetH Tryd.prog Rows.recordSumsRow.laid w) ∧ sizedMet enc Tryd.prog Tryd.f5 (OpenSpec.ofChange Rows.recordSumsSpec) false w args)
      (Rows.recordSumsSpec.post enc Tryd.prog Tryd.f5 false true false false) := by
  refine returnsInHanded_of_change_and (C := Tryd.checked) (X := fun w _ => laidMetH Tryd.prog Rows.recordSumsRow.laid w) (fun _ _ _ hh h => h.of_heap hh) law.own started (by kernel_rfl) Tryd.func5
    (ChangeSpec.witness_shaped (enc := enc) (C := Tryd.checked) (os := os) (X := fun w _ => laidMetH Tryd.prog Rows.recordSumsRow.laid w) false (World.doorLaid Tryd.prog 400 os) #[.slice none 0 0, .int .i64 0] 8 rfl (World.shaped_of_RefB (by kernel_rfl) (by kernel_rfl)) (by kernel_rfl) (by kernel_rfl) (by kernel_rfl) (door_met os _)) ?_
  intro W base args ds gs before hval0 hW _ _ hL _
  rw [MakeChecks.laidMetH_plain _ _ _ (by kernel_rfl)] at hL
  have T0 := day.tabs_of hL (by repeat first | exact List.Mem.head _ | refine List.Mem.tail _ ?_) (by repeat first | exact List.Mem.head _ | refine List.Mem.tail _ ?_)
  have hval : ∀ (j : Nat) t v, Tryd.f5.params[j]? = some t → args[j]? = some v → Value.okWide Tryd.prog W .any base t v := hval0
  have hW' := hW
  obtain ⟨p, q, hA0, hV, rfl, hfz, hnd⟩ := hW
  have hA : DataW.TrodAll enc Tryd.prog W 0 (fun _ => true) true Tryd.f5.params.toList args.toList ds p := hA0
  rw [Tryd.params5] at hA hval
  obtain ⟨v0, vs0, d0, ds0, p0, q0, hargs, rfl, rfl, h0, r0⟩ := trodAll_cons hA
  obtain ⟨v1, vs1, d1, ds1, p1, q1, rfl, rfl, rfl, h1, r1⟩ := trodAll_cons r0
  obtain ⟨rfl, rfl, rfl⟩ := trodAll_nil r1
  obtain rfl : args = #[v0, v1] := by cases args; simp_all
  obtain ⟨rfl, rfl⟩ := trodVars_none hV
  clear hA0 hval0
  obtain ⟨A0_, k0_, l0_, rfl, q0_, n0_⟩ := rec.open_corrs (hval 0 25 v0 rfl rfl) h0
  obtain ⟨a1, rfl, hd1, hp1, w1⟩ := open_int Tryd.underlying3 (hval 1 3 v1 rfl rfl) h1
  refine (Calls.mono (R := fun e w' => e = .returned (.bool true) ∧ Below W.heap.size W w') ?_ fun e W' ⟨he, hb⟩ => ?_)
  · exact walk W l0_ A0_ k0_ q0_ n0_ a1 (bounds_i64 w1) T0
  · subst he
    exact ⟨_, rfl, law.post law.laidOut (by kernel_rfl) rfl rfl Tryd.underlying4 rfl hW' hb⟩

theorem over : Rows.recordSumsRow.holds Tryd.pinned (OpenSpec.ofChange Rows.recordSumsSpec) :=
  OpenClaim.holds_of_wide 5 Tryd.f5 rfl rfl rfl rfl rfl rfl rfl ⟨rfl, rfl, rfl, rfl, rfl⟩ rfl rfl rfl rfl rfl (by kernel_rfl) Tryd.func5 (by kernel_rfl)
    (of_decide_eq_true (by kernel_rfl)) (by unfold Func.isWrapper; first | (rw [if_pos (by decide +kernel)]; kernel_rfl) | (rw [if_neg (by decide +kernel)]; exact ⟨rfl, rfl⟩))
    (fun os started H enc _ => lifted os started H enc)

theorem proved : Rows.RecordSumsCardSaid :=
  Claim7.holds_tied_plain_at .later [] _ _ _ _ over (fun _ h => by cases h) (by kernel_rfl) (fun _ h => by cases h) recordSums_row_tie rfl ⟨rfl, rfl⟩ (by kernel_rfl) rfl
    (fun f fn hf hfn => by
      obtain rfl : f = 5 := Option.some.inj ((show Tryd.prog.funcNamed "epact/epactlaw12.RecordSums" = some 5 by kernel_rfl).symm.trans hf) |>.symm
      obtain rfl : fn = Tryd.f5 := (Option.some.inj (Tryd.func5.symm.trans hfn)).symm
      exact ⟨by kernel_rfl, fun j t ht => by
        have hall : (Tryd.f5.params.toList.all fun u => !Tryd.prog.wantsStandIn u) = true := by kernel_rfl
        have hm : t ∈ Tryd.f5.params.toList := by rw [Array.mem_toList_iff]; exact Array.mem_of_getElem? ht
        exact (show Tryd.prog.wantsStandIn t = false by simpa using List.all_eq_true.1 hall t hm)⟩)
    (by kernel_rfl)
end Go.Proofs.YtooineinpgiofaaDoor.recordSums
