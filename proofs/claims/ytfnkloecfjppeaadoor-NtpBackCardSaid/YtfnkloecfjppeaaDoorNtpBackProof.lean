/-
  NtpBack: seconds of both epochs are each other's, and later ones later, for every two numbers of 64 bits. Condition: the row's own (the library's listed tables hold what their initialisers lay; the card ties that).
-/
import Derived.Test.YtfnkloecfjppeaaDoorNtpLaw
import Derived.Test.YtfnkloecfjppeaaDoorCards
import Derived.Test.YtfnkloecfjppeaaDoorTie
import Derived.SevenTiedAt
namespace Go.Proofs.YtfnkloecfjppeaaDoor.ntpBack
open Go.ChangeShapes Go.WideShapes Go.ChangeAt Go.RowKit
open ntp
set_option linter.unusedVariables false

theorem there (n : Int) (hn : fit n) (h : 0 ≤ n) (W : World) : Calls Tryd.prog 11 #[.int .i64 (n - 2208988800)] W fun e w' => e = .returned (.tuple #[.int .i64 n, .bool true]) ∧ W = w' := by
  have := ntp_yes (n - 2208988800) W (by unfold fit at hn; unfold Has; omega)
  rw [show n - 2208988800 + 2208988800 = n by omega] at this
  exact this
theorem back (n : Int) (h : Has n) (W : World) : Calls Tryd.prog 9 #[.int .i64 (n + 2208988800)] W fun e w' => e = .returned (.tuple #[.int .i64 n, .bool true]) ∧ W = w' := by
  have := posix_yes (n + 2208988800) W (by unfold Has at h; unfold fit; omega) (by unfold Has at h; omega)
  rw [show n + 2208988800 - 2208988800 = n by omega] at this
  exact this
set_option maxHeartbeats 4000000 in
theorem walk (n : Int) (hn : -9223372036854775808 ≤ n ∧ n ≤ 9223372036854775807) (m : Int) (hm : -9223372036854775808 ≤ m ∧ m ≤ 9223372036854775807) (w : World) (T : Tz w) :
    Calls Tryd.prog 4 #[.int .i64 n, .int .i64 m] w fun e w' => e = .returned (.bool true) ∧ Below w.heap.size w w' := by
  have S := Lib.hid (small_at w T)
  clear T
  obtain ⟨hn1, hn2⟩ := id hn
  obtain ⟨hm1, hm2⟩ := id hm
  by_cases n0 : 0 ≤ n
  · have P1 := Lib.hid (fun W => posix_yes n W hn n0)
    have P2 := Lib.hid (fun W => there n hn n0 W)
    by_cases n1 : Has n
    · have Q1 := Lib.hid (fun W => ntp_yes n W n1)
      have Q2 := Lib.hid (fun W => back n n1 W)
      obtain ⟨k1, k2⟩ := n1
      by_cases m0 : 0 ≤ m
      · have R1 := Lib.hid (fun W => posix_yes m W hm m0)
        go_enter Tryd.func4, Tryd.ntmps4
        go_wp2_with (first
          | (go_at_call 8; (with_reducible refine (S.out).mono ?_; rintro e w1 ⟨rfl, hb1⟩))
          | (go_at_call 9; (first | (with_reducible refine (P1.out _).mono ?_; rintro e w' ⟨rfl, rfl⟩) | (with_reducible refine (Q2.out _).mono ?_; rintro e w' ⟨rfl, rfl⟩) | (with_reducible refine (R1.out _).mono ?_; rintro e w' ⟨rfl, rfl⟩)))
          | (go_at_call 11; (first | (with_reducible refine (P2.out _).mono ?_; rintro e w' ⟨rfl, rfl⟩) | (with_reducible refine (Q1.out _).mono ?_; rintro e w' ⟨rfl, rfl⟩))))
        all_goals
          go_ret
          exact ⟨sha.ret_bool (by first | rfl | (simp; omega)), hb1⟩
      · have R1 := Lib.hid (fun W => posix_no m W hm m0)
        go_enter Tryd.func4, Tryd.ntmps4
        go_wp2_with (first
          | (go_at_call 8; (with_reducible refine (S.out).mono ?_; rintro e w1 ⟨rfl, hb1⟩))
          | (go_at_call 9; (first | (with_reducible refine (P1.out _).mono ?_; rintro e w' ⟨rfl, rfl⟩) | (with_reducible refine (Q2.out _).mono ?_; rintro e w' ⟨rfl, rfl⟩) | (with_reducible refine (R1.out _).mono ?_; rintro e w' ⟨rfl, rfl⟩)))
          | (go_at_call 11; (first | (with_reducible refine (P2.out _).mono ?_; rintro e w' ⟨rfl, rfl⟩) | (with_reducible refine (Q1.out _).mono ?_; rintro e w' ⟨rfl, rfl⟩))))
        all_goals
          go_ret
          exact ⟨sha.ret_bool (by first | rfl | (simp; omega)), hb1⟩
    · have Q1 := Lib.hid (fun W => ntp_no n W hn n1)
      clear n1
      by_cases m0 : 0 ≤ m
      · have R1 := Lib.hid (fun W => posix_yes m W hm m0)
        go_enter Tryd.func4, Tryd.ntmps4
        go_wp2_with (first
          | (go_at_call 8; (with_reducible refine (S.out).mono ?_; rintro e w1 ⟨rfl, hb1⟩))
          | (go_at_call 9; (first | (with_reducible refine (P1.out _).mono ?_; rintro e w' ⟨rfl, rfl⟩) | (with_reducible refine (R1.out _).mono ?_; rintro e w' ⟨rfl, rfl⟩)))
          | (go_at_call 11; (first | (with_reducible refine (P2.out _).mono ?_; rintro e w' ⟨rfl, rfl⟩) | (with_reducible refine (Q1.out _).mono ?_; rintro e w' ⟨rfl, rfl⟩))))
        all_goals
          go_ret
          exact ⟨sha.ret_bool (by first | rfl | (simp; omega)), hb1⟩
      · have R1 := Lib.hid (fun W => posix_no m W hm m0)
        go_enter Tryd.func4, Tryd.ntmps4
        go_wp2_with (first
          | (go_at_call 8; (with_reducible refine (S.out).mono ?_; rintro e w1 ⟨rfl, hb1⟩))
          | (go_at_call 9; (first | (with_reducible refine (P1.out _).mono ?_; rintro e w' ⟨rfl, rfl⟩) | (with_reducible refine (R1.out _).mono ?_; rintro e w' ⟨rfl, rfl⟩)))
          | (go_at_call 11; (first | (with_reducible refine (P2.out _).mono ?_; rintro e w' ⟨rfl, rfl⟩) | (with_reducible refine (Q1.out _).mono ?_; rintro e w' ⟨rfl, rfl⟩))))
        all_goals
          go_ret
          exact ⟨sha.ret_bool (by first | rfl | (simp; omega)), hb1⟩
  · have P1 := Lib.hid (fun W => posix_no n W hn n0)
    by_cases n1 : Has n
    · have Q1 := Lib.hid (fun W => ntp_yes n W n1)
      have Q2 := Lib.hid (fun W => back n n1 W)
      obtain ⟨k1, k2⟩ := n1
      by_cases m0 : 0 ≤ m
      · have R1 := Lib.hid (fun W => posix_yes m W hm m0)
        go_enter Tryd.func4, Tryd.ntmps4
        go_wp2_with (first
          | (go_at_call 8; (with_reducible refine (S.out).mono ?_; rintro e w1 ⟨rfl, hb1⟩))
          | (go_at_call 9; (first | (with_reducible refine (P1.out _).mono ?_; rintro e w' ⟨rfl, rfl⟩) | (with_reducible refine (Q2.out _).mono ?_; rintro e w' ⟨rfl, rfl⟩) | (with_reducible refine (R1.out _).mono ?_; rintro e w' ⟨rfl, rfl⟩)))
          | (go_at_call 11; (with_reducible refine (Q1.out _).mono ?_; rintro e w' ⟨rfl, rfl⟩)))
        all_goals
          go_ret
          exact ⟨sha.ret_bool (by first | rfl | (simp; omega)), hb1⟩
      · have R1 := Lib.hid (fun W => posix_no m W hm m0)
        go_enter Tryd.func4, Tryd.ntmps4
        go_wp2_with (first
          | (go_at_call 8; (with_reducible refine (S.out).mono ?_; rintro e w1 ⟨rfl, hb1⟩))
          | (go_at_call 9; (first | (with_reducible refine (P1.out _).mono ?_; rintro e w' ⟨rfl, rfl⟩) | (with_reducible refine (Q2.out _).mono ?_; rintro e w' ⟨rfl, rfl⟩) | (with_reducible refine (R1.out _).mono ?_; rintro e w' ⟨rfl, rfl⟩)))
          | (go_at_call 11; (with_reducible refine (Q1.out _).mono ?_; rintro e w' ⟨rfl, rfl⟩)))
        all_goals
          go_ret
          exact ⟨sha.ret_bool (by first | rfl | (simp; omega)), hb1⟩
    · have Q1 := Lib.hid (fun W => ntp_no n W hn n1)
      clear n1
      by_cases m0 : 0 ≤ m
      · have R1 := Lib.hid (fun W => posix_yes m W hm m0)
        go_enter Tryd.func4, Tryd.ntmps4
        go_wp2_with (first
          | (go_at_call 8; (with_reducible refine (S.out).mono ?_; rintro e w1 ⟨rfl, hb1⟩))
          | (go_at_call 9; (first | (with_reducible refine (P1.out _).mono ?_; rintro e w' ⟨rfl, rfl⟩) | (with_reducible refine (R1.out _).mono ?_; rintro e w' ⟨rfl, rfl⟩)))
          | (go_at_call 11; (with_reducible refine (Q1.out _).mono ?_; rintro e w' ⟨rfl, rfl⟩)))
        all_goals
          go_ret
          exact ⟨sha.ret_bool (by first | rfl | (simp; omega)), hb1⟩
      · have R1 := Lib.hid (fun W => posix_no m W hm m0)
        go_enter Tryd.func4, Tryd.ntmps4
        go_wp2_with (first
          | (go_at_call 8; (with_reducible refine (S.out).mono ?_; rintro e w1 ⟨rfl, hb1⟩))
          | (go_at_call 9; (first | (with_reducible refine (P1.out _).mono ?_; rintro e w' ⟨rfl, rfl⟩) | (with_reducible refine (R1.out _).mono ?_; rintro e w' ⟨rfl, rfl⟩)))
          | (go_at_call 11; (with_reducible refine (Q1.out _).mono ?_; rintro e w' ⟨rfl, rfl⟩)))
        all_goals
          go_ret
          exact ⟨sha.ret_bool (by first | rfl | (simp; omega)), hb1⟩
theorem door_met (os : Os) (args : Array Value) : laidMetH Tryd.prog Rows.ntpBackRow.laid ((World.doorLaid Tryd.prog 400 os).forCall (fun _ _ => 0) ⟨#[], args, []⟩).memory :=
  laidMetH_of_parts3 (fuel := 8) (laidMet_of_run' 8 (by kernel_rfl) (by kernel_rfl)) (by kernel_rfl) (by kernel_rfl)
set_option maxRecDepth 100000 in
theorem lifted (os : Os) (started : os.Started) (H : Type) (enc : TypeId × Value → H) :
    ReturnsInHanded {} Tryd.checked os 4 .any (fun w args => (Rows.ntpBackSpec.pre enc Tryd.prog Tryd.f4 [] false w args ∧ laidMetH Tryd.prog Rows.ntpBackRow.laid w) ∧ sizedMet enc Tryd.prog Tryd.f4 (OpenSpec.ofChange Rows.ntpBackSpec) false w args)
      (Rows.ntpBackSpec.post enc Tryd.prog Tryd.f4 false true false false) := by
  refine returnsInHanded_of_change_and (C := Tryd.checked) (X := fun w _ => laidMetH Tryd.prog Rows.ntpBackRow.laid w) (fun _ _ _ hh h => h.of_heap hh) law.own started (by kernel_rfl) Tryd.func4
    (ChangeSpec.witness_shaped (enc := enc) (C := Tryd.checked) (os := os) (X := fun w _ => laidMetH Tryd.prog Rows.ntpBackRow.laid w) false (World.doorLaid Tryd.prog 400 os) #[.int .i64 0, .int .i64 0] 8 rfl (World.shaped_of_RefB (by kernel_rfl) (by kernel_rfl)) (by kernel_rfl) (by kernel_rfl) (by kernel_rfl) (door_met os _)) ?_
  intro W base args ds gs before hval0 hW _ _ hL _
  rw [MakeChecks.laidMetH_plain _ _ _ (by kernel_rfl)] at hL
  have T0 := ntp.tz_of hL (by repeat first | exact List.Mem.head _ | refine List.Mem.tail _ ?_)
  have hval : ∀ (j : Nat) t v, Tryd.f4.params[j]? = some t → args[j]? = some v → Value.okWide Tryd.prog W .any base t v := hval0
  have hW' := hW
  obtain ⟨p, q, hA0, hV, rfl, hfz, hnd⟩ := hW
  have hA : DataW.TrodAll enc Tryd.prog W 0 (fun _ => true) true Tryd.f4.params.toList args.toList ds p := hA0
  rw [Tryd.params4] at hA hval
  obtain ⟨v0, vs0, d0, ds0, p0, q0, hargs, rfl, rfl, h0, r0⟩ := trodAll_cons hA
  obtain ⟨v1, vs1, d1, ds1, p1, q1, rfl, rfl, rfl, h1, r1⟩ := trodAll_cons r0
  obtain ⟨rfl, rfl, rfl⟩ := trodAll_nil r1
  obtain rfl : args = #[v0, v1] := by cases args; simp_all
  obtain ⟨rfl, rfl⟩ := trodVars_none hV
  clear hA0 hval0
  obtain ⟨a0, rfl, hd0, hp0, w0⟩ := open_int Tryd.underlying3 (hval 0 3 v0 rfl rfl) h0
  obtain ⟨a1, rfl, hd1, hp1, w1⟩ := open_int Tryd.underlying3 (hval 1 3 v1 rfl rfl) h1
  refine (Calls.mono (R := fun e w' => e = .returned (.bool true) ∧ Below W.heap.size W w') ?_ fun e W' ⟨he, hb⟩ => ?_)
  · exact walk a0 (bounds_i64 w0) a1 (bounds_i64 w1) W T0
  · subst he
    exact ⟨_, rfl, law.post law.laidOut (by kernel_rfl) rfl rfl Tryd.underlying4 rfl hW' hb⟩

theorem over : Rows.ntpBackRow.holds Tryd.pinned (OpenSpec.ofChange Rows.ntpBackSpec) :=
  OpenClaim.holds_of_wide 4 Tryd.f4 rfl rfl rfl rfl rfl rfl rfl ⟨rfl, rfl, rfl, rfl, rfl⟩ rfl rfl rfl rfl rfl (by kernel_rfl) Tryd.func4 (by kernel_rfl)
    (of_decide_eq_true (by kernel_rfl)) (by unfold Func.isWrapper; first | (rw [if_pos (by decide +kernel)]; kernel_rfl) | (rw [if_neg (by decide +kernel)]; exact ⟨rfl, rfl⟩))
    (fun os started H enc _ => lifted os started H enc)

theorem proved : Rows.NtpBackCardSaid :=
  Claim7.holds_tied_plain_at .later [] _ _ _ _ over (fun _ h => by cases h) (by kernel_rfl) (fun _ h => by cases h) ntpBack_row_tie rfl ⟨rfl, rfl⟩ (by kernel_rfl) rfl
    (fun f fn hf hfn => by
      obtain rfl : f = 4 := Option.some.inj ((show Tryd.prog.funcNamed "epact/epactlaw07.NtpBack" = some 4 by kernel_rfl).symm.trans hf) |>.symm
      obtain rfl : fn = Tryd.f4 := (Option.some.inj (Tryd.func4.symm.trans hfn)).symm
      exact ⟨by kernel_rfl, fun j t ht => by
        have hall : (Tryd.f4.params.toList.all fun u => !Tryd.prog.wantsStandIn u) = true := by kernel_rfl
        have hm : t ∈ Tryd.f4.params.toList := by rw [Array.mem_toList_iff]; exact Array.mem_of_getElem? ht
        exact (show Tryd.prog.wantsStandIn t = false by simpa using List.all_eq_true.1 hall t hm)⟩)
    (by kernel_rfl)
end Go.Proofs.YtfnkloecfjppeaaDoor.ntpBack
