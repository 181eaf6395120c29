/-
  NtpTells: package ntp answers as the document's own answers do, for every number, every text and every hash. Condition: the row's own (the library's listed tables hold what their initialisers lay; the card ties that).
-/
import Derived.Test.YtfnkloecfjppeaaDoorNtpLaw
import Derived.Test.YtfnkloecfjppeaaDoorRef07Hash
import Derived.Test.YtfnkloecfjppeaaDoorCards
import Derived.Test.YtfnkloecfjppeaaDoorTie
import Derived.SevenTiedAt
import Derived.Lib.QuietBelow
namespace Go.Proofs.YtfnkloecfjppeaaDoor.ntpTells
open Go.ChangeShapes Go.WideShapes Go.ChangeAt Go.RowKit
open ntp nx lx sx
open sha (hp_new hp_old kept bal btr szc sz5 gload eq5 same same_self qload below_of ret_bool)
set_option linter.unusedVariables false

theorem posix_two (n : Int) (hn : fit n) : ∃ a b, fit a ∧ (∀ W, Calls Tryd.prog 9 #[.int .i64 n] W fun e w' => e = .returned (.tuple #[.int .i64 a, .bool b]) ∧ W = w') ∧ (∀ W, Calls Tryd.prog 10 #[.int .i64 n] W fun e w' => e = .returned (.tuple #[.int .i64 a, .bool b]) ∧ W = w') := by
  by_cases h : 0 ≤ n
  · exact ⟨_, _, by unfold fit at *; omega, fun W => posix_yes n W hn h, fun W => ref07.posix_yes n W hn h⟩
  · exact ⟨_, _, by unfold fit at *; omega, fun W => posix_no n W hn h, fun W => ref07.posix_no n W hn h⟩
theorem ntp_two (n : Int) (hn : fit n) : ∃ a b, fit a ∧ (∀ W, Calls Tryd.prog 11 #[.int .i64 n] W fun e w' => e = .returned (.tuple #[.int .i64 a, .bool b]) ∧ W = w') ∧ (∀ W, Calls Tryd.prog 12 #[.int .i64 n] W fun e w' => e = .returned (.tuple #[.int .i64 a, .bool b]) ∧ W = w') := by
  by_cases h : Has n
  · exact ⟨_, _, by unfold fit Has at *; omega, fun W => ntp_yes n W h, fun W => ref07.ntp_yes n W h⟩
  · exact ⟨_, _, by unfold fit at *; omega, fun W => ntp_no n W hn h, fun W => ref07.ntp_no n W hn h⟩
theorem hash_two (s : ByteArray) (hs : s.size < 4294967281) : ∃ (g : Nat → Nat) (b : Bool), (∀ W, Calls Tryd.prog 15 #[.string s] W fun e w' => e = .returned (.tuple #[.agg #[.int .u32 (g 0 : Nat), .int .u32 (g 1 : Nat), .int .u32 (g 2 : Nat), .int .u32 (g 3 : Nat), .int .u32 (g 4 : Nat)], .bool b]) ∧ Below W.heap.size W w') ∧ (∀ W, Calls Tryd.prog 16 #[.string s] W fun e w' => e = .returned (.tuple #[.agg #[.int .u32 (g 0 : Nat), .int .u32 (g 1 : Nat), .int .u32 (g 2 : Nat), .int .u32 (g 3 : Nat), .int .u32 (g 4 : Nat)], .bool b]) ∧ Below W.heap.size W w') :=
  ⟨hN s, hT s, fun W => hash_at s W hs, fun W => ref07.hash_at s W hs⟩
theorem word_two (s : ByteArray) (hs : s.size < 4294967281) : ∃ (g : Nat) (b : Bool), (∀ W, Calls Tryd.prog 13 #[.string s] W fun e w' => e = .returned (.tuple #[.int .u32 (g : Nat), .bool b]) ∧ Below W.heap.size W w') ∧ (∀ W, Calls Tryd.prog 14 #[.string s] W fun e w' => e = .returned (.tuple #[.int .u32 (g : Nat), .bool b]) ∧ Below W.heap.size W w') :=
  ⟨wN (L s), wT (L s), fun W => word_at s W (by omega), fun W => ref07.word_at s W (by omega)⟩
theorem regrown5 {W : World} {g : Nat} {f : Nat → Nat} (h : W.heap[g]? = some (.cells (cs .u32 f 5) 23)) : ∀ W', (∃ p : Regrown, W' = Sort.grow (redrawn W p.d) p.os) → (loadVar 23 ⟨g, 0, none⟩).run Tryd.prog W' = .ok (.agg (cs .u32 f 5)) W' := by
  rintro W' ⟨p, rfl⟩
  exact run_loadVar_row _ g 23 23 _ (0, 0) _ (kept h (below_regrown W p.d p.os)) Tryd.underlying23 rfl (szc sz5 _ _)
set_option maxHeartbeats 4000000 in
theorem walk (w : World) (n : Int) (hn : -9223372036854775808 ≤ n ∧ n ≤ 9223372036854775807) (s : ByteArray) (hs : s.size ≤ maxLen) (f : Nat → Nat) (hf : ∀ k, k < 5 → f k < 4294967296) (T : Tz w) : Calls Tryd.prog 3 #[.int .i64 n, .string s, .agg (cs .u32 f 5)] w fun e w' => e = .returned (.bool true) ∧ Below w.heap.size w w' := by
  unfold maxLen at hs
  have hb0 : Below w.heap.size w (w.alloc (.cells (cs .u32 f 5) 23)) := bal (Below.refl _ _) _
  have SM := Lib.hid (small_at _ (T.below hb0))
  by_cases h2 : 200 < s.size
  · go_enter Tryd.func3, Tryd.ntmps3
    go_wp2_with (go_at_call 8; (with_reducible refine SM.out.mono ?_); rintro e w1 ⟨rfl, hb1⟩)
    go_ret
    exact ⟨rfl, btr hb0 hb1⟩
  have hs2 : s.size ≤ 200 := by omega
  obtain ⟨a1, b1, f1, P1, P2⟩ := posix_two n hn
  obtain ⟨a2, b2, f2, N1, N2⟩ := ntp_two n hn
  have P1 := Lib.hid P1
  have P2 := Lib.hid P2
  have N1 := Lib.hid N1
  have N2 := Lib.hid N2
  obtain ⟨a3, b3, W1, W2⟩ := word_two s (by omega)
  obtain ⟨g, b4, H1, H2⟩ := hash_two s (by omega)
  have W1 := Lib.hid W1
  have W2 := Lib.hid W2
  have H1 := Lib.hid H1
  have H2 := Lib.hid H2
  have EQ : ∀ W, (Op.equalIn 10000 23 (.agg (cs .u32 g 5)) (.agg (cs .u32 g 5))).run Tryd.prog W = .ok true W := fun W => (eq5 g g W).trans (by rw [same_self])
  have CT : Hid (∀ w2, Below w.heap.size w w2 → ∀ d os, Calls Tryd.prog 17 #[.agg (cs .u32 f 5)] (Sort.grow (redrawn w2 d) os) fun e w'' => e = .returned (.string (txt f)) ∧ ∃ p : Regrown, w'' = Sort.grow (redrawn w2 p.d) p.os) :=
    fun w2 hb d os => Calls.regrown_of (text_any f _ hf (T.below (btr hb (below_regrown w2 d os))))
  have CR := Lib.hid (fun w d os => below_of (fun W => ref07.text_any f W hf) w d os)
  go_enter Tryd.func3, Tryd.ntmps3
  go_wp2_with (first
    | (go_at_call 8; (with_reducible refine SM.out.mono ?_); rintro e w1 ⟨rfl, hb1⟩; clear SM; have G1 := Lib.hid (kept (hp_new w _) hb1); have B1 := btr hb0 hb1)
    | (go_at_call 9; ((with_reducible refine (P1.out _).mono ?_); rintro e w' ⟨rfl, rfl⟩))
    | (go_at_call 10; ((with_reducible refine (P2.out _).mono ?_); rintro e w' ⟨rfl, rfl⟩))
    | (go_at_call 11; ((with_reducible refine (N1.out _).mono ?_); rintro e w' ⟨rfl, rfl⟩))
    | (go_at_call 12; ((with_reducible refine (N2.out _).mono ?_); rintro e w' ⟨rfl, rfl⟩))
    | (go_at_call 13; ((with_reducible refine (W1.out _).mono ?_); rintro e w2 ⟨rfl, hb2⟩))
    | (go_at_call 14; ((with_reducible refine (W2.out _).mono ?_); rintro e w3 ⟨rfl, hb3⟩))
    | (go_at_call 15; ((with_reducible refine (H1.out _).mono ?_); rintro e w4 ⟨rfl, hb4⟩))
    | (go_at_call 16; ((with_reducible refine (H2.out _).mono ?_); rintro e w5 ⟨rfl, hb5⟩)))
  have B3 := btr (btr B1 hb2) hb3
  have B4 := btr B3 hb4
  have B5 := btr (bal B4 _) hb5
  have B6 := bal B5 (.cells (cs .u32 g 5) 23)
  have G6 := Lib.hid (hp_old (kept (hp_old (kept (kept (kept G1.out hb2) hb3) hb4) (.cells (cs .u32 g 5) 23)) hb5) (.cells (cs .u32 g 5) 23))
  have G7 := Lib.hid (hp_old (kept (hp_new w4 (.cells (cs .u32 g 5) 23)) hb5) (.cells (cs .u32 g 5) 23))
  have G8 := Lib.hid (hp_new w5 (.cells (cs .u32 g 5) 23))
  have B6 : Below w.heap.size w (w5.alloc (.cells #[.int .u32 (g 0 : Nat), .int .u32 (g 1 : Nat), .int .u32 (g 2 : Nat), .int .u32 (g 3 : Nat), .int .u32 (g 4 : Nat)] 23)) := B6
  have G6 : Hid ((w5.alloc (.cells #[.int .u32 (g 0 : Nat), .int .u32 (g 1 : Nat), .int .u32 (g 2 : Nat), .int .u32 (g 3 : Nat), .int .u32 (g 4 : Nat)] 23)).heap[w.heap.size]? = _) := G6
  have G7 : Hid ((w5.alloc (.cells #[.int .u32 (g 0 : Nat), .int .u32 (g 1 : Nat), .int .u32 (g 2 : Nat), .int .u32 (g 3 : Nat), .int .u32 (g 4 : Nat)] 23)).heap[w4.heap.size]? = _) := G7
  have G8 : Hid ((w5.alloc (.cells #[.int .u32 (g 0 : Nat), .int .u32 (g 1 : Nat), .int .u32 (g 2 : Nat), .int .u32 (g 3 : Nat), .int .u32 (g 4 : Nat)] 23)).heap[w5.heap.size]? = _) := G8
  generalize hN4 : w4.heap.size = N4 at *
  generalize hN5 : w5.heap.size = N5 at *
  generalize (w5.alloc (.cells #[.int .u32 (g 0 : Nat), .int .u32 (g 1 : Nat), .int .u32 (g 2 : Nat), .int .u32 (g 3 : Nat), .int .u32 (g 4 : Nat)] 23)) = W6 at *
  refine wp_region_quiet_below (by kernel_rfl) (by kernel_rfl) ?_
  repeat quiet_step (fail)
  refine qload (by rfl) 23 (.tmp 20) rfl ⟨N4, 0, none⟩ rfl _ (regrown5 G7.out) ?_
  refine qload (by rfl) 23 (.tmp 22) rfl ⟨N5, 0, none⟩ rfl _ (regrown5 G8.out) ?_
  repeat quiet_step (fail)
  refine qload (by rfl) 23 (.tmp 5) rfl ⟨w.heap.size, 0, none⟩ rfl _ (regrown5 G6.out) ?_
  quiet_step ((go_at_call 17; with_reducible exact CT.out _ B6 _ _))
  refine qload (by rfl) 23 (.tmp 5) rfl ⟨w.heap.size, 0, none⟩ rfl _ (regrown5 G6.out) ?_
  quiet_step ((go_at_call 18; with_reducible exact CR.out _ _ _))
  repeat quiet_step (fail)
  refine wpQuiet_nil ?_
  intro _ hw'
  obtain ⟨⟨dq, osq⟩, hw''⟩ := hw'
  subst hw''
  have hbz : Below w.heap.size w (Sort.grow (redrawn W6 dq) osq) := btr B6 (below_regrown W6 dq osq)
  generalize Sort.grow (redrawn W6 dq) osq = W7 at *
  clear EQ
  go_wp2
  go_ret
  exact ⟨ret_bool (by first | rfl | simp), hbz⟩
theorem door_met (os : Os) (args : Array Value) : laidMetH Tryd.prog Rows.ntpTellsRow.laid ((World.doorLaid Tryd.prog 400 os).forCall (fun _ _ => 0) ⟨#[], args, []⟩).memory :=
  laidMetH_of_parts3 (fuel := 8) (laidMet_of_run' 8 (by kernel_rfl) (by kernel_rfl)) (by kernel_rfl) (by kernel_rfl)
set_option maxRecDepth 100000 in
theorem lifted (os : Os) (started : os.Started) (H : Type) (enc : TypeId × Value → H) :
    ReturnsInHanded {} Tryd.checked os 3 .any (fun w args => (Rows.ntpTellsSpec.pre enc Tryd.prog Tryd.f3 [] false w args ∧ laidMetH Tryd.prog Rows.ntpTellsRow.laid w) ∧ sizedMet enc Tryd.prog Tryd.f3 (OpenSpec.ofChange Rows.ntpTellsSpec) false w args)
      (Rows.ntpTellsSpec.post enc Tryd.prog Tryd.f3 false true false false) := by
  refine returnsInHanded_of_change_and (C := Tryd.checked) (X := fun w _ => laidMetH Tryd.prog Rows.ntpTellsRow.laid w) (fun _ _ _ hh h => h.of_heap hh) law.own started (by kernel_rfl) Tryd.func3
    (ChangeSpec.witness_shaped (enc := enc) (C := Tryd.checked) (os := os) (X := fun w _ => laidMetH Tryd.prog Rows.ntpTellsRow.laid w) false (World.doorLaid Tryd.prog 400 os) #[.int .i64 0, .string ByteArray.empty, .agg #[.int .u32 0, .int .u32 0, .int .u32 0, .int .u32 0, .int .u32 0]] 8 rfl (World.shaped_of_RefB (by kernel_rfl) (by kernel_rfl)) (by kernel_rfl) (by kernel_rfl) (by kernel_rfl) (door_met os _)) ?_
  intro W base args ds gs before hval0 hW _ _ hL _
  rw [MakeChecks.laidMetH_plain _ _ _ (by kernel_rfl)] at hL
  have T0 := ntp.tz_of hL (by repeat first | exact List.Mem.head _ | refine List.Mem.tail _ ?_)
  have hval : ∀ (j : Nat) t v, Tryd.f3.params[j]? = some t → args[j]? = some v → Value.okWide Tryd.prog W .any base t v := hval0
  have hW' := hW
  obtain ⟨p, q, hA0, hV, rfl, hfz, hnd⟩ := hW
  have hA : DataW.TrodAll enc Tryd.prog W 0 (fun _ => true) true Tryd.f3.params.toList args.toList ds p := hA0
  rw [Tryd.params3] at hA hval
  obtain ⟨v0, vs0, d0, ds0, p0, q0, hargs, rfl, rfl, h0, r0⟩ := trodAll_cons hA
  obtain ⟨v1, vs1, d1, ds1, p1, q1, rfl, rfl, rfl, h1, r1⟩ := trodAll_cons r0
  obtain ⟨v2, vs2, d2, ds2, p2, q2, rfl, rfl, rfl, h2, r2⟩ := trodAll_cons r1
  obtain ⟨rfl, rfl, rfl⟩ := trodAll_nil r2
  obtain rfl : args = #[v0, v1, v2] := by cases args; simp_all
  obtain ⟨rfl, rfl⟩ := trodVars_none hV
  clear hA0 hval0
  obtain ⟨a0, rfl, hd0, hp0, w0⟩ := open_int Tryd.underlying3 (hval 0 3 v0 rfl rfl) h0
  obtain ⟨a1, rfl, hd1, hp1, w1⟩ := ChangeMaps.open_string Tryd.underlying9 (hval 1 9 v1 rfl rfl) h1
  refine (Calls.mono (R := fun e w' => e = .returned (.bool true) ∧ Below W.heap.size W w') ?_ fun e W' ⟨he, hb⟩ => ?_)
  · obtain ⟨f2_, rfl, s2_⟩ := ntp.open_hash (hval 2 23 v2 rfl rfl) h2
    exact walk W a0 (bounds_i64 w0) a1 w1 _ s2_ T0
  · subst he
    exact ⟨_, rfl, law.post law.laidOut (by kernel_rfl) rfl rfl Tryd.underlying4 rfl hW' hb⟩

theorem over : Rows.ntpTellsRow.holds Tryd.pinned (OpenSpec.ofChange Rows.ntpTellsSpec) :=
  OpenClaim.holds_of_wide 3 Tryd.f3 rfl rfl rfl rfl rfl rfl rfl ⟨rfl, rfl, rfl, rfl, rfl⟩ rfl rfl rfl rfl rfl (by kernel_rfl) Tryd.func3 (by kernel_rfl)
    (of_decide_eq_true (by kernel_rfl)) (by unfold Func.isWrapper; first | (rw [if_pos (by decide +kernel)]; kernel_rfl) | (rw [if_neg (by decide +kernel)]; exact ⟨rfl, rfl⟩))
    (fun os started H enc _ => lifted os started H enc)

theorem proved : Rows.NtpTellsCardSaid :=
  Claim7.holds_tied_plain_at .later [] _ _ _ _ over (fun _ h => by cases h) (by kernel_rfl) (fun _ h => by cases h) ntpTells_row_tie rfl ⟨rfl, rfl⟩ (by kernel_rfl) rfl
    (fun f fn hf hfn => by
      obtain rfl : f = 3 := Option.some.inj ((show Tryd.prog.funcNamed "epact/epactlaw07.NtpTells" = some 3 by kernel_rfl).symm.trans hf) |>.symm
      obtain rfl : fn = Tryd.f3 := (Option.some.inj (Tryd.func3.symm.trans hfn)).symm
      exact ⟨by kernel_rfl, fun j t ht => by
        have hall : (Tryd.f3.params.toList.all fun u => !Tryd.prog.wantsStandIn u) = true := by kernel_rfl
        have hm : t ∈ Tryd.f3.params.toList := by rw [Array.mem_toList_iff]; exact Array.mem_of_getElem? ht
        exact (show Tryd.prog.wantsStandIn t = false by simpa using List.all_eq_true.1 hall t hm)⟩)
    (by kernel_rfl)
end Go.Proofs.YtfnkloecfjppeaaDoor.ntpTells
