/-
  NtpWords: a word with a digit behind it is sixteen times as much, and the digit, as long as it is short enough, for every text and every digit from 0 to 15. Condition: the row's own (the library's listed tables hold what their initialisers lay; the card ties that).
-/
import Derived.Test.YtfnkloecfjppeaaDoorNtpLaw
import Derived.Test.YtfnkloecfjppeaaDoorCards
import Derived.Test.YtfnkloecfjppeaaDoorTie
import Derived.SevenTiedAt
namespace Go.Proofs.YtfnkloecfjppeaaDoor.ntpWords
open Go.ChangeShapes Go.WideShapes Go.ChangeAt Go.RowKit
open ntp nx lx
open sha (hd btr)
set_option linter.unusedVariables false

theorem more_first {k : Nat} (h : k < 16) : wrd ([] ++ [hd k]) = some k := by
  rw [List.nil_append, wrd_in (by simp) (by simp), wg_c (dv_hd h), wg]
  simp
theorem more_none {l : List UInt8} {k : Nat} (h : wrd l = none) (hl : l ≠ []) : wrd (l ++ [hd k]) = none := by
  by_cases h8 : 8 < (l ++ [hd k]).length
  · exact wrd_long h8
  · rw [List.length_append, List.length_singleton] at h8
    rw [wrd_in (by simp) (by rw [List.length_append, List.length_singleton]; omega), wg_app, ← wrd_in hl (by omega), h]
    rfl
theorem more_full {l : List UInt8} {k : Nat} (h : l.length = 8) : wrd (l ++ [hd k]) = none := wrd_long (by rw [List.length_append, List.length_singleton]; omega)
theorem more_some {l : List UInt8} {n k : Nat} (h : wrd l = some n) (h8 : l.length < 8) (hk : k < 16) : wrd (l ++ [hd k]) = some (16 * n + k) ∧ n < 268435456 := by
  have hl : l ≠ [] := fun e => by rw [e] at h; cases h
  have hw : wg 0 l = some n := by rw [← wrd_in hl (by omega)]; exact h
  constructor
  · rw [wrd_in (by simp) (by rw [List.length_append, List.length_singleton]; omega), wg_app, hw]
    show wg n [hd k] = _
    rw [wg_c (dv_hd hk), wg]
  · have a := wg_le l 0 n hw
    have b : 16 ^ l.length ≤ 16 ^ 7 := Nat.pow_le_pow_right (by decide) (by omega)
    have c : (16 : Nat) ^ 7 = 268435456 := rfl
    omega
theorem some_len {l : List UInt8} {n : Nat} (h : wrd l = some n) : l.length ≤ 8 := by
  rcases Nat.lt_or_ge 8 l.length with k | k
  · rw [wrd_long k] at h; cases h
  · exact k
theorem one_of (k : Nat) (hk : k < 16) (W : World) : (Instr.slice 9 (.string ⟨#[48, 49, 50, 51, 52, 53, 54, 55, 56, 57, 97, 98, 99, 100, 101, 102]⟩) (some (.int .i64 (k : Nat))) (some (.int .i64 ((k : Int) + 1))) none).run Tryd.prog W = .ok (.string (B [hd k])) W := by
  rw [lines.sl_run W _ k (k + 1) ((k : Int) + 1) rfl (by omega) (by show k + 1 ≤ 16; omega)]
  rcases sixteen hk with rfl | rfl | rfl | rfl | rfl | rfl | rfl | rfl | rfl | rfl | rfl | rfl | rfl | rfl | rfl | rfl <;> rfl
theorem word_s (s : ByteArray) (c : UInt8) (o : Option Nat) (h : wrd (L s ++ [c]) = o) (hs : s.size ≤ 100) (W : World) : Calls Tryd.prog 13 #[.string (s ++ B [c])] W fun e w' => e = .returned (.tuple #[.int .u32 ((o.getD 0 : Nat) : Int), .bool o.isSome]) ∧ Below W.heap.size W w' := by
  subst h
  have z : (s ++ B [c]).size ≤ 9223372036854775807 := by
    rw [← L_len, L_app, List.length_append, L_len, L_B, List.length_singleton]
    omega
  refine (word_at (s ++ B [c]) W z).mono ?_
  rintro e w' ⟨rfl, hb⟩
  refine ⟨?_, hb⟩
  unfold wN wT
  rw [L_app, L_B]
set_option maxHeartbeats 4000000 in
theorem walk (s : ByteArray) (hs : s.size ≤ maxLen) (d : Int) (hd0 : -9223372036854775808 ≤ d ∧ d ≤ 9223372036854775807) (w : World) (T : Tz w) :
    Calls Tryd.prog 7 #[.string s, .int .i64 d] w fun e w' => e = .returned (.bool true) ∧ Below w.heap.size w w' := by
  unfold maxLen at hs
  have S := Lib.hid (small_at w T)
  clear T
  obtain ⟨d1, d2⟩ := hd0
  by_cases h100 : 100 < s.size
  · go_enter Tryd.func7, Tryd.ntmps7
    go_wp2_with (first
      | (go_at_call 8; (with_reducible refine (S.out).mono ?_; rintro e w1 ⟨rfl, hb1⟩)))
    go_ret
    exact ⟨rfl, hb1⟩
  by_cases hd1 : d < 0
  · go_enter Tryd.func7, Tryd.ntmps7
    go_wp2_with (first
      | (go_at_call 8; (with_reducible refine (S.out).mono ?_; rintro e w1 ⟨rfl, hb1⟩)))
    go_ret
    exact ⟨rfl, hb1⟩
  by_cases hd2 : 15 < d
  · go_enter Tryd.func7, Tryd.ntmps7
    go_wp2_with (first
      | (go_at_call 8; (with_reducible refine (S.out).mono ?_; rintro e w1 ⟨rfl, hb1⟩)))
    go_ret
    exact ⟨rfl, hb1⟩
  obtain ⟨k, rfl⟩ : ∃ k : Nat, d = k := ⟨d.toNat, by omega⟩
  have hk : k < 16 := by omega
  have ON := fun W => one_of k hk W
  have W1 := Lib.hid (fun W => word_at s W (by omega))
  have zc : (B [hd k]).size = 1 := rfl
  by_cases h0 : s.size = 0
  · obtain rfl : s = ⟨#[]⟩ := L_inj ((L_nil s).2 h0)
    have W2 : Hid (∀ W, Calls Tryd.prog 13 #[.string (⟨#[]⟩ ++ B [hd k])] W fun e w' => e = .returned (.tuple #[.int .u32 (k : Nat), .bool true]) ∧ Below W.heap.size W w') := fun W => word_s ⟨#[]⟩ (hd k) (some k) (more_first hk) (by decide) W
    have W1 : Hid (∀ W, Calls Tryd.prog 13 #[.string ⟨#[]⟩] W fun e w' => e = .returned (.tuple #[.int .u32 0, .bool false]) ∧ Below W.heap.size W w') := fun W => word_at ⟨#[]⟩ W (by decide)
    generalize B [hd k] = C at *
    clear h0 hs h100
    go_enter Tryd.func7, Tryd.ntmps7
    go_wp2_with (first
      | (go_at_call 8; (with_reducible refine S.out.mono ?_); rintro e w1 ⟨rfl, b1⟩)
      | (go_at_call 13; first | ((with_reducible refine (W1.out _).mono ?_); rintro e w2 ⟨rfl, h2⟩; have b2 := btr b1 h2) | ((with_reducible refine (W2.out _).mono ?_); rintro e w3 ⟨rfl, h3⟩; have b3 := btr b2 h3)))
    go_ret
    exact ⟨sha.ret_bool (by first | rfl | simp), b3⟩
  have t0 : (s.toList == []) = false := by
    rw [ByteArray.toList_eq, beq_eq_false_iff_ne]
    intro k
    exact h0 ((L_nil s).1 k)
  cases hw : wrd (L s) with
  | none =>
    have W2 : Hid (∀ W, Calls Tryd.prog 13 #[.string (s ++ B [hd k])] W fun e w' => e = .returned (.tuple #[.int .u32 0, .bool false]) ∧ Below W.heap.size W w') := fun W => word_s s (hd k) none (more_none hw (fun e => h0 ((L_nil s).1 e))) (by omega) W
    have W1 : Hid (∀ W, Calls Tryd.prog 13 #[.string s] W fun e w' => e = .returned (.tuple #[.int .u32 0, .bool false]) ∧ Below W.heap.size W w') := fun W => (word_at s W (by omega)).mono fun e w' ⟨he, hb⟩ => ⟨by rw [he, (w_no hw).1, (w_no hw).2]; rfl, hb⟩
    clear hw
    generalize B [hd k] = C at *
    go_enter Tryd.func7, Tryd.ntmps7
    go_wp2_with (first
      | (go_at_call 8; (with_reducible refine S.out.mono ?_); rintro e w1 ⟨rfl, b1⟩)
      | (go_at_call 13; first | ((with_reducible refine (W1.out _).mono ?_); rintro e w2 ⟨rfl, h2⟩; have b2 := btr b1 h2) | ((with_reducible refine (W2.out _).mono ?_); rintro e w3 ⟨rfl, h3⟩; have b3 := btr b2 h3)))
    go_ret
    exact ⟨sha.ret_bool (by first | rfl | simp), b3⟩
  | some n =>
    have W1 : Hid (∀ W, Calls Tryd.prog 13 #[.string s] W fun e w' => e = .returned (.tuple #[.int .u32 (n : Nat), .bool true]) ∧ Below W.heap.size W w') := fun W => (word_at s W (by omega)).mono fun e w' ⟨he, hb⟩ => ⟨by rw [he, (w_yes hw).1, (w_yes hw).2], hb⟩
    have h8 : s.size ≤ 8 := some_len hw
    by_cases e8 : s.size = 8
    · have W2 : Hid (∀ W, Calls Tryd.prog 13 #[.string (s ++ B [hd k])] W fun e w' => e = .returned (.tuple #[.int .u32 0, .bool false]) ∧ Below W.heap.size W w') := fun W => word_s s (hd k) none (more_full e8) (by omega) W
      clear hw
      generalize B [hd k] = C at *
      go_enter Tryd.func7, Tryd.ntmps7
      go_wp2_with (first
        | (go_at_call 8; (with_reducible refine S.out.mono ?_); rintro e w1 ⟨rfl, b1⟩)
        | (go_at_call 13; first | ((with_reducible refine (W1.out _).mono ?_); rintro e w2 ⟨rfl, h2⟩; have b2 := btr b1 h2) | ((with_reducible refine (W2.out _).mono ?_); rintro e w3 ⟨rfl, h3⟩; have b3 := btr b2 h3)))
      go_ret
      exact ⟨sha.ret_bool (by first | rfl | simp), b3⟩
    · obtain ⟨m1, m2⟩ := more_some hw (show (L s).length < 8 by rw [L_len]; omega) hk
      have W2 : Hid (∀ W, Calls Tryd.prog 13 #[.string (s ++ B [hd k])] W fun e w' => e = .returned (.tuple #[.int .u32 (16 * (n : Int) + (k : Int)), .bool true]) ∧ Below W.heap.size W w') := fun W => word_s s (hd k) (some (16 * n + k)) m1 (by omega) W
      clear hw m1
      have t8 : ((s.size : Int) == 8) = false := by simp; omega
      generalize B [hd k] = C at *
      go_enter Tryd.func7, Tryd.ntmps7
      go_wp2_with (first
        | (go_at_call 8; (with_reducible refine S.out.mono ?_); rintro e w1 ⟨rfl, b1⟩)
        | (go_at_call 13; first | ((with_reducible refine (W1.out _).mono ?_); rintro e w2 ⟨rfl, h2⟩; have b2 := btr b1 h2) | ((with_reducible refine (W2.out _).mono ?_); rintro e w3 ⟨rfl, h3⟩; have b3 := btr b2 h3)))
      go_ret
      exact ⟨sha.ret_bool (by first | rfl | simp), b3⟩
theorem door_met (os : Os) (args : Array Value) : laidMetH Tryd.prog Rows.ntpWordsRow.laid ((World.doorLaid Tryd.prog 400 os).forCall (fun _ _ => 0) ⟨#[], args, []⟩).memory :=
  laidMetH_of_parts3 (fuel := 8) (laidMet_of_run' 8 (by kernel_rfl) (by kernel_rfl)) (by kernel_rfl) (by kernel_rfl)
set_option maxRecDepth 100000 in
theorem lifted (os : Os) (started : os.Started) (H : Type) (enc : TypeId × Value → H) :
    ReturnsInHanded {} Tryd.checked os 7 .any (fun w args => (Rows.ntpWordsSpec.pre enc Tryd.prog Tryd.f7 [] false w args ∧ laidMetH Tryd.prog Rows.ntpWordsRow.laid w) ∧ sizedMet enc Tryd.prog Tryd.f7 (OpenSpec.ofChange Rows.ntpWordsSpec) false w args)
      (Rows.ntpWordsSpec.post enc Tryd.prog Tryd.f7 false true false false) := by
  refine returnsInHanded_of_change_and (C := Tryd.checked) (X := fun w _ => laidMetH Tryd.prog Rows.ntpWordsRow.laid w) (fun _ _ _ hh h => h.of_heap hh) law.own started (by kernel_rfl) Tryd.func7
    (ChangeSpec.witness_shaped (enc := enc) (C := Tryd.checked) (os := os) (X := fun w _ => laidMetH Tryd.prog Rows.ntpWordsRow.laid w) false (World.doorLaid Tryd.prog 400 os) #[.string ByteArray.empty, .int .i64 0] 8 rfl (World.shaped_of_RefB (by kernel_rfl) (by kernel_rfl)) (by kernel_rfl) (by kernel_rfl) (by kernel_rfl) (door_met os _)) ?_
  intro W base args ds gs before hval0 hW _ _ hL _
  rw [MakeChecks.laidMetH_plain _ _ _ (by kernel_rfl)] at hL
  have T0 := ntp.tz_of hL (by repeat first | exact List.Mem.head _ | refine List.Mem.tail _ ?_)
  have hval : ∀ (j : Nat) t v, Tryd.f7.params[j]? = some t → args[j]? = some v → Value.okWide Tryd.prog W .any base t v := hval0
  have hW' := hW
  obtain ⟨p, q, hA0, hV, rfl, hfz, hnd⟩ := hW
  have hA : DataW.TrodAll enc Tryd.prog W 0 (fun _ => true) true Tryd.f7.params.toList args.toList ds p := hA0
  rw [Tryd.params7] at hA hval
  obtain ⟨v0, vs0, d0, ds0, p0, q0, hargs, rfl, rfl, h0, r0⟩ := trodAll_cons hA
  obtain ⟨v1, vs1, d1, ds1, p1, q1, rfl, rfl, rfl, h1, r1⟩ := trodAll_cons r0
  obtain ⟨rfl, rfl, rfl⟩ := trodAll_nil r1
  obtain rfl : args = #[v0, v1] := by cases args; simp_all
  obtain ⟨rfl, rfl⟩ := trodVars_none hV
  clear hA0 hval0
  obtain ⟨a0, rfl, hd0, hp0, w0⟩ := ChangeMaps.open_string Tryd.underlying9 (hval 0 9 v0 rfl rfl) h0
  obtain ⟨a1, rfl, hd1, hp1, w1⟩ := open_int Tryd.underlying3 (hval 1 3 v1 rfl rfl) h1
  refine (Calls.mono (R := fun e w' => e = .returned (.bool true) ∧ Below W.heap.size W w') ?_ fun e W' ⟨he, hb⟩ => ?_)
  · exact walk a0 w0 a1 (bounds_i64 w1) W T0
  · subst he
    exact ⟨_, rfl, law.post law.laidOut (by kernel_rfl) rfl rfl Tryd.underlying4 rfl hW' hb⟩

theorem over : Rows.ntpWordsRow.holds Tryd.pinned (OpenSpec.ofChange Rows.ntpWordsSpec) :=
  OpenClaim.holds_of_wide 7 Tryd.f7 rfl rfl rfl rfl rfl rfl rfl ⟨rfl, rfl, rfl, rfl, rfl⟩ rfl rfl rfl rfl rfl (by kernel_rfl) Tryd.func7 (by kernel_rfl)
    (of_decide_eq_true (by kernel_rfl)) (by unfold Func.isWrapper; first | (rw [if_pos (by decide +kernel)]; kernel_rfl) | (rw [if_neg (by decide +kernel)]; exact ⟨rfl, rfl⟩))
    (fun os started H enc _ => lifted os started H enc)

theorem proved : Rows.NtpWordsCardSaid :=
  Claim7.holds_tied_plain_at .later [] _ _ _ _ over (fun _ h => by cases h) (by kernel_rfl) (fun _ h => by cases h) ntpWords_row_tie rfl ⟨rfl, rfl⟩ (by kernel_rfl) rfl
    (fun f fn hf hfn => by
      obtain rfl : f = 7 := Option.some.inj ((show Tryd.prog.funcNamed "epact/epactlaw07.NtpWords" = some 7 by kernel_rfl).symm.trans hf) |>.symm
      obtain rfl : fn = Tryd.f7 := (Option.some.inj (Tryd.func7.symm.trans hfn)).symm
      exact ⟨by kernel_rfl, fun j t ht => by
        have hall : (Tryd.f7.params.toList.all fun u => !Tryd.prog.wantsStandIn u) = true := by kernel_rfl
        have hm : t ∈ Tryd.f7.params.toList := by rw [Array.mem_toList_iff]; exact Array.mem_of_getElem? ht
        exact (show Tryd.prog.wantsStandIn t = false by simpa using List.all_eq_true.1 hall t hm)⟩)
    (by kernel_rfl)
end Go.Proofs.YtfnkloecfjppeaaDoor.ntpWords
