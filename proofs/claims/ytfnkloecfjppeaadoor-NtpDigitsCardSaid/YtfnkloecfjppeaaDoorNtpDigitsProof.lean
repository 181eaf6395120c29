/-
  NtpDigits: a hash of a digest's words is its digits, five times eight, for every digest. Condition: the row's own (the library's listed tables hold what their initialisers lay; the card ties that).
-/
import Derived.Test.YtfnkloecfjppeaaDoorNtpLaw
import Derived.Test.YtfnkloecfjppeaaDoorCards
import Derived.Test.YtfnkloecfjppeaaDoorTie
import Derived.SevenTiedAt
import Derived.Lib.QuietBelow
namespace Go.Proofs.YtfnkloecfjppeaaDoor.ntpDigits
open Go.ChangeShapes Go.WideShapes Go.ChangeAt Go.RowKit
open ntp nx lx sx
open sha (hd hx hx_len hexS hex_as hexS_len words_any hp_new hp_old kept bal btr szc sz20 qload regrown20 below_of ret_bool)
set_option linter.unusedVariables false

theorem hk_two (k x c : Nat) (hc : c < 256) : hk (k + 2) (x * 256 + c) = hk k x ++ [hd (c / 16), hd (c % 16)] := by
  have e1 : (x * 256 + c) % 16 = c % 16 := by omega
  have e2 : (x * 256 + c) / 16 % 16 = c / 16 := by omega
  have e3 : (x * 256 + c) / 16 / 16 = x := by omega
  rw [hk, hk, e1, e2, e3, List.append_assoc]
  rfl
/-- the digits of some bytes of a word. -/
def pc (f : Nat → Nat) (i : Nat) : Nat → List UInt8
  | 0 => []
  | j + 1 => pc f i j ++ [hd (f (4 * i + j) / 16), hd (f (4 * i + j) % 16)]
theorem pc_hk (f : Nat → Nat) (i : Nat) : ∀ j, (∀ m, m < j → f (4 * i + m) < 256) → hk (2 * j) (pre f i j) = pc f i j
  | 0, _ => rfl
  | j + 1, h => by rw [show 2 * (j + 1) = 2 * j + 2 by omega, pre, hk_two _ _ _ (h j (by omega)), pc_hk f i j (fun m hm => h m (by omega)), pc]
theorem pc_hx (f : Nat → Nat) (i : Nat) : ∀ j, hx f (4 * i + j) = hx f (4 * i) ++ pc f i j
  | 0 => by simp [pc]
  | j + 1 => by rw [← Nat.add_assoc, hx, pc_hx f i j, pc, List.append_assoc]
theorem word_digits (f : Nat → Nat) (hf : Byt f 20) (i : Nat) (hi : i < 5) : hk 8 (word f i) = ((hx f 20).drop (8 * i)).take 8 := by
  have h1 : hk (2 * 4) (pre f i 4) = pc f i 4 := pc_hk f i 4 (fun m hm => hf _ (by omega))
  have h2 : ∀ n k, ∃ r, hx f (k + n) = hx f k ++ r := by
    intro n
    induction n with
    | zero => intro k; exact ⟨[], by simp⟩
    | succ n ih => intro k; obtain ⟨r, hr⟩ := ih k; exact ⟨r ++ [hd (f (k + n) / 16), hd (f (k + n) % 16)], by rw [← Nat.add_assoc, hx, hr, List.append_assoc]⟩
  obtain ⟨r, hr⟩ := h2 (20 - (4 * i + 4)) (4 * i + 4)
  rw [show 4 * i + 4 + (20 - (4 * i + 4)) = 20 by omega] at hr
  have hl := hx_len f (4 * i)
  have hp : (pc f i 4).length = 8 := by rw [← h1, hk_len]
  rw [hr, pc_hx f i 4, List.append_assoc, List.drop_append_of_le_length (by omega), List.drop_of_length_le (by omega), List.nil_append, List.take_append_of_le_length (by omega), List.take_of_length_le (by omega), ← h1]
  rfl
/-- eight digits of a text. -/
theorem piece {f : Nat → Nat} {s : ByteArray} (hf : Byt f 20) (hs : s.data.toList = hx f 20) (i : Nat) (hi : i < 5) : s.extract (8 * i) (8 * i + 8) = B (hk 8 (word f i)) := by
  rw [ext_B, word_digits f hf i hi, show 8 * i + 8 - 8 * i = 8 by omega]
  show B ((List.drop (8 * i) s.data.toList).take 8) = _
  rw [hs]
theorem all_of (f : Nat → Nat) : txt (word f) = B (hk 8 (word f 0)) ++ ⟨#[32]⟩ ++ B (hk 8 (word f 1)) ++ ⟨#[32]⟩ ++ B (hk 8 (word f 2)) ++ ⟨#[32]⟩ ++ B (hk 8 (word f 3)) ++ ⟨#[32]⟩ ++ B (hk 8 (word f 4)) := by
  rw [show (⟨#[32]⟩ : ByteArray) = B [32] from rfl]
  simp only [B_app]
  unfold txt
  congr 1
theorem B8 (n : Nat) : (B (hk 8 n)).size = 8 := by rw [B_size, hk_len]
set_option maxHeartbeats 4000000 in
theorem walk (w : World) (f : Nat → Nat) (hf : Byt f 20) (T : Tz w) : Calls Tryd.prog 6 #[.agg (cs .u8 f 20)] w fun e w' => e = .returned (.bool true) ∧ Below w.heap.size w w' := by
  have hb0 : Below w.heap.size w (w.alloc (.cells (cs .u8 f 20) 38)) := bal (Below.refl _ _) _
  have SM := Lib.hid (small_at _ (T.below hb0))
  obtain ⟨s, hs, HX⟩ := hex_as f hf
  have HX' := Lib.hid HX
  have hsz := hexS_len hs
  clear HX
  have t40 : ((s.size : Int) != 40) = false := by rw [hsz]; rfl
  have CW := Lib.hid (fun w d os => below_of (fun W => words_any f W hf) w d os)
  have hw : ∀ k, k < 5 → word f k < 4294967296 := fun k hk => word_lt f 20 k hf (by omega)
  have CT : Hid (∀ w2, Below w.heap.size w w2 → ∀ d os, Calls Tryd.prog 17 #[.agg #[.int .u32 (word f 0 : Nat), .int .u32 (word f 1 : Nat), .int .u32 (word f 2 : Nat), .int .u32 (word f 3 : Nat), .int .u32 (word f 4 : Nat)]] (Sort.grow (redrawn w2 d) os) fun e w'' => e = .returned (.string (txt (word f))) ∧ ∃ p : Regrown, w'' = Sort.grow (redrawn w2 p.d) p.os) :=
    fun w2 hb d os => Calls.regrown_of (text_any (word f) _ hw (T.below (btr hb (below_regrown w2 d os))))
  have x0 : ∀ W, (Instr.slice 9 (.string s) none (some (.int .i64 8)) none).run Tryd.prog W = .ok (.string (B (hk 8 (word f 0)))) W := fun W => by
    rw [run_slice_string_h (P := Tryd.prog) W 9 s Tryd.underlying9 .i64 8 (by omega) (by omega), ← piece hf hs 0 (by omega)]
    rfl
  have x1 : ∀ W, (Instr.slice 9 (.string s) (some (.int .i64 8)) (some (.int .i64 16)) none).run Tryd.prog W = .ok (.string (B (hk 8 (word f 1)))) W := fun W => by
    rw [← piece hf hs 1 (by omega)]; exact lines.sl_run W s 8 16 16 rfl (by omega) (by omega)
  have x2 : ∀ W, (Instr.slice 9 (.string s) (some (.int .i64 16)) (some (.int .i64 24)) none).run Tryd.prog W = .ok (.string (B (hk 8 (word f 2)))) W := fun W => by
    rw [← piece hf hs 2 (by omega)]; exact lines.sl_run W s 16 24 24 rfl (by omega) (by omega)
  have x3 : ∀ W, (Instr.slice 9 (.string s) (some (.int .i64 24)) (some (.int .i64 32)) none).run Tryd.prog W = .ok (.string (B (hk 8 (word f 3)))) W := fun W => by
    rw [← piece hf hs 3 (by omega)]; exact lines.sl_run W s 24 32 32 rfl (by omega) (by omega)
  have x4 : ∀ W, (Instr.slice 9 (.string s) (some (.int .i64 32)) none none).run Tryd.prog W = .ok (.string (B (hk 8 (word f 4)))) W := fun W => by
    rw [← piece hf hs 4 (by omega)]; have := lines.sl_from W s 32 32 rfl (by omega); rw [hsz] at this; exact this
  have q : ((txt (word f)).toList == (B (hk 8 (word f 0)) ++ ⟨#[32]⟩ ++ B (hk 8 (word f 1)) ++ ⟨#[32]⟩ ++ B (hk 8 (word f 2)) ++ ⟨#[32]⟩ ++ B (hk 8 (word f 3)) ++ ⟨#[32]⟩ ++ B (hk 8 (word f 4))).toList) = true := by
    rw [beq_s, decide_eq_true_eq]; exact all_of f
  have z0 := B8 (word f 0)
  have z1 := B8 (word f 1)
  have z2 := B8 (word f 2)
  have z3 := B8 (word f 3)
  have z4 := B8 (word f 4)
  clear hs T hw
  generalize B (hk 8 (word f 0)) = X0 at *
  generalize B (hk 8 (word f 1)) = X1 at *
  generalize B (hk 8 (word f 2)) = X2 at *
  generalize B (hk 8 (word f 3)) = X3 at *
  generalize B (hk 8 (word f 4)) = X4 at *
  generalize txt (word f) = TX at *
  have zs : (⟨#[32]⟩ : ByteArray).size = 1 := rfl
  have n0 : (9223372036854775807 < X0.size + (⟨#[32]⟩ : ByteArray).size) = False := by simp; omega
  go_enter Tryd.func6, Tryd.ntmps6
  go_wp2_with (first
    | (go_at_call 8; (with_reducible refine SM.out.mono ?_); rintro e w1 ⟨rfl, hb1⟩; clear SM; have G1 := Lib.hid (kept (hp_new w _) hb1); have B1 := btr hb0 hb1)
    | (refine wpList_load_row rfl 38 (.tmp 1) rfl w.heap.size rfl _ _ _ _ G1.out Tryd.underlying38 rfl (szc sz20 _ _) ?_)
    | (go_at_call 20; (with_reducible refine (HX'.out _).mono ?_); rintro e w2 ⟨rfl, hb2⟩; clear HX'; have G2 := Lib.hid (kept G1.out hb2); have B2 := btr B1 hb2))
  refine wp_region_quiet_below (by kernel_rfl) (by kernel_rfl) ?_
  quiet_step (fail)
  quiet_step (fail)
  refine qload (by rfl) 38 (.tmp 1) rfl ⟨w.heap.size, 0, none⟩ rfl _ (regrown20 G2.out) ?_
  quiet_step ((go_at_call 21; with_reducible exact CW.out _ _ _))
  quiet_step ((go_at_call 17; with_reducible exact CT.out _ B2 _ _))
  repeat quiet_step (fail)
  refine wpQuiet_nil ?_
  intro _ hw'
  obtain ⟨⟨dq, osq⟩, hw''⟩ := hw'
  subst hw''
  have hb3 : Below w.heap.size w (Sort.grow (redrawn w2 dq) osq) := btr B2 (below_regrown w2 dq osq)
  generalize Sort.grow (redrawn w2 dq) osq = W3 at *
  clear x0 x1 x2 x3 x4
  go_wp2
  go_ret
  exact ⟨ret_bool (by first | rfl | simp), hb3⟩
theorem door_met (os : Os) (args : Array Value) : laidMetH Tryd.prog Rows.ntpDigitsRow.laid ((World.doorLaid Tryd.prog 400 os).forCall (fun _ _ => 0) ⟨#[], args, []⟩).memory :=
  laidMetH_of_parts3 (fuel := 8) (laidMet_of_run' 8 (by kernel_rfl) (by kernel_rfl)) (by kernel_rfl) (by kernel_rfl)
set_option maxRecDepth 100000 in
theorem lifted (os : Os) (started : os.Started) (H : Type) (enc : TypeId × Value → H) :
    ReturnsInHanded {} Tryd.checked os 6 .any (fun w args => (Rows.ntpDigitsSpec.pre enc Tryd.prog Tryd.f6 [] false w args ∧ laidMetH Tryd.prog Rows.ntpDigitsRow.laid w) ∧ sizedMet enc Tryd.prog Tryd.f6 (OpenSpec.ofChange Rows.ntpDigitsSpec) false w args)
      (Rows.ntpDigitsSpec.post enc Tryd.prog Tryd.f6 false true false false) := by
  refine returnsInHanded_of_change_and (C := Tryd.checked) (X := fun w _ => laidMetH Tryd.prog Rows.ntpDigitsRow.laid w) (fun _ _ _ hh h => h.of_heap hh) law.own started (by kernel_rfl) Tryd.func6
    (ChangeSpec.witness_shaped (enc := enc) (C := Tryd.checked) (os := os) (X := fun w _ => laidMetH Tryd.prog Rows.ntpDigitsRow.laid w) false (World.doorLaid Tryd.prog 400 os) #[.agg #[.int .u8 0, .int .u8 0, .int .u8 0, .int .u8 0, .int .u8 0, .int .u8 0, .int .u8 0, .int .u8 0, .int .u8 0, .int .u8 0, .int .u8 0, .int .u8 0, .int .u8 0, .int .u8 0, .int .u8 0, .int .u8 0, .int .u8 0, .int .u8 0, .int .u8 0, .int .u8 0]] 8 rfl (World.shaped_of_RefB (by kernel_rfl) (by kernel_rfl)) (by kernel_rfl) (by kernel_rfl) (by kernel_rfl) (door_met os _)) ?_
  intro W base args ds gs before hval0 hW _ _ hL _
  rw [MakeChecks.laidMetH_plain _ _ _ (by kernel_rfl)] at hL
  have T0 := ntp.tz_of hL (by repeat first | exact List.Mem.head _ | refine List.Mem.tail _ ?_)
  have hval : ∀ (j : Nat) t v, Tryd.f6.params[j]? = some t → args[j]? = some v → Value.okWide Tryd.prog W .any base t v := hval0
  have hW' := hW
  obtain ⟨p, q, hA0, hV, rfl, hfz, hnd⟩ := hW
  have hA : DataW.TrodAll enc Tryd.prog W 0 (fun _ => true) true Tryd.f6.params.toList args.toList ds p := hA0
  rw [Tryd.params6] at hA hval
  obtain ⟨v0, vs0, d0, ds0, p0, q0, hargs, rfl, rfl, h0, r0⟩ := trodAll_cons hA
  obtain ⟨rfl, rfl, rfl⟩ := trodAll_nil r0
  obtain rfl : args = #[v0] := by cases args; simp_all
  obtain ⟨rfl, rfl⟩ := trodVars_none hV
  clear hA0 hval0
  refine (Calls.mono (R := fun e w' => e = .returned (.bool true) ∧ Below W.heap.size W w') ?_ fun e W' ⟨he, hb⟩ => ?_)
  · obtain ⟨f0_, rfl, s0_⟩ := sha.open_digest (hval 0 38 v0 rfl rfl) h0
    exact walk W _ s0_ T0
  · subst he
    exact ⟨_, rfl, law.post law.laidOut (by kernel_rfl) rfl rfl Tryd.underlying4 rfl hW' hb⟩

theorem over : Rows.ntpDigitsRow.holds Tryd.pinned (OpenSpec.ofChange Rows.ntpDigitsSpec) :=
  OpenClaim.holds_of_wide 6 Tryd.f6 rfl rfl rfl rfl rfl rfl rfl ⟨rfl, rfl, rfl, rfl, rfl⟩ rfl rfl rfl rfl rfl (by kernel_rfl) Tryd.func6 (by kernel_rfl)
    (of_decide_eq_true (by kernel_rfl)) (by unfold Func.isWrapper; first | (rw [if_pos (by decide +kernel)]; kernel_rfl) | (rw [if_neg (by decide +kernel)]; exact ⟨rfl, rfl⟩))
    (fun os started H enc _ => lifted os started H enc)

theorem proved : Rows.NtpDigitsCardSaid :=
  Claim7.holds_tied_plain_at .later [] _ _ _ _ over (fun _ h => by cases h) (by kernel_rfl) (fun _ h => by cases h) ntpDigits_row_tie rfl ⟨rfl, rfl⟩ (by kernel_rfl) rfl
    (fun f fn hf hfn => by
      obtain rfl : f = 6 := Option.some.inj ((show Tryd.prog.funcNamed "epact/epactlaw07.NtpDigits" = some 6 by kernel_rfl).symm.trans hf) |>.symm
      obtain rfl : fn = Tryd.f6 := (Option.some.inj (Tryd.func6.symm.trans hfn)).symm
      exact ⟨by kernel_rfl, fun j t ht => by
        have hall : (Tryd.f6.params.toList.all fun u => !Tryd.prog.wantsStandIn u) = true := by kernel_rfl
        have hm : t ∈ Tryd.f6.params.toList := by rw [Array.mem_toList_iff]; exact Array.mem_of_getElem? ht
        exact (show Tryd.prog.wantsStandIn t = false by simpa using List.all_eq_true.1 hall t hm)⟩)
    (by kernel_rfl)
end Go.Proofs.YtfnkloecfjppeaaDoor.ntpDigits
