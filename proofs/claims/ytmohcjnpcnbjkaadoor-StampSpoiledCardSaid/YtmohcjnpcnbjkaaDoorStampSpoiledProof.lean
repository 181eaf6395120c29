/-
  Proves that StampSpoiled is true for every day, second and place, numbers of 64 bits, and every byte: a text with one byte of another kind, shorter, or longer, says nothing, or what it says in full. The statement is a tied card: that the listed tables hold what their initialisers lay is tied to the program's text by the given tie. No other condition.
-/
import Derived.Test.YtmohcjnpcnbjkaaDoorStampSpoil
import Derived.Test.YtmohcjnpcnbjkaaDoorStampLaid
import Derived.Test.YtmohcjnpcnbjkaaDoorCards
import Derived.Test.YtmohcjnpcnbjkaaDoorTie
namespace Go.Proofs.YtmohcjnpcnbjkaaDoor.stampSpoiled
open Go.ChangeShapes Go.WideShapes Go.ChangeAt Go.RowKit
open stamp (Tb text_on text_off parse_on parse_off)
open cal stx
set_option linter.unusedVariables false

set_option maxRecDepth 100000 in
set_option maxHeartbeats 4000000 in
theorem walk (d : Int) (_ : -9223372036854775808 ≤ d ∧ d ≤ 9223372036854775807) (k : Int) (_ : -9223372036854775808 ≤ k ∧ k ≤ 9223372036854775807) (p : Int) (_ : -9223372036854775808 ≤ p ∧ p ≤ 9223372036854775807) (c : Int) (_ : 0 ≤ c ∧ c ≤ 255) (w : World) (T : Tb w) :
    Calls Tryd.prog 7 #[.int .i64 d, .int .i64 k, .int .i64 p, .int .u8 c] w fun e w' => e = .returned (.bool true) ∧ Below w.heap.size w w' := by
  have S := Lib.hid (fun W hb => stamp.small_true T W hb)
  have B0 : Below w.heap.size w w := Below.refl _ _
  by_cases h1 : d < -719162 ∨ 2932896 < d ∨ k < 0 ∨ 86400 < k
  · have A := Lib.hid (fun W hb => text_off T W hb d k h1)
    clear T h1
    go_enter Tryd.func7, Tryd.ntmps7
    go_wp2_with (first
      | (go_at_call 8; (with_reducible refine (S.out _ (by assumption)).mono ?_; rintro e w1 ⟨rfl, hb1⟩))
      | (go_at_call 13; (with_reducible refine (A.out _ (by assumption)).mono ?_; rintro e w2 ⟨rfl, hb2⟩)))
    all_goals
      go_ret
      exact ⟨rfl, by assumption⟩
  obtain ⟨y, m, x, v, ev⟩ := day.exists_date d (by omega) (by omega)
  obtain ⟨h, i, s, c', ec⟩ := exists_clk k (by omega) (by omega)
  have A := Lib.hid (fun W hb => text_on T W hb y m x h i s d k v ev c' ec)
  have z0 := txt_size y m x h i s
  have F0 := Lib.hid (txt_fits y m x h i s)
  have E0 := Lib.hid (show ∀ Z : ByteArray, (∀ y m d h i x : Int, Vld y m d → Clk h i x → Z ≠ txt y m d h i x) → Z ≠ txt y m x h i s from fun Z no => no y m x h i s v c')
  generalize txt y m x h i s = X at *
  by_cases h2 : p < 0 ∨ 20 ≤ p
  · clear T h1
    go_enter Tryd.func7, Tryd.ntmps7
    go_wp2_with (first
      | (go_at_call 8; (with_reducible refine (S.out _ (by assumption)).mono ?_; rintro e w1 ⟨rfl, hb1⟩))
      | (go_at_call 13; (with_reducible refine (A.out _ (by assumption)).mono ?_; rintro e w2 ⟨rfl, hb2⟩)))
    all_goals first
      | (exfalso; omega)
      | (go_ret; exact ⟨rfl, by assumption⟩)
  obtain ⟨n, rfl⟩ : ∃ n : Nat, p = n := ⟨p.toNat, by omega⟩
  obtain ⟨b, rfl⟩ : ∃ b : UInt8, c = (b.toNat : Int) := ⟨UInt8.ofNat c.toNat, by rw [UInt8.toNat_ofNat']; omega⟩
  have p1 : n < 20 := by omega
  have hto := fun W => to_bytes W X
  have hce := fun W => bw_cell W X n (by omega)
  have hfr := fun W => bw_frozen W X n (by omega)
  have hfrom := fun W => from_bytes W X n b (by omega) (bcap W X)
  have bB : b.toNat ≤ 255 := by have := b.toNat_lt; omega
  rw [z0] at hto hfrom
  unfold bset at hfrom
  have zY : (setB X n b).size = 20 := by rw [setB_size, z0]
  have HB := Lib.hid (fun W (hb : Below w.heap.size w W) => bset_below hb X n b)
  unfold bset at HB
  have SD := Lib.hid (fun hY ne => spoiled_digit (c := b) p1 F0.out hY ne)
  have Q := beq_text (setB X n b) X
  generalize setB X n b = Y at *
  generalize bt X n = B at *
  have PS := Lib.hid (fun W hb => parse_off T W hb (X.extract 0 n) (by simp; omega) (fun y m d h i x _ _ e => by have := congrArg ByteArray.size e; rw [txt_size] at this; simp at this; omega))
  have PL := Lib.hid (fun W hb => parse_off T W hb (X ++ Y.extract n (n + 1)) (by simp; omega) (fun y m d h i x _ _ e => by have := congrArg ByteArray.size e; rw [txt_size] at this; simp at this; omega))
  have hsl := fun W => one_byte W Y n (by omega)
  clear h1 h2 v ev ec c'
  rcases says Y with no | ⟨y', m', x', h', i', s', v', c', e'⟩
  · have PY := Lib.hid (fun W hb => parse_off T W hb Y (by omega) no)
    have t2 : (Y.toList == X.toList) = false := by rw [Q, decide_eq_false_iff_not]; exact E0.out Y no
    clear T no Q E0 SD F0
    go_enter Tryd.func7, Tryd.ntmps7
    go_wp2_with (first
      | (go_at_call 8; (with_reducible refine (S.out _ (by assumption)).mono ?_; rintro e w1 ⟨rfl, hb1⟩))
      | (go_at_call 13; (with_reducible refine (A.out _ (by assumption)).mono ?_; rintro e w2 ⟨rfl, hb2⟩))
      | (go_at_call 15; (first | (with_reducible refine (PY.out _ (by first | assumption | exact HB.out _ ‹_›)).mono ?_; rintro e w3 ⟨rfl, hb3⟩) | (with_reducible refine (PS.out _ (by assumption)).mono ?_; rintro e w4 ⟨rfl, hb4⟩) | (with_reducible refine (PL.out _ (by assumption)).mono ?_; rintro e w5 ⟨rfl, hb5⟩))))
    all_goals
      go_ret
      exact ⟨day.ret_bool (by first | rfl | (simp; done) | (simp; omega)), by assumption⟩
  · have FY : FitsAll Y := by rw [e']; exact txt_fits _ _ _ _ _ _
    have PY := Lib.hid (fun W hb => parse_on T W hb y' m' x' h' i' s' _ _ v' rfl c' rfl)
    have A2 := Lib.hid (fun W hb => text_on T W hb y' m' x' h' i' s' _ _ v' rfl c' rfl)
    rw [← e'] at PY A2
    generalize num y' m' x' = N at *
    generalize secN h' i' s' = K at *
    clear T v' c' e' E0 F0
    by_cases q : Y = X
    · have t2 : (Y.toList == X.toList) = true := by rw [Q, decide_eq_true_eq]; exact q
      clear Q SD q FY
      go_enter Tryd.func7, Tryd.ntmps7
      go_wp2_with (first
        | (go_at_call 8; (with_reducible refine (S.out _ (by assumption)).mono ?_; rintro e w1 ⟨rfl, hb1⟩))
        | (go_at_call 13; (first | (with_reducible refine (A.out _ (by assumption)).mono ?_; rintro e w2 ⟨rfl, hb2⟩) | (with_reducible refine (A2.out _ (by assumption)).mono ?_; rintro e w3 ⟨rfl, hb3⟩)))
        | (go_at_call 15; (first | (with_reducible refine (PY.out _ (by first | assumption | exact HB.out _ ‹_›)).mono ?_; rintro e w4 ⟨rfl, hb4⟩) | (with_reducible refine (PS.out _ (by assumption)).mono ?_; rintro e w5 ⟨rfl, hb5⟩) | (with_reducible refine (PL.out _ (by assumption)).mono ?_; rintro e w6 ⟨rfl, hb6⟩))))
      all_goals
        go_ret
        exact ⟨day.ret_bool (by first | rfl | (simp; done) | (simp; omega)), by assumption⟩
    · have t2 : (Y.toList == X.toList) = false := by rw [Q, decide_eq_false_iff_not]; exact q
      obtain ⟨g1, g2⟩ := SD.out FY q
      clear Q SD q FY
      go_enter Tryd.func7, Tryd.ntmps7
      go_wp2_with (first
        | (go_at_call 8; (with_reducible refine (S.out _ (by assumption)).mono ?_; rintro e w1 ⟨rfl, hb1⟩))
        | (go_at_call 13; (first | (with_reducible refine (A.out _ (by assumption)).mono ?_; rintro e w2 ⟨rfl, hb2⟩) | (with_reducible refine (A2.out _ (by assumption)).mono ?_; rintro e w3 ⟨rfl, hb3⟩)))
        | (go_at_call 15; (first | (with_reducible refine (PY.out _ (by first | assumption | exact HB.out _ ‹_›)).mono ?_; rintro e w4 ⟨rfl, hb4⟩) | (with_reducible refine (PS.out _ (by assumption)).mono ?_; rintro e w5 ⟨rfl, hb5⟩) | (with_reducible refine (PL.out _ (by assumption)).mono ?_; rintro e w6 ⟨rfl, hb6⟩))))
      all_goals
        go_ret
        exact ⟨day.ret_bool (by first | rfl | (simp; done) | (simp; omega)), by assumption⟩

theorem door_met (os : Os) (args : Array Value) : laidMetH Tryd.prog Rows.stampSpoiledRow.laid ((World.doorLaid Tryd.prog 400 os).forCall (fun _ _ => 0) ⟨#[], args, []⟩).memory :=
  laidMetH_of_parts3 (fuel := 8) (laidMet_of_run' 8 (by kernel_rfl) (by kernel_rfl)) (by kernel_rfl) (by kernel_rfl)
set_option maxRecDepth 100000 in
theorem lifted (os : Os) (started : os.Started) (H : Type) (enc : TypeId × Value → H) :
    ReturnsInHanded {} Tryd.checked os 7 .any (fun w args => (Rows.stampSpoiledSpec.pre enc Tryd.prog Tryd.f7 [] false w args ∧ laidMetH Tryd.prog Rows.stampSpoiledRow.laid w) ∧ sizedMet enc Tryd.prog Tryd.f7 (OpenSpec.ofChange Rows.stampSpoiledSpec) false w args)
      (Rows.stampSpoiledSpec.post enc Tryd.prog Tryd.f7 false true false false) := by
  refine returnsInHanded_of_change_and (C := Tryd.checked) (X := fun w _ => laidMetH Tryd.prog Rows.stampSpoiledRow.laid w) (fun _ _ _ hh h => h.of_heap hh) law.own started (by kernel_rfl) Tryd.func7
    (ChangeSpec.witness_shaped (enc := enc) (C := Tryd.checked) (os := os) (X := fun w _ => laidMetH Tryd.prog Rows.stampSpoiledRow.laid w) false (World.doorLaid Tryd.prog 400 os) #[.int .i64 0, .int .i64 0, .int .i64 0, .int .u8 0] 8 rfl (World.shaped_of_RefB (by kernel_rfl) (by kernel_rfl)) (by kernel_rfl) (by kernel_rfl) (by kernel_rfl) (door_met os _)) ?_
  intro W base args ds gs before hval0 hW _ _ hL _
  rw [MakeChecks.laidMetH_plain _ _ _ (by kernel_rfl)] at hL
  have T0 := stamp.tb_of hL (by repeat first | exact List.Mem.head _ | refine List.Mem.tail _ ?_) (by repeat first | exact List.Mem.head _ | refine List.Mem.tail _ ?_) (by repeat first | exact List.Mem.head _ | refine List.Mem.tail _ ?_)
  have hval : ∀ (j : Nat) t v, Tryd.f7.params[j]? = some t → args[j]? = some v → Value.okWide Tryd.prog W .any base t v := hval0
  have hW' := hW
  obtain ⟨p, q, hA0, hV, rfl, hfz, hnd⟩ := hW
  have hA : DataW.TrodAll enc Tryd.prog W 0 (fun _ => true) true Tryd.f7.params.toList args.toList ds p := hA0
  rw [Tryd.params7] at hA hval
  obtain ⟨v0, vs0, d0, ds0, p0, q0, hargs, rfl, rfl, h0, r0⟩ := trodAll_cons hA
  obtain ⟨v1, vs1, d1, ds1, p1, q1, rfl, rfl, rfl, h1, r1⟩ := trodAll_cons r0
  obtain ⟨v2, vs2, d2, ds2, p2, q2, rfl, rfl, rfl, h2, r2⟩ := trodAll_cons r1
  obtain ⟨v3, vs3, d3, ds3, p3, q3, rfl, rfl, rfl, h3, r3⟩ := trodAll_cons r2
  obtain ⟨rfl, rfl, rfl⟩ := trodAll_nil r3
  obtain rfl : args = #[v0, v1, v2, v3] := by cases args; simp_all
  obtain ⟨rfl, rfl⟩ := trodVars_none hV
  clear hA0 hval0
  obtain ⟨a0, rfl, hd0, hp0, w0⟩ := open_int Tryd.underlying3 (hval 0 3 v0 rfl rfl) h0
  obtain ⟨a1, rfl, hd1, hp1, w1⟩ := open_int Tryd.underlying3 (hval 1 3 v1 rfl rfl) h1
  obtain ⟨a2, rfl, hd2, hp2, w2⟩ := open_int Tryd.underlying3 (hval 2 3 v2 rfl rfl) h2
  obtain ⟨a3, rfl, hd3, hp3, w3⟩ := open_int Tryd.underlying5 (hval 3 5 v3 rfl rfl) h3
  refine (Calls.mono (R := fun e w' => e = .returned (.bool true) ∧ Below W.heap.size W w') ?_ fun e W' ⟨he, hb⟩ => ?_)
  · exact walk a0 (bounds_i64 w0) a1 (bounds_i64 w1) a2 (bounds_i64 w2) a3 (bounds_u8 w3) W T0
  · subst he
    exact ⟨_, rfl, law.post law.laidOut (by kernel_rfl) rfl rfl Tryd.underlying4 rfl hW' hb⟩

theorem over : Rows.stampSpoiledRow.holds Tryd.pinned (OpenSpec.ofChange Rows.stampSpoiledSpec) :=
  OpenClaim.holds_of_wide 7 Tryd.f7 rfl rfl rfl rfl rfl rfl rfl ⟨rfl, rfl, rfl, rfl, rfl⟩ rfl rfl rfl rfl rfl (by kernel_rfl) Tryd.func7 (by kernel_rfl)
    (of_decide_eq_true (by kernel_rfl)) (by unfold Func.isWrapper; first | (rw [if_pos (by decide +kernel)]; kernel_rfl) | (rw [if_neg (by decide +kernel)]; exact ⟨rfl, rfl⟩))
    (fun os started H enc _ => lifted os started H enc)

theorem proved : Rows.StampSpoiledCardSaid :=
  Claim7.holds_tied_plain_at .later [] _ _ _ _ over (fun _ h => by cases h) (by kernel_rfl) (fun _ h => by cases h) stampSpoiled_row_tie rfl ⟨rfl, rfl⟩ (by kernel_rfl) rfl
    (fun f fn hf hfn => by
      obtain rfl : f = 7 := Option.some.inj ((show Tryd.prog.funcNamed "epact/epactlaw04.StampSpoiled" = some 7 by kernel_rfl).symm.trans hf) |>.symm
      obtain rfl : fn = Tryd.f7 := (Option.some.inj (Tryd.func7.symm.trans hfn)).symm
      exact ⟨by kernel_rfl, fun j t ht => by
        have hall : (Tryd.f7.params.toList.all fun u => !Tryd.prog.wantsStandIn u) = true := by kernel_rfl
        have hm : t ∈ Tryd.f7.params.toList := by rw [Array.mem_toList_iff]; exact Array.mem_of_getElem? ht
        exact (show Tryd.prog.wantsStandIn t = false by simpa using List.all_eq_true.1 hall t hm)⟩)
    (by kernel_rfl)
end Go.Proofs.YtmohcjnpcnbjkaaDoor.stampSpoiled
