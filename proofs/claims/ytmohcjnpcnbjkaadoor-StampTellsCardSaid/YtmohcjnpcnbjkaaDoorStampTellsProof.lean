/-
  Proves that StampTells is true for every five numbers of 64 bits and every text: clocks, seconds, texts, and what they say, are the document's. The statement is a tied card: that the listed tables hold what their initialisers lay is tied to the program's text by the given tie. No other condition.
-/
import Derived.Test.YtmohcjnpcnbjkaaDoorStampSpoil
import Derived.Test.YtmohcjnpcnbjkaaDoorRef04Parse
import Derived.Test.YtmohcjnpcnbjkaaDoorStampLaid
import Derived.Test.YtmohcjnpcnbjkaaDoorCards
import Derived.Test.YtmohcjnpcnbjkaaDoorTie
import Derived.ChangeMaps5
namespace Go.Proofs.YtmohcjnpcnbjkaaDoor.stampTells
open Go.ChangeShapes Go.WideShapes Go.ChangeAt Go.RowKit
open stamp (Tb)
open cal stx
set_option linter.unusedVariables false

def Two (w : World) (f g : FuncId) (args : Array Value) (v : Value) : Prop :=
  (∀ W : World, Below w.heap.size w W → Calls Tryd.prog f args W fun e w' => e = .returned v ∧ Below w.heap.size w w') ∧ (∀ W : World, Below w.heap.size w W → Calls Tryd.prog g args W fun e w' => e = .returned v ∧ Below w.heap.size w w')
theorem clocks (w : World) (n : Int) : ∃ (a b c : Int) (e : Bool), Two w 9 10 #[.int .i64 n] (.tuple #[.int .i64 a, .int .i64 b, .int .i64 c, .bool e]) := by
  by_cases h : n < 0 ∨ 86400 < n
  · exact ⟨0, 0, 0, false, fun W hb => stamp.clock_off W hb n h, fun W hb => ref04.clock_off W hb n h⟩
  · obtain ⟨a, b, c, k, e⟩ := exists_clk n (by omega) (by omega)
    exact ⟨a, b, c, true, fun W hb => stamp.clock_on W hb a b c n k e, fun W hb => ref04.clock_on W hb a b c n k e⟩
theorem seconds (w : World) (h i x : Int) : ∃ (a : Int) (e : Bool), Two w 11 12 #[.int .i64 h, .int .i64 i, .int .i64 x] (.tuple #[.int .i64 a, .bool e]) := by
  by_cases c : Clk h i x
  · exact ⟨_, true, fun W hb => stamp.second_on W hb h i x _ c rfl, fun W hb => ref04.second_on W hb h i x _ c rfl⟩
  · exact ⟨0, false, fun W hb => stamp.second_off W hb h i x c, fun W hb => ref04.second_off W hb h i x c⟩
theorem texts {w : World} (T : Tb w) (n k : Int) : ∃ (a : ByteArray) (e : Bool), Two w 13 14 #[.int .i64 n, .int .i64 k] (.tuple #[.string a, .bool e]) := by
  by_cases h : n < -719162 ∨ 2932896 < n ∨ k < 0 ∨ 86400 < k
  · exact ⟨⟨#[]⟩, false, fun W hb => stamp.text_off T W hb n k h, fun W hb => ref04.text_off W hb n k h⟩
  · obtain ⟨y, m, x, v, ev⟩ := day.exists_date n (by omega) (by omega)
    obtain ⟨a, b, c, q, eq⟩ := exists_clk k (by omega) (by omega)
    exact ⟨_, true, fun W hb => stamp.text_on T W hb y m x a b c n k v ev q eq, fun W hb => ref04.text_on W hb y m x a b c n k v ev q eq⟩
theorem days {w : World} (T : Tb w) (n : Int) : ∃ (a : ByteArray) (e : Bool), Two w 17 18 #[.int .i64 n] (.tuple #[.string a, .bool e]) := by
  by_cases h : n < -719162 ∨ 2932896 < n
  · exact ⟨⟨#[]⟩, false, fun W hb => stamp.day_off T W hb n h, fun W hb => ref04.day_off W hb n h⟩
  · obtain ⟨y, m, x, v, ev⟩ := day.exists_date n (by omega) (by omega)
    exact ⟨_, true, fun W hb => stamp.day_on T W hb y m x n v ev, fun W hb => ref04.day_on W hb y m x n v ev⟩
theorem parses {w : World} (T : Tb w) (t : ByteArray) (ht : t.size ≤ 9223372036854775807) : ∃ (a b : Int) (e : Bool), Two w 15 16 #[.string t] (.tuple #[.int .i64 a, .int .i64 b, .bool e]) := by
  rcases says t with no | ⟨y, m, x, h, i, s, v, c, rfl⟩
  · exact ⟨0, 0, false, fun W hb => stamp.parse_off T W hb t ht no, fun W hb => ref04.parse_off W hb t ht no⟩
  · exact ⟨_, _, true, fun W hb => stamp.parse_on T W hb y m x h i s _ _ v rfl c rfl, fun W hb => ref04.parse_on W hb y m x h i s _ _ v rfl c rfl⟩
set_option maxRecDepth 100000 in
set_option maxHeartbeats 4000000 in
theorem walk (d : Int) (_ : -9223372036854775808 ≤ d ∧ d ≤ 9223372036854775807) (k : Int) (_ : -9223372036854775808 ≤ k ∧ k ≤ 9223372036854775807) (h : Int) (_ : -9223372036854775808 ≤ h ∧ h ≤ 9223372036854775807) (m : Int) (_ : -9223372036854775808 ≤ m ∧ m ≤ 9223372036854775807) (x : Int) (_ : -9223372036854775808 ≤ x ∧ x ≤ 9223372036854775807) (t : ByteArray) (ht : t.size ≤ maxLen) (w : World) (T : Tb w) :
    Calls Tryd.prog 3 #[.int .i64 d, .int .i64 k, .int .i64 h, .int .i64 m, .int .i64 x, .string t] w fun e w' => e = .returned (.bool true) ∧ Below w.heap.size w w' := by
  have S := Lib.hid (fun W hb => stamp.small_true T W hb)
  have B0 : Below w.heap.size w w := Below.refl _ _
  unfold maxLen at ht
  by_cases hs : 200 < t.size
  · clear T
    go_enter Tryd.func3, Tryd.ntmps3
    go_wp2_with (first
      | (go_at_call 8; (with_reducible refine (S.out _ (by assumption)).mono ?_; rintro e w1 ⟨rfl, hb1⟩)))
    go_ret
    exact ⟨rfl, by assumption⟩
  have hs : t.size ≤ 200 := by omega
  obtain ⟨a1, a2, a3, a4, A, A'⟩ := clocks w k
  obtain ⟨b1, b2, B, B'⟩ := seconds w h m x
  obtain ⟨c1, c2, C, C'⟩ := texts T d k
  obtain ⟨p1, p2, p3, P, P'⟩ := parses T t (by omega)
  obtain ⟨d1, d2, D, D'⟩ := days T d
  have A := Lib.hid A
  have A' := Lib.hid A'
  have B := Lib.hid B
  have B' := Lib.hid B'
  have C := Lib.hid C
  have C' := Lib.hid C'
  have P := Lib.hid P
  have P' := Lib.hid P'
  have D := Lib.hid D
  have D' := Lib.hid D'
  clear T
  go_enter Tryd.func3, Tryd.ntmps3
  go_wp2_with (first
    | (go_at_call 8; (with_reducible refine (S.out _ (by assumption)).mono ?_; rintro e w1 ⟨rfl, hb1⟩))
    | (go_at_call 9; (with_reducible refine (A.out _ (by assumption)).mono ?_; rintro e w2 ⟨rfl, hb2⟩))
    | (go_at_call 10; (with_reducible refine (A'.out _ (by assumption)).mono ?_; rintro e w3 ⟨rfl, hb3⟩))
    | (go_at_call 11; (with_reducible refine (B.out _ (by assumption)).mono ?_; rintro e w4 ⟨rfl, hb4⟩))
    | (go_at_call 12; (with_reducible refine (B'.out _ (by assumption)).mono ?_; rintro e w5 ⟨rfl, hb5⟩))
    | (go_at_call 13; (with_reducible refine (C.out _ (by assumption)).mono ?_; rintro e w6 ⟨rfl, hb6⟩))
    | (go_at_call 14; (with_reducible refine (C'.out _ (by assumption)).mono ?_; rintro e w7 ⟨rfl, hb7⟩))
    | (go_at_call 15; (with_reducible refine (P.out _ (by assumption)).mono ?_; rintro e w8 ⟨rfl, hb8⟩))
    | (go_at_call 16; (with_reducible refine (P'.out _ (by assumption)).mono ?_; rintro e w9 ⟨rfl, hb9⟩))
    | (go_at_call 17; (with_reducible refine (D.out _ (by assumption)).mono ?_; rintro e w10 ⟨rfl, hb10⟩))
    | (go_at_call 18; (with_reducible refine (D'.out _ (by assumption)).mono ?_; rintro e w11 ⟨rfl, hb11⟩)))
  all_goals
    go_ret
    exact ⟨day.ret_bool (by first | rfl | (simp; done)), by assumption⟩

theorem door_met (os : Os) (args : Array Value) : laidMetH Tryd.prog Rows.stampTellsRow.laid ((World.doorLaid Tryd.prog 400 os).forCall (fun _ _ => 0) ⟨#[], args, []⟩).memory :=
  laidMetH_of_parts3 (fuel := 8) (laidMet_of_run' 8 (by kernel_rfl) (by kernel_rfl)) (by kernel_rfl) (by kernel_rfl)
set_option maxRecDepth 100000 in
theorem lifted (os : Os) (started : os.Started) (H : Type) (enc : TypeId × Value → H) :
    ReturnsInHanded {} Tryd.checked os 3 .any (fun w args => (Rows.stampTellsSpec.pre enc Tryd.prog Tryd.f3 [] false w args ∧ laidMetH Tryd.prog Rows.stampTellsRow.laid w) ∧ sizedMet enc Tryd.prog Tryd.f3 (OpenSpec.ofChange Rows.stampTellsSpec) false w args)
      (Rows.stampTellsSpec.post enc Tryd.prog Tryd.f3 false true false false) := by
  refine returnsInHanded_of_change_and (C := Tryd.checked) (X := fun w _ => laidMetH Tryd.prog Rows.stampTellsRow.laid w) (fun _ _ _ hh h => h.of_heap hh) law.own started (by kernel_rfl) Tryd.func3
    (ChangeSpec.witness_shaped (enc := enc) (C := Tryd.checked) (os := os) (X := fun w _ => laidMetH Tryd.prog Rows.stampTellsRow.laid w) false (World.doorLaid Tryd.prog 400 os) #[.int .i64 0, .int .i64 0, .int .i64 0, .int .i64 0, .int .i64 0, .string ByteArray.empty] 8 rfl (World.shaped_of_RefB (by kernel_rfl) (by kernel_rfl)) (by kernel_rfl) (by kernel_rfl) (by kernel_rfl) (door_met os _)) ?_
  intro W base args ds gs before hval0 hW _ _ hL _
  rw [MakeChecks.laidMetH_plain _ _ _ (by kernel_rfl)] at hL
  have T0 := stamp.tb_of hL (by repeat first | exact List.Mem.head _ | refine List.Mem.tail _ ?_) (by repeat first | exact List.Mem.head _ | refine List.Mem.tail _ ?_) (by repeat first | exact List.Mem.head _ | refine List.Mem.tail _ ?_)
  have hval : ∀ (j : Nat) t v, Tryd.f3.params[j]? = some t → args[j]? = some v → Value.okWide Tryd.prog W .any base t v := hval0
  have hW' := hW
  obtain ⟨p, q, hA0, hV, rfl, hfz, hnd⟩ := hW
  have hA : DataW.TrodAll enc Tryd.prog W 0 (fun _ => true) true Tryd.f3.params.toList args.toList ds p := hA0
  rw [Tryd.params3] at hA hval
  obtain ⟨v0, vs0, d0, ds0, p0, q0, hargs, rfl, rfl, h0, r0⟩ := trodAll_cons hA
  obtain ⟨v1, vs1, d1, ds1, p1, q1, rfl, rfl, rfl, h1, r1⟩ := trodAll_cons r0
  obtain ⟨v2, vs2, d2, ds2, p2, q2, rfl, rfl, rfl, h2, r2⟩ := trodAll_cons r1
  obtain ⟨v3, vs3, d3, ds3, p3, q3, rfl, rfl, rfl, h3, r3⟩ := trodAll_cons r2
  obtain ⟨v4, vs4, d4, ds4, p4, q4, rfl, rfl, rfl, h4, r4⟩ := trodAll_cons r3
  obtain ⟨v5, vs5, d5, ds5, p5, q5, rfl, rfl, rfl, h5, r5⟩ := trodAll_cons r4
  obtain ⟨rfl, rfl, rfl⟩ := trodAll_nil r5
  obtain rfl : args = #[v0, v1, v2, v3, v4, v5] := by cases args; simp_all
  obtain ⟨rfl, rfl⟩ := trodVars_none hV
  clear hA0 hval0
  obtain ⟨a0, rfl, hd0, hp0, w0⟩ := open_int Tryd.underlying3 (hval 0 3 v0 rfl rfl) h0
  obtain ⟨a1, rfl, hd1, hp1, w1⟩ := open_int Tryd.underlying3 (hval 1 3 v1 rfl rfl) h1
  obtain ⟨a2, rfl, hd2, hp2, w2⟩ := open_int Tryd.underlying3 (hval 2 3 v2 rfl rfl) h2
  obtain ⟨a3, rfl, hd3, hp3, w3⟩ := open_int Tryd.underlying3 (hval 3 3 v3 rfl rfl) h3
  obtain ⟨a4, rfl, hd4, hp4, w4⟩ := open_int Tryd.underlying3 (hval 4 3 v4 rfl rfl) h4
  obtain ⟨a5, rfl, hd5, hp5, w5⟩ := ChangeMaps.open_string Tryd.underlying9 (hval 5 9 v5 rfl rfl) h5
  refine (Calls.mono (R := fun e w' => e = .returned (.bool true) ∧ Below W.heap.size W w') ?_ fun e W' ⟨he, hb⟩ => ?_)
  · exact walk a0 (bounds_i64 w0) a1 (bounds_i64 w1) a2 (bounds_i64 w2) a3 (bounds_i64 w3) a4 (bounds_i64 w4) a5 w5 W T0
  · subst he
    exact ⟨_, rfl, law.post law.laidOut (by kernel_rfl) rfl rfl Tryd.underlying4 rfl hW' hb⟩

theorem over : Rows.stampTellsRow.holds Tryd.pinned (OpenSpec.ofChange Rows.stampTellsSpec) :=
  OpenClaim.holds_of_wide 3 Tryd.f3 rfl rfl rfl rfl rfl rfl rfl ⟨rfl, rfl, rfl, rfl, rfl⟩ rfl rfl rfl rfl rfl (by kernel_rfl) Tryd.func3 (by kernel_rfl)
    (of_decide_eq_true (by kernel_rfl)) (by unfold Func.isWrapper; first | (rw [if_pos (by decide +kernel)]; kernel_rfl) | (rw [if_neg (by decide +kernel)]; exact ⟨rfl, rfl⟩))
    (fun os started H enc _ => lifted os started H enc)

theorem proved : Rows.StampTellsCardSaid :=
  Claim7.holds_tied_plain_at .later [] _ _ _ _ over (fun _ h => by cases h) (by kernel_rfl) (fun _ h => by cases h) stampTells_row_tie rfl ⟨rfl, rfl⟩ (by kernel_rfl) rfl
    (fun f fn hf hfn => by
      obtain rfl : f = 3 := Option.some.inj ((show Tryd.prog.funcNamed "epact/epactlaw04.StampTells" = some 3 by kernel_rfl).symm.trans hf) |>.symm
      obtain rfl : fn = Tryd.f3 := (Option.some.inj (Tryd.func3.symm.trans hfn)).symm
      exact ⟨by kernel_rfl, fun j t ht => by
        have hall : (Tryd.f3.params.toList.all fun u => !Tryd.prog.wantsStandIn u) = true := by kernel_rfl
        have hm : t ∈ Tryd.f3.params.toList := by rw [Array.mem_toList_iff]; exact Array.mem_of_getElem? ht
        exact (show Tryd.prog.wantsStandIn t = false by simpa using List.all_eq_true.1 hall t hm)⟩)
    (by kernel_rfl)
end Go.Proofs.YtmohcjnpcnbjkaaDoor.stampTells
