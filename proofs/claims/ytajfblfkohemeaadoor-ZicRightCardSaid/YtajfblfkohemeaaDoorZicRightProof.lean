/-
  ZicRight: a table that is read is right, or there is a fault, in a line of the text, for every text of at most 3000 bytes. Condition: the row's own (the listed tables hold what their initialisers lay; the card ties that).
-/
import Derived.Test.YtajfblfkohemeaaDoorZicLaw
import Derived.Test.YtajfblfkohemeaaDoorCards
import Derived.Test.YtajfblfkohemeaaDoorTie
import Derived.SevenTiedAt
import Derived.Deep.RegionHeld3
namespace Go.Proofs.YtajfblfkohemeaaDoor.zicRight
open Go.ChangeShapes Go.WideShapes Go.ChangeAt Go.RowKit
open zic leap lm mem lx
open zs (parse)
set_option linter.unusedVariables false
set_option maxRecDepth 100000

theorem s_keep {g k : Nat} {A : Option Addr} {n c : Nat} {has : Bool} {x a b : Int} {w W W' : World} (h : W.cell? ⟨g, 0, none⟩ = some (.slice A n c) ∧ W.cell? ⟨g, 1, none⟩ = some (.bool has) ∧ W.cell? ⟨g, 2, none⟩ = some (.int .i64 x) ∧ W.cell? ⟨k, 0, none⟩ = some (.int .i64 a) ∧ W.cell? ⟨k, 1, none⟩ = some (.int .i64 b) ∧ Below w.heap.size w W) (hb : Below W.heap.size W W') :
    W'.cell? ⟨g, 0, none⟩ = some (.slice A n c) ∧ W'.cell? ⟨g, 1, none⟩ = some (.bool has) ∧ W'.cell? ⟨g, 2, none⟩ = some (.int .i64 x) ∧ W'.cell? ⟨k, 0, none⟩ = some (.int .i64 a) ∧ W'.cell? ⟨k, 1, none⟩ = some (.int .i64 b) ∧ Below w.heap.size w W' :=
  ⟨(hb.cell (World.block_lt_of_cell? W _ h.1)).trans h.1, (hb.cell (World.block_lt_of_cell? W _ h.2.1)).trans h.2.1, (hb.cell (World.block_lt_of_cell? W _ h.2.2.1)).trans h.2.2.1, (hb.cell (World.block_lt_of_cell? W _ h.2.2.2.1)).trans h.2.2.2.1, (hb.cell (World.block_lt_of_cell? W _ h.2.2.2.2.1)).trans h.2.2.2.2.1, btr h.2.2.2.2.2 hb⟩
theorem s_start (W w2 : World) {w : World} {A : Option Addr} {n c : Nat} {has : Bool} {x a b : Int} (hb : Below w.heap.size w w2) (e : W = (w2.alloc (.cells #[.slice A n c, .bool has, .int .i64 x] 24)).alloc (.cells #[.int .i64 a, .int .i64 b] 31)) :
    W.cell? ⟨w2.heap.size, 0, none⟩ = some (.slice A n c) ∧ W.cell? ⟨w2.heap.size, 1, none⟩ = some (.bool has) ∧ W.cell? ⟨w2.heap.size, 2, none⟩ = some (.int .i64 x) ∧ W.cell? ⟨w2.heap.size + 1, 0, none⟩ = some (.int .i64 a) ∧ W.cell? ⟨w2.heap.size + 1, 1, none⟩ = some (.int .i64 b) ∧ Below w.heap.size w W := by
  subst e
  have g1 := hp_old (hp_new w2 (.cells #[.slice A n c, .bool has, .int .i64 x] 24)) (.cells #[.int .i64 a, .int .i64 b] 31)
  have g2 := hp_new1 w2 (.cells #[.slice A n c, .bool has, .int .i64 x] 24) (.cells #[.int .i64 a, .int .i64 b] 31)
  exact ⟨row_cell g1 0, row_cell g1 1, row_cell g1 2, row_cell g2 0, row_cell g2 1, bal (bal hb _) _⟩
theorem s_drew (W w2 : World) {w : World} {A : Option Addr} {n c : Nat} {has : Bool} {x a b : Int} (hb : Below w.heap.size w w2) (e : W = (w2.alloc (.cells #[.slice A n c, .bool has, .int .i64 x] 24)).alloc (.cells #[.int .i64 a, .int .i64 b] 31)) :
    W.drew.cell? ⟨w2.heap.size, 0, none⟩ = some (.slice A n c) ∧ W.drew.cell? ⟨w2.heap.size, 1, none⟩ = some (.bool has) ∧ W.drew.cell? ⟨w2.heap.size, 2, none⟩ = some (.int .i64 x) ∧ W.drew.cell? ⟨w2.heap.size + 1, 0, none⟩ = some (.int .i64 a) ∧ W.drew.cell? ⟨w2.heap.size + 1, 1, none⟩ = some (.int .i64 b) ∧ Below w.heap.size w W.drew := by
  obtain ⟨h0, h1, h2, h3, h4, h5⟩ := s_start W w2 hb e
  exact ⟨h0, h1, h2, h3, h4, bel_drewN h5 1⟩
theorem s_below {g k : Nat} {A : Option Addr} {n c : Nat} {has : Bool} {x a b : Int} {w W : World} (h : W.cell? ⟨g, 0, none⟩ = some (.slice A n c) ∧ W.cell? ⟨g, 1, none⟩ = some (.bool has) ∧ W.cell? ⟨g, 2, none⟩ = some (.int .i64 x) ∧ W.cell? ⟨k, 0, none⟩ = some (.int .i64 a) ∧ W.cell? ⟨k, 1, none⟩ = some (.int .i64 b) ∧ Below w.heap.size w W) : Below w.heap.size w W := h.2.2.2.2.2
theorem len_ok {lv : List Lp} {has : Bool} {x : Int} (h : ce lv has x = 0) : lv.length ≤ 9223372036854775807 := by have := (good_of h).len; omega
set_option maxHeartbeats 4000000 in
theorem walk (s : ByteArray) (hs : s.size ≤ maxLen) (w : World) (T : zic.All w) :
    Calls Tryd.prog 4 #[.string s] w fun e w' => e = .returned (.bool true) ∧ Below w.heap.size w w' := by
  have hA : Below w.heap.size w w := Below.refl _ _
  have SM : Hid (∀ W, Below w.heap.size w W → Calls Tryd.prog 7 #[] W fun e w' => e = .returned (.bool true) ∧ Below W.heap.size W w') := fun W hb => zic.small_at W (T.below hb)
  by_cases g1 : 3000 < s.size
  · have t1 : decide ((s.size : Int) > 3000) = true := by simp; omega
    have t2 : decide (3000 < (s.size : Int)) = true := by simp; omega
    clear T hs
    go_enter Tryd.func4, Tryd.ntmps4
    go_wp2_with (go_at_call 7; with_reducible refine (SM.out _ hA).mono ?_; rintro e w1 ⟨rfl, hb1⟩; have hA := btr hA hb1)
    go_ret
    exact ⟨rfl, hA⟩
  · have t1 : decide (3000 < (s.size : Int)) = false := by simp; omega
    have hll := zic.lines_len s
    have hxl : (splitS s).length ≤ 3000 := by omega
    have PT : Hid (∀ W, Below w.heap.size w W → Calls Tryd.prog 11 #[.string s] W (zic.PTold (parse ((splitS s).map wl)) W)) := fun W hb => by
      have T' := T.below hb
      exact zic.parse_at s W T'.tabs T'.ml T'.nm (by omega)
    unfold zic.PTold tcs zic.fcs at PT
    have SP : Hid (∀ W, Below w.heap.size w W → Calls Tryd.prog 13 #[.string s] W (lines.Told W (splitS s))) := fun W hb => lines.split_at s W (T.below hb).ml (by omega)
    unfold lines.Told at SP
    have RT := zs.parse_right ((splitS s).map wl)
    rw [List.length_map] at RT
    have RI : Hid (∀ (l : List Lp) A c has x W, Below w.heap.size w W → Lps W A l → l.length ≤ 9223372036854775807 → Calls Tryd.prog 10 #[.agg #[.slice A l.length c, .bool has, .int .i64 x]] W fun e w' => e = .returned (.bool (ce l has x == 0)) ∧ Below W.heap.size W w') := fun l A c has x W hb hl hn => right_at l A c has x W (T.below hb).tabs hl hn
    have SA : Hid (∀ A c W, Below w.heap.size w W → Calls Tryd.prog 12 #[.agg #[.slice A 0 c, .bool false, .int .i64 0], .agg #[.slice none 0 0, .bool false, .int .i64 0]] W fun e w' => e = .returned (.bool true) ∧ Below W.heap.size W w') := fun A c W hb => by
      have := ref09.same_at [] [] A none c 0 false false 0 0 W (fun h => absurd rfl h) (fun h => absurd rfl h) (by simp) (by simp)
      rw [sm_self] at this
      exact this
    generalize parse ((splitS s).map wl) = o at *
    obtain ⟨ln, cd, lv, has, x⟩ := o
    simp only at RT PT
    generalize splitS s = X at *
    clear T hs g1
    rcases RT with ⟨rfl, rfl, h4⟩ | ⟨h1, h1', h2, h2', rfl, rfl, rfl⟩
    · have hz : (ce lv has x == 0) = true := by rw [h4]; rfl
      go_enter Tryd.func4, Tryd.ntmps4
      go_wp2_with (first
        | (go_at_call 7; with_reducible refine (SM.out _ hA).mono ?_; rintro e w1 ⟨rfl, hb1⟩; have hA := btr hA hb1)
        | (go_at_call 11; with_reducible refine (PT.out _ hA).mono ?_; rintro e w2 ⟨A, c, rfl, hl2, hlc, hb2⟩; have hA := btr hA hb2; have hne := hl2.below (b2 w2 (.cells #[.slice A lv.length c, .bool has, .int .i64 x] 24) (.cells #[.int .i64 0, .int .i64 0] 31)); have hA6 := bal (bal hA (.cells #[.slice A lv.length c, .bool has, .int .i64 x] 24)) (.cells #[.int .i64 0, .int .i64 0] 31); have RR := Lib.hid (RI.out lv A c has x _ hA6 hne (len_ok h4)))
        | (go_at_call 10; with_reducible refine RR.out.mono ?_; rintro e w3 ⟨rfl, hb3⟩))
      go_ret
      exact ⟨rfl, btr hA6 hb3⟩
    · have u1 : (cd != 0) = true := by simp; omega
      have v1 : decide ((ln : Int) ≥ 1) = true := decide_eq_true (by omega)
      have v2 : decide (1 ≤ (ln : Int)) = true := decide_eq_true (by omega)
      have v3 : decide (1 ≤ ln) = true := decide_eq_true (by omega)
      have v4 : decide ((ln : Int) ≤ (X.length : Int)) = true := decide_eq_true (by omega)
      have v5 : decide (ln ≤ X.length) = true := decide_eq_true (by omega)
      go_enter Tryd.func4, Tryd.ntmps4
      go_wp2_with (first
        | (go_at_call 7; with_reducible refine (SM.out _ hA).mono ?_; rintro e w1 ⟨rfl, hb1⟩; have hA := btr hA hb1)
        | (go_at_call 11; with_reducible refine (PT.out _ hA).mono ?_; rintro e w2 ⟨A, c, rfl, hl2, _, hb2⟩; have hA := btr hA hb2))
      have s0 := s_drew _ w2 (A := A) (n := 0) (c := c) (has := false) (x := 0) (a := (ln : Int)) (b := cd) hA rfl
      generalize w2.heap.size = g at *
      generalize ((w2.alloc (.cells #[.slice A 0 c, .bool false, .int .i64 0] 24)).alloc (.cells #[.int .i64 ln, .int .i64 cd] 31)) = W6 at *
      go_region_held3 (fun w' => w'.cell? ⟨g, 0, none⟩ = some (.slice A 0 c) ∧ w'.cell? ⟨g, 1, none⟩ = some (.bool false) ∧ w'.cell? ⟨g, 2, none⟩ = some (.int .i64 0) ∧ w'.cell? ⟨g + 1, 0, none⟩ = some (.int .i64 ln) ∧ w'.cell? ⟨g + 1, 1, none⟩ = some (.int .i64 cd) ∧ Below w.heap.size w w') (first | exact s0 | exact s_keep (by assumption) (by assumption))
        (first
        | (go_at_call 12; with_reducible refine (SA.out _ _ _ (s_below (by assumption))).mono ?_; rintro e w3 ⟨rfl, hb3⟩)
        | (go_at_call 13; with_reducible refine (SP.out _ (s_below (by assumption))).mono ?_; rintro e w4 ⟨A4, c4, rfl, _, _, hb4⟩))
      rename_i HH
      have hz := s_below HH
      go_wp2
      go_ret
      exact ⟨rfl, hz⟩
set_option maxRecDepth 100000 in
theorem lifted (os : Os) (started : os.Started) (H : Type) (enc : TypeId × Value → H) :
    ReturnsInHanded {} Tryd.checked os 4 .any (fun w args => (Rows.zicRightSpec.pre enc Tryd.prog Tryd.f4 [] false w args ∧ laidMetH Tryd.prog Rows.zicRightRow.laid w) ∧ sizedMet enc Tryd.prog Tryd.f4 (OpenSpec.ofChange Rows.zicRightSpec) false w args)
      (Rows.zicRightSpec.post enc Tryd.prog Tryd.f4 false true false false) := by
  refine both.handed_both (C := Tryd.checked) (X := fun w _ => laidMetH Tryd.prog Rows.zicRightRow.laid w) (fun _ _ _ hh h => h.of_heap hh) law.own started (by kernel_rfl) Tryd.func4
    (ChangeSpec.witness_shaped (enc := enc) (C := Tryd.checked) (os := os) (X := fun w _ => laidMetH Tryd.prog Rows.zicRightRow.laid w) false (World.laidAll Tryd.prog os Rows.zicRightRow.laid) #[.string ByteArray.empty] 8 (World.laidAll_os _ _ _) (World.shaped_of_ZipB (by kernel_rfl) (by kernel_rfl)) (by kernel_rfl) (by kernel_rfl) (by kernel_rfl) (by rw [MakeChecks.laidMetH_plain _ _ _ (by kernel_rfl)]; exact laidMet_laidAll _ (by kernel_rfl) (by kernel_rfl))) ?_
  intro W base args ds gs before hval0 hW _ _ hL hsh _
  rw [MakeChecks.laidMetH_plain _ _ _ (by kernel_rfl)] at hL
  have T0 := zic.all_of hL (by repeat first | exact List.Mem.head _ | refine List.Mem.tail _ ?_) (by repeat first | exact List.Mem.head _ | refine List.Mem.tail _ ?_) (by repeat first | exact List.Mem.head _ | refine List.Mem.tail _ ?_) (by repeat first | exact List.Mem.head _ | refine List.Mem.tail _ ?_) hsh
  have hval : ∀ (j : Nat) t v, Tryd.f4.params[j]? = some t → args[j]? = some v → Value.okWide Tryd.prog W .any base t v := hval0
  have hW' := hW
  obtain ⟨p, q, hA0, hV, rfl, hfz, hnd⟩ := hW
  have hA : DataW.TrodAll enc Tryd.prog W 0 (fun _ => true) true Tryd.f4.params.toList args.toList ds p := hA0
  rw [Tryd.params4] at hA hval
  obtain ⟨v0, vs0, d0, ds0, p0, q0, hargs, rfl, rfl, h0, r0⟩ := trodAll_cons hA
  obtain ⟨rfl, rfl, rfl⟩ := trodAll_nil r0
  obtain rfl : args = #[v0] := by cases args; simp_all
  obtain ⟨rfl, rfl⟩ := trodVars_none hV
  clear hA0 hval0
  obtain ⟨a0, rfl, hd0, hp0, w0⟩ := ChangeMaps.open_string Tryd.underlying9 (hval 0 9 v0 rfl rfl) h0
  refine (Calls.mono (R := fun e w' => e = .returned (.bool true) ∧ Below W.heap.size W w') ?_ fun e W' ⟨he, hb⟩ => ?_)
  · exact walk a0 w0 W T0
  · subst he
    exact ⟨_, rfl, law.post law.laidOut (by kernel_rfl) rfl rfl Tryd.underlying4 rfl hW' hb⟩

theorem over : Rows.zicRightRow.holds Tryd.pinned (OpenSpec.ofChange Rows.zicRightSpec) :=
  OpenClaim.holds_of_wide 4 Tryd.f4 rfl rfl rfl rfl rfl rfl rfl ⟨rfl, rfl, rfl, rfl, rfl⟩ rfl rfl rfl rfl rfl (by kernel_rfl) Tryd.func4 (by kernel_rfl)
    (of_decide_eq_true (by kernel_rfl)) (by unfold Func.isWrapper; first | (rw [if_pos (by decide +kernel)]; kernel_rfl) | (rw [if_neg (by decide +kernel)]; exact ⟨rfl, rfl⟩))
    (fun os started H enc _ => lifted os started H enc)

theorem proved : Rows.ZicRightCardSaid :=
  Claim7.holds_tied_plain_at .later [] _ _ _ _ over (fun _ h => by cases h) (by kernel_rfl) (fun _ h => by cases h) zicRight_row_tie rfl ⟨rfl, rfl⟩ (by kernel_rfl) rfl
    (fun f fn hf hfn => by
      obtain rfl : f = 4 := Option.some.inj ((show Tryd.prog.funcNamed "epact/epactlaw11.ZicRight" = some 4 by kernel_rfl).symm.trans hf) |>.symm
      obtain rfl : fn = Tryd.f4 := (Option.some.inj (Tryd.func4.symm.trans hfn)).symm
      exact ⟨by kernel_rfl, fun j t ht => by
        have hall : (Tryd.f4.params.toList.all fun u => !Tryd.prog.wantsStandIn u) = true := by kernel_rfl
        have hm : t ∈ Tryd.f4.params.toList := by rw [Array.mem_toList_iff]; exact Array.mem_of_getElem? ht
        exact (show Tryd.prog.wantsStandIn t = false by simpa using List.all_eq_true.1 hall t hm)⟩)
    (by kernel_rfl)
end Go.Proofs.YtajfblfkohemeaaDoor.zicRight
