/-
  ShaParts: it does not matter how bytes are cut into parts, and they stay as they are, for any parts. Condition: the row's own (package sha's variable start holds what its initialiser lays; the card ties that).
-/
import Derived.Test.YtbmhddkmggoicaaDoorShaApp
import Derived.Test.YtbmhddkmggoicaaDoorCards
import Derived.Test.YtbmhddkmggoicaaDoorTie
import Derived.SevenTiedAt
namespace Go.Proofs.YtbmhddkmggoicaaDoor.shaParts
open Go.ChangeShapes Go.WideShapes Go.ChangeAt Go.RowKit
open sx sha
set_option linter.unusedVariables false

def PHd (ls : List (List Nat)) (base : Nat) (w0 : World) (t i : Value) (W : World) : Prop :=
  ∃ k vv, k ≤ ls.length ∧ vv = t ∧ i = .int .i64 (k : Nat) ∧ Own base W vv (flat (ls.take k)) ∧ (∀ j (h : j < ls.length), j < k → (ls[j]).length ≤ 100) ∧ Below w0.heap.size w0 W
def QHd (ls : List (List Nat)) (w0 : World) (t i : Value) (W : World) : Prop :=
  ∃ k vv, k ≤ ls.length ∧ vv = t ∧ i = .int .i64 (k : Nat) ∧ Own w0.heap.size W vv (flat (ls.take k)) ∧ Below w0.heap.size w0 W
theorem flat_bys {ls : List (List Nat)} (h : ∀ l ∈ ls, Bys l) : Bys (flat ls) := by
  intro x hx
  obtain ⟨l, hl, hxl⟩ := List.mem_flatten.1 hx
  exact h l hl x hxl
theorem own_nil (base : Nat) (W : World) : Own base W (.slice none 0 0) [] := ⟨rfl, Or.inl ⟨rfl, rfl⟩⟩
theorem all_len {ls : List (List Nat)} (h : ∀ j (h : j < ls.length), j < ls.length → (ls[j]).length ≤ 100) : ∀ l ∈ ls, l.length ≤ 100 := by
  intro l hl
  obtain ⟨j, hj, rfl⟩ := List.getElem_of_mem hl
  exact h j hj hj
set_option maxHeartbeats 4000000 in
theorem walk (w : World) (v : Value) (ls : List (List Nat)) (hP : Pts w v ls) (hby : ∀ l ∈ ls, Bys l) (hln : ls.length ≤ 9223372036854775807 ∧ ∀ l ∈ ls, l.length ≤ 9223372036854775807) (T : St w) : Calls Tryd.prog 4 #[v] w fun e w' => e = .returned (.bool true) ∧ Below w.heap.size w w' := by
  have SM := Lib.hid (small_true w T)
  have HP := Lib.hid hP
  obtain ⟨A, cap, rfl, hv⟩ := hP
  obtain ⟨hl1, hl2⟩ := hln
  by_cases h20 : 20 < ls.length
  · go_enter Tryd.func4, Tryd.ntmps4
    go_wp2_with (go_at_call 7; (with_reducible refine SM.out.mono ?_); rintro e w1 ⟨rfl, hb1⟩)
    go_ret
    exact ⟨rfl, hb1⟩
  · have h20' : ls.length ≤ 20 := by omega
    have HV := Lib.hid hv
    clear hv
    go_enter Tryd.func4, Tryd.ntmps4
    go_wp2_with (go_at_call 7; (with_reducible refine SM.out.mono ?_); rintro e w1 ⟨rfl, hb1⟩; clear SM)
    go_loopw [4, 5] (fun t i W => PHd ls w.heap.size w t i W) (fun _ i _ => ls.length - (intOf i).toNat)
    case atStart => exact ⟨0, _, by omega, rfl, rfl, own_nil _ _, (fun j _ h => by omega), hb1⟩
    case round =>
      obtain ⟨k, vv, hk, rfl, rfl, ho, hle, hb⟩ := hrel
      by_cases hlt : k < ls.length
      · obtain ⟨b, o, rfl, hcell⟩ := HV.out (fun e => by rw [e] at hlt; simp at hlt)
        obtain ⟨x, hx, hrd⟩ := hcell k hlt
        have hx2 : wr.cell? ⟨b, o + k, none⟩ = some x := (hb.cell (p := ⟨b, o + k, none⟩) (World.block_lt_of_cell? w ⟨b, o + k, none⟩ hx)).trans hx
        have hrd2 := hrd.below hb
        have hlk := hl2 _ (List.getElem_mem hlt)
        have HR := Lib.hid hrd2
        obtain ⟨A2, cap2, rfl, _⟩ := hrd2
        by_cases h100 : 100 < (ls[k]).length
        · clear hcell hx hrd
          go_wp2
          go_ret
          exact ⟨rfl, hb⟩
        · have h100' : (ls[k]).length ≤ 100 := by omega
          have fl : (flat (ls.take k)).length ≤ 100 * (ls.take k).length := flat_le (fun l hl => by
            obtain ⟨j, hj, rfl⟩ := List.getElem_of_mem hl
            rw [List.getElem_take]
            have : j < k := by rw [List.length_take] at hj; omega
            exact hle j (by omega) this)
          have fl2 : (ls.take k).length ≤ 20 := by rw [List.length_take]; omega
          have FT := Lib.hid (flat_take ls k hlt)
          have HO := Lib.hid ho
          have HL := Lib.hid hle
          have hbs := hb.size
          clear hcell hx hrd ho hle
          have HK := Lib.hid h100'
          have HE : Hid (∃ lk, lk = ls[k]) := ⟨_, rfl⟩
          obtain ⟨lk, hlk2⟩ := HE.out
          rw [← hlk2] at HR FT h100' hlk h100 hx2
          clear HE
          have HLK := Lib.hid hlk2
          clear hlk2
          go_wp2_with (at_builtin; refine app_any rfl _ _ rfl w.heap.size wr vv (.slice A2 lk.length cap2) (flat (ls.take k)) lk rfl rfl HO.out HR.out (by omega) hbs ?_; intro v' w2 ho' hg)
          go_roundw
          case rel =>
            refine ⟨k + 1, v', by omega, rfl, by go_num, ?_, ?_, own_below HO.out hb hbs hg⟩
            · rw [FT.out]; exact ho'
            · intro j hj hjk
              by_cases e : j = k
              · subst e; exact HK.out
              · exact HL.out j hj (by omega)
          case measure => simp [intOf]; omega
      · obtain rfl : k = ls.length := by omega
        rw [List.take_of_length_le (Nat.le_refl _)] at ho
        have hall := all_len hle
        have hfl : (flat ls).length ≤ 2000 := by have := flat_le hall; omega
        have SU := Lib.hid (sum_walk ls (.slice A ls.length cap) wr (T.below hb) (HP.out.below hb) hby (by omega) (by omega))
        have R3 := Lib.hid (own_rdW ho)
        have hbx := hb
        clear ho hle hall
        generalize hD : dig (sumV (flat ls)) = D at *
        go_wp2_with (first
          | (go_at_call 8; (with_reducible refine SU.out.mono ?_); rintro e w5 ⟨rfl, hb5⟩; clear SU)
          | (refine wpList_store_row rfl 23 (.tmp 6) (.tmp 34) rfl _ _ rfl rfl _ _ (hp_new _ _) (szc sz20 _ _) (by rw [cs_size]; rfl) (cs_one _ _ _) ?_; rw [World.setRow_alloc_new]))
        obtain ⟨W6, HW6⟩ : ∃ W6, W6 = w5.alloc (.cells (cs .u8 D 20) 23) := ⟨_, rfl⟩
        rw [← HW6]
        have b56 : Below wr.heap.size wr W6 := by rw [HW6]; exact bal hb5 _
        have G6 : W6.heap[w5.heap.size]? = some (.cells (cs .u8 D 20) 23) := by rw [HW6]; exact hp_new _ _
        have B6 := btr hbx b56
        have R6 := Lib.hid (R3.out.below b56)
        have G6' := Lib.hid G6
        have HD := Lib.hid hD
        clear HW6 G6 b56 hb5 R3 hD
        go_loopw [7, 8] (fun t i W => QHd ls W6 t i W) (fun _ i _ => ls.length - (intOf i).toNat)
        case atStart => exact ⟨0, _, by omega, rfl, rfl, own_nil _ _, Below.refl _ _⟩
        case round =>
          obtain ⟨k, vv2, hk, rfl, rfl, ho, hb⟩ := hrel
          by_cases hlt : k < ls.length
          · obtain ⟨b, o, rfl, hcell⟩ := HV.out (fun e => by rw [e] at hlt; simp at hlt)
            obtain ⟨x, hx, hrd⟩ := hcell k hlt
            have bw := btr B6 hb
            have hx2 : wr.cell? ⟨b, o + k, none⟩ = some x := (bw.cell (p := ⟨b, o + k, none⟩) (World.block_lt_of_cell? w ⟨b, o + k, none⟩ hx)).trans hx
            have hrd2 := hrd.below bw
            have hlk := flat_len ls (k + 1)
            have hft := flat_take ls k hlt
            rw [hft, List.length_append] at hlk
            have HR := Lib.hid hrd2
            obtain ⟨A2, cap2, rfl, _⟩ := hrd2
            have FT := Lib.hid hft
            have HO := Lib.hid ho
            have hbs := hb.size
            clear hcell hx hrd ho hft
            obtain ⟨lk, hlk2⟩ : ∃ lk, lk = ls[k] := ⟨_, rfl⟩
            rw [← hlk2] at HR FT hlk hx2
            clear hlk2
            go_wp2_with (at_builtin; refine app_any rfl _ _ rfl W6.heap.size wr vv2 (.slice A2 lk.length cap2) (flat (ls.take k)) lk rfl rfl HO.out HR.out (by omega) hbs ?_; intro v' w2 ho' hg)
            go_roundw
            case rel => exact ⟨k + 1, v', by omega, rfl, by go_num, (by rw [FT.out]; exact ho'), own_below HO.out hb hbs hg⟩
            case measure => simp [intOf]; omega
          · obtain rfl : k = ls.length := by omega
            rw [List.take_of_length_le (Nat.le_refl _)] at ho
            have RB := Lib.hid (own_rdW ho)
            have RA := Lib.hid (R6.out.below hb)
            have G8 := Lib.hid (kept G6'.out hb)
            have EQ := fun W => eq20 D D W
            simp only [same_self] at EQ
            have bw := btr B6 hb
            obtain ⟨A3, cap3, e3, _⟩ := RA.out
            subst e3
            obtain ⟨A4, cap4, e4, _⟩ := RB.out
            subst e4
            have S7 := Lib.hid (sum_one T (W := wr.drew) bw.drew (RA.out.below ((Below.refl _ _).drew)) (flat_bys hby) (by omega))
            rw [HD.out] at S7
            go_wp2
            refine wp_region_any (by kernel_rfl) ?_
            change wpAny _ _ _ _ _ _ _ wr.drew
            refine wpAny_take (i := 0) (v := ?_) rfl (by kernel_rfl) (by kernel_rfl) (by kernel_rfl) (fun _ _ _ h => h) (Or.inl ⟨by rfl, by (intro w; go_simp; try with_reducible rfl)⟩) ?_
            simp only [List.getElem_toArray, List.getElem_cons_zero]
            refine wpAny_take (i := 1) (v := ?_) rfl (by kernel_rfl) (by kernel_rfl) (by kernel_rfl) (fun _ _ _ h => h) (Or.inl ⟨by rfl, by (intro w; go_simp; try with_reducible rfl)⟩) ?_
            simp only [List.getElem_toArray, List.getElem_cons_zero, List.getElem_cons_succ]
            refine wpAny_take (i := 3) (v := ?_) rfl (by kernel_rfl) (by kernel_rfl) (by kernel_rfl) (fun _ _ _ h => h) (Or.inl ⟨by rfl, by (intro w; go_simp; try with_reducible rfl)⟩) ?_
            simp only [List.getElem_toArray, List.getElem_cons_zero, List.getElem_cons_succ]
            refine wpAny_all (rs := [2, 4]) (by kernel_rfl) (by simp) (fun i hi => ?_)
            rcases (show i = 2 ∨ i = 4 by simpa using hi) with rfl | rfl
            · refine op_load rfl (by rfl) 23 (.tmp 6) rfl ⟨w5.heap.size, 0, none⟩ (by go_simp) _ (load20 (G8.out)) ?_
              refine wpAny_all (rs := [4]) (by kernel_rfl) (by simp) (fun i hi => ?_)
              obtain rfl : i = 4 := by simpa using hi
              refine op_any rfl (by rfl) (fun K' hK' => ?_)
              go_simp
              refine hK' _ _ ?_
              refine wpAny_all (rs := [5]) (by kernel_rfl) (by simp) (fun i hi => ?_)
              obtain rfl : i = 5 := by simpa using hi
              refine op_any rfl (by rfl) (fun K' hK' => ?_)
              go_simp
              go_at_call 8
              refine S7.out.mono ?_
              rintro e w7 ⟨rfl, hb7'⟩
              have hb7 : Below wr.heap.size wr w7 := (Below.refl _ wr).drew.trans hb7'
              refine hK' _ _ ?_
              have C1 := str_of ((RA.out.below hb7))
              have C2 := str_of ((RB.out.below hb7))
              refine still_from 6 rfl (by kernel_rfl) (by kernel_rfl) ?_
              simp only [List.drop_succ_cons, List.drop_zero]
              repeat still_step
              refine wpStill_nil ?_
              clear C1 C2 EQ
              go_wp2
              go_ret
              exact ⟨rfl, btr bw hb7⟩
            · refine op_any rfl (by rfl) (fun K' hK' => ?_)
              go_simp
              refine hK' _ _ ?_
              refine wpAny_all (rs := [2, 5]) (by kernel_rfl) (by simp) (fun i hi => ?_)
              rcases (show i = 2 ∨ i = 5 by simpa using hi) with rfl | rfl
              · refine op_load rfl (by rfl) 23 (.tmp 6) rfl ⟨w5.heap.size, 0, none⟩ (by go_simp) _ (load20 (hp_old G8.out _)) ?_
                refine wpAny_all (rs := [5]) (by kernel_rfl) (by simp) (fun i hi => ?_)
                obtain rfl : i = 5 := by simpa using hi
                refine op_any rfl (by rfl) (fun K' hK' => ?_)
                go_simp
                go_at_call 8
                refine S7.out.mono ?_
                rintro e w7 ⟨rfl, hb7'⟩
                have hb7 : Below wr.heap.size wr w7 := (Below.refl _ wr).drew.trans hb7'
                refine hK' _ _ ?_
                have C1 := str_of ((RA.out.below hb7))
                have C2 := str_of ((RB.out.below hb7))
                refine still_from 6 rfl (by kernel_rfl) (by kernel_rfl) ?_
                simp only [List.drop_succ_cons, List.drop_zero]
                repeat still_step
                refine wpStill_nil ?_
                clear C1 C2 EQ
                go_wp2
                go_ret
                exact ⟨rfl, btr bw hb7⟩
              · refine op_any rfl (by rfl) (fun K' hK' => ?_)
                go_simp
                go_at_call 8
                refine S7.out.mono ?_
                rintro e w7 ⟨rfl, hb7'⟩
                have hb7 : Below wr.heap.size wr w7 := (Below.refl _ wr).drew.trans hb7'
                refine hK' _ _ ?_
                refine wpAny_all (rs := [2]) (by kernel_rfl) (by simp) (fun i hi => ?_)
                obtain rfl : i = 2 := by simpa using hi
                refine op_load rfl (by rfl) 23 (.tmp 6) rfl ⟨w5.heap.size, 0, none⟩ (by go_simp) _ (load20 (kept G8.out hb7)) ?_
                have C1 := str_of ((RA.out.below hb7))
                have C2 := str_of ((RB.out.below hb7))
                refine still_from 6 rfl (by kernel_rfl) (by kernel_rfl) ?_
                simp only [List.drop_succ_cons, List.drop_zero]
                repeat still_step
                refine wpStill_nil ?_
                clear C1 C2 EQ
                go_wp2
                go_ret
                exact ⟨rfl, btr bw hb7⟩
theorem door_met (os : Os) (args : Array Value) : laidMetH Tryd.prog Rows.shaPartsRow.laid ((World.doorLaid Tryd.prog 400 os).forCall (fun _ _ => 0) ⟨#[], args, []⟩).memory :=
  laidMetH_of_parts3 (fuel := 8) (laidMet_of_run' 8 (by kernel_rfl) (by kernel_rfl)) (by kernel_rfl) (by kernel_rfl)
set_option maxRecDepth 100000 in
theorem lifted (os : Os) (started : os.Started) (H : Type) (enc : TypeId × Value → H) :
    ReturnsInHanded {} Tryd.checked os 4 .any (fun w args => (Rows.shaPartsSpec.pre enc Tryd.prog Tryd.f4 [] false w args ∧ laidMetH Tryd.prog Rows.shaPartsRow.laid w) ∧ sizedMet enc Tryd.prog Tryd.f4 (OpenSpec.ofChange Rows.shaPartsSpec) false w args)
      (Rows.shaPartsSpec.post enc Tryd.prog Tryd.f4 false true false false) := by
  refine returnsInHanded_of_change_and (C := Tryd.checked) (X := fun w _ => laidMetH Tryd.prog Rows.shaPartsRow.laid w) (fun _ _ _ hh h => h.of_heap hh) law.own started (by kernel_rfl) Tryd.func4
    (ChangeSpec.witness_shaped (enc := enc) (C := Tryd.checked) (os := os) (X := fun w _ => laidMetH Tryd.prog Rows.shaPartsRow.laid w) false (World.doorLaid Tryd.prog 400 os) #[.slice none 0 0] 8 rfl (World.shaped_of_RefB (by kernel_rfl) (by kernel_rfl)) (by kernel_rfl) (by kernel_rfl) (by kernel_rfl) (door_met os _)) ?_
  intro W base args ds gs before hval0 hW _ _ hL _
  rw [MakeChecks.laidMetH_plain _ _ _ (by kernel_rfl)] at hL
  have T0 := sha.st_of hL (by repeat first | exact List.Mem.head _ | refine List.Mem.tail _ ?_)
  have hval : ∀ (j : Nat) t v, Tryd.f4.params[j]? = some t → args[j]? = some v → Value.okWide Tryd.prog W .any base t v := hval0
  have hW' := hW
  obtain ⟨p, q, hA0, hV, rfl, hfz, hnd⟩ := hW
  have hA : DataW.TrodAll enc Tryd.prog W 0 (fun _ => true) true Tryd.f4.params.toList args.toList ds p := hA0
  rw [Tryd.params4] at hA hval
  obtain ⟨v0, vs0, d0, ds0, p0, q0, hargs, rfl, rfl, h0, r0⟩ := trodAll_cons hA
  obtain ⟨rfl, rfl, rfl⟩ := trodAll_nil r0
  obtain rfl : args = #[v0] := by cases args; simp_all
  obtain ⟨rfl, rfl⟩ := trodVars_none hV
  clear hA0 hval0
  refine (Calls.mono (R := fun e w' => e = .returned (.bool true) ∧ Below W.heap.size W w') ?_ fun e W' ⟨he, hb⟩ => ?_)
  · obtain ⟨l0_, r0_, s0_, u0_⟩ := sha.open_parts (hval 0 32 v0 rfl rfl) h0
    exact walk W _ _ r0_ s0_ u0_ T0
  · subst he
    exact ⟨_, rfl, law.post law.laidOut (by kernel_rfl) rfl rfl Tryd.underlying4 rfl hW' hb⟩

theorem over : Rows.shaPartsRow.holds Tryd.pinned (OpenSpec.ofChange Rows.shaPartsSpec) :=
  OpenClaim.holds_of_wide 4 Tryd.f4 rfl rfl rfl rfl rfl rfl rfl ⟨rfl, rfl, rfl, rfl, rfl⟩ rfl rfl rfl rfl rfl (by kernel_rfl) Tryd.func4 (by kernel_rfl)
    (of_decide_eq_true (by kernel_rfl)) (by unfold Func.isWrapper; first | (rw [if_pos (by decide +kernel)]; kernel_rfl) | (rw [if_neg (by decide +kernel)]; exact ⟨rfl, rfl⟩))
    (fun os started H enc _ => lifted os started H enc)

theorem proved : Rows.ShaPartsCardSaid :=
  Claim7.holds_tied_plain_at .later [] _ _ _ _ over (fun _ h => by cases h) (by kernel_rfl) (fun _ h => by cases h) shaParts_row_tie rfl ⟨rfl, rfl⟩ (by kernel_rfl) rfl
    (fun f fn hf hfn => by
      obtain rfl : f = 4 := Option.some.inj ((show Tryd.prog.funcNamed "epact/epactlaw06.ShaParts" = some 4 by kernel_rfl).symm.trans hf) |>.symm
      obtain rfl : fn = Tryd.f4 := (Option.some.inj (Tryd.func4.symm.trans hfn)).symm
      exact ⟨by kernel_rfl, fun j t ht => by
        have hall : (Tryd.f4.params.toList.all fun u => !Tryd.prog.wantsStandIn u) = true := by kernel_rfl
        have hm : t ∈ Tryd.f4.params.toList := by rw [Array.mem_toList_iff]; exact Array.mem_of_getElem? ht
        exact (show Tryd.prog.wantsStandIn t = false by simpa using List.all_eq_true.1 hall t hm)⟩)
    (by kernel_rfl)
end Go.Proofs.YtbmhddkmggoicaaDoor.shaParts
