/-
  NtpHashes: hashes are read of their texts, in great letters, too, and without the first noughts of a word, and with more blanks, for every hash. Condition: the row's own (the library's listed tables hold what their initialisers lay; the card ties that).
-/
import Derived.Test.YtfnkloecfjppeaaDoorNtpLaw
import Derived.Test.YtfnkloecfjppeaaDoorNtpBig
import Derived.Test.YtfnkloecfjppeaaDoorCards
import Derived.Test.YtfnkloecfjppeaaDoorTie
import Derived.SevenTiedAt
import Derived.Lib.QuietBelow
namespace Go.Proofs.YtfnkloecfjppeaaDoor.ntpHashes
open Go.ChangeShapes Go.WideShapes Go.ChangeAt Go.RowKit
open ntp nx lx sx
open sha (hd hp_new hp_old kept bal btr szc sz5 gload eq5 same same_self qload below_of ret_bool Own own_below app_byte RdW own_rdW str_of strN nats nats_app nats_len)
set_option linter.unusedVariables false

theorem hash_c (f : Nat → Nat) (x : ByteArray) (h : hT x = true ∧ ∀ k, k < 5 → hN x k = f k) (hs : x.size < 4294967281) (W : World) : Calls Tryd.prog 15 #[.string x] W fun e w' => e = .returned (.tuple #[.agg (cs .u32 f 5), .bool true]) ∧ Below W.heap.size W w' := by
  refine (hash_at x W hs).mono ?_
  rintro e w' ⟨rfl, hb⟩
  refine ⟨?_, hb⟩
  rw [h.1, cs_congr .u32 _ f 5 h.2]
theorem words_c (f : Nat → Nat) (W : World) : Calls Tryd.prog 19 #[.string (txt f)] W fun e w' => ∃ b o c, e = .returned (.slice (some ⟨b, o, none⟩) 5 c) ∧ 5 ≤ c ∧ b < w'.heap.size ∧ (∀ k, k < 5 → w'.cell? ⟨b, o + k, none⟩ = some (.string (B (hk 8 (f k))))) ∧ Below W.heap.size W w' := by
  refine (lines.words_at (txt f) W (by rw [txt_size]; decide)).mono ?_
  rintro e w' ⟨A, c, rfl, hst, hc, hb⟩
  have ew : wordsS (txt f) = [B (hk 8 (f 0)), B (hk 8 (f 1)), B (hk 8 (f 2)), B (hk 8 (f 3)), B (hk 8 (f 4))] := by unfold wordsS; rw [wds_txt]; rfl
  rw [ew] at hst hc
  obtain ⟨b, o, rfl, hlt, hcell⟩ := hst (by simp)
  refine ⟨b, o, c, by rw [ew]; rfl, hc, hlt, fun k hk => ?_, hb⟩
  rw [hcell k hk]
  rcases (show k = 0 ∨ k = 1 ∨ k = 2 ∨ k = 3 ∨ k = 4 by omega) with rfl | rfl | rfl | rfl | rfl <;> rfl
def OHd (f : Nat → Nat) (w3 : World) (t u i : Value) (W : World) : Prop :=
  ∃ k : Nat, k ≤ 5 ∧ t = .string (B (tL f k)) ∧ u = .string (B (uL f k)) ∧ i = .int .i64 k ∧ Below w3.heap.size w3 W
def SHd (n : Nat) (t : Value) : Prop := ∃ m : Nat, nd n ≤ m ∧ m ≤ 8 ∧ t = .string (B (hk m n))
def BHd (n : Nat) (W0 : World) (v i : Value) (W : World) : Prop :=
  ∃ (k : Nat) (x : Value), x = v ∧ k ≤ (sh n).length ∧ i = .int .i64 k ∧ Own W0.heap.size W v (nats (((sh n).map up).take k)) ∧ Below W0.heap.size W0 W
theorem own_none (W : World) : Own W.heap.size W (.slice none 0 0) [] := ⟨rfl, Or.inl ⟨rfl, rfl⟩⟩
theorem cut_first (m n : Nat) (W : World) : (Instr.slice 9 (.string (B (hk (m + 1) n))) (some (.int .i64 1)) none none).run Tryd.prog W = .ok (.string (B (hk m n))) W := by
  have hl := hk_len (m + 1) n
  have := lines.sl_from W (B (hk (m + 1) n)) 1 1 rfl (by rw [B_size]; omega)
  rw [this, ext_B, L_B, hk_tail, List.take_of_length_le (by rw [hk_len, B_size]; omega)]
theorem byte_first (m n : Nat) (h : 0 < (B (hk (m + 1) n)).size) : ((B (hk (m + 1) n))[0]'h).toNat = (hd (n / 16 ^ m % 16)).toNat := by
  rw [bt_at]
  unfold bt
  rw [L_B, List.getD_eq_getElem?_getD, hk_first]
  rfl
theorem strN_nats (l : List UInt8) : strN (nats l) = B l := by
  unfold strN strOfNums B nats
  congr 1
  rw [List.map_map, List.map_map]
  congr 1
  conv => rhs; rw [← List.map_id l]
  apply List.map_congr_left
  intro c _
  simp
theorem up_take (n k : Nat) (h : k < (sh n).length) : nats (((sh n).map up).take (k + 1)) = nats (((sh n).map up).take k) ++ [if 97 ≤ bt (B (sh n)) k then bt (B (sh n)) k - 32 else bt (B (sh n)) k] := by
  have e : bt (B (sh n)) k = ((sh n)[k]).toNat := by
    unfold bt
    rw [L_B, List.getD_eq_getElem?_getD, List.getElem?_eq_getElem h]
    rfl
  rw [List.take_succ_eq_append_getElem (by rw [List.length_map]; exact h), nats_app, e]
  congr 1
  show [(((sh n).map up)[k]'(by rw [List.length_map]; exact h)).toNat] = _
  rw [List.getElem_map]
  unfold up
  split
  · rename_i h9
    rw [UInt8.toNat_sub_of_le _ _ (by show (32 : UInt8).toNat ≤ _; exact Nat.le_trans (by decide) h9)]
    rfl
  · rfl
set_option maxHeartbeats 4000000 in
set_option maxRecDepth 100000 in
theorem walk (w : World) (f : Nat → Nat) (hf : ∀ k, k < 5 → f k < 4294967296) (T : Tz w) : Calls Tryd.prog 5 #[.agg (cs .u32 f 5)] w fun e w' => e = .returned (.bool true) ∧ Below w.heap.size w w' := by
  have hb0 : Below w.heap.size w (w.alloc (.cells (cs .u32 f 5) 23)) := bal (Below.refl _ _) _
  have SM := Lib.hid (small_at _ (T.below hb0))
  have TX := Lib.hid (fun W (hb : Below w.heap.size w W) => text_any f W hf (T.below hb))
  have WD := Lib.hid (fun W => words_c f W)
  have z44 := txt_size f
  have H1 := Lib.hid (fun W => hash_c f (txt f) (hash_txt f hf) (by rw [txt_size]; decide) W)
  have H2 := Lib.hid (fun W => hash_c f (B (tL f 5)) (hash_t f hf) (by have := tL_len f 5; rw [B_size]; omega) W)
  have H3 := Lib.hid (fun W => hash_c f (B (uL f 5)) (hash_u f hf) (by have := uL_len f 5; rw [B_size]; omega) W)
  clear T
  generalize txt f = TXT at *
  go_enter Tryd.func5, Tryd.ntmps5
  go_wp2_with (first
    | (go_at_call 8; (with_reducible refine SM.out.mono ?_); rintro e w1 ⟨rfl, hb1⟩; clear SM; have G1 := Lib.hid (kept (hp_new w _) hb1); have B1 := btr hb0 hb1)
    | (refine wpList_load_row rfl 23 (.tmp 1) rfl w.heap.size rfl _ _ _ _ G1.out Tryd.underlying23 rfl (szc sz5 _ _) ?_)
    | (go_at_call 17; (with_reducible refine (TX.out _ B1).mono ?_); rintro e w2 ⟨rfl, hb2⟩; clear TX)
    | (go_at_call 19; (with_reducible refine (WD.out _).mono ?_); rintro e w3 ⟨b, o, c, rfl, hc5, hblt, hcell, hb3⟩; clear WD))
  have B3 := btr (btr B1 hb2) hb3
  have G3 := Lib.hid (kept (kept G1.out hb2) hb3)
  clear G1 B1 hb1 hb2 hb3
  go_loopw [6, 7, 8] (fun t u i W => OHd f w3 t u i W) (fun _ _ i _ => 5 - (intOf i).toNat)
  case atStart => exact ⟨0, by omega, rfl, rfl, rfl, Below.refl _ _⟩
  case round =>
    obtain ⟨k, hk5, rfl, rfl, rfl, hb⟩ := hrel
    by_cases hlt : k < 5
    · have hn := hf k hlt
      have c1 : wr.cell? ⟨b, o + k, none⟩ = some (.string (B (hk 8 (f k)))) := (hb.cell (p := ⟨b, o + k, none⟩) hblt).trans (hcell k hlt)
      have z8 : (B (hk 8 (f k))).size = 8 := by rw [B_size, hk_len]
      have S0 : Hid (SHd (f k) (.string (B (hk 8 (f k))))) := ⟨8, (nd_bd _).2, by omega, rfl⟩
      have zt : (B (tL f k)).size ≤ 60 := by have := tL_len f k; rw [B_size]; omega
      have zu : (B (uL f k)).size ≤ 60 := by have := uL_len f k; rw [B_size]; omega
      have TN : Hid (B (tL f k) ++ B (sh (f k)) ++ ⟨#[32, 32]⟩ = B (tL f (k + 1))) := by
        show B (tL f k) ++ B (sh (f k)) ++ B [32, 32] = B (tL f (k + 1))
        rw [B_app, B_app, tL]
      have UN : Hid (B (uL f k) ++ ⟨#[32]⟩ ++ B ((sh (f k)).map up) = B (uL f (k + 1))) := by
        show B (uL f k) ++ B [32] ++ B ((sh (f k)).map up) = B (uL f (k + 1))
        rw [B_app, B_app, uL]
      generalize B (hk 8 (f k)) = X8 at *
      go_wp2
      go_loop [9] (fun t => SHd (f k) t) (fun t => lines.szOf t)
      case atStart => exact S0.out
      case round =>
        obtain ⟨m, hm1, hm8, rfl⟩ := hrel
        have nd1 := (nd_bd (f k)).1
        obtain ⟨m, rfl⟩ : ∃ m', m = m' + 1 := ⟨m - 1, by omega⟩
        have zm : (B (hk (m + 1) (f k))).size = m + 1 := by rw [B_size, hk_len]
        by_cases hgt : nd (f k) ≤ m
        · have CF := fun W => cut_first m (f k) W
          have BF := byte_first m (f k)
          rw [first_zero hgt hn] at BF
          have BF : ∀ h, ((B (hk (m + 1) (f k)))[0]'h).toNat = 48 := BF
          have R : Hid (SHd (f k) (.string (B (hk m (f k))))) := ⟨m, hgt, by omega, rfl⟩
          have MS : Hid (lines.szOf (.string (B (hk m (f k)))) < lines.szOf (.string (B (hk (m + 1) (f k))))) := by
            show (B (hk m (f k))).size < (B (hk (m + 1) (f k))).size
            rw [zm, B_size, hk_len]; omega
          have m0 : 1 ≤ m := by omega
          clear hm1 hgt
          generalize B (hk (m + 1) (f k)) = X1 at *
          generalize B (hk m (f k)) = X2 at *
          go_wp2
          go_round
          case rel => exact R.out
          case measure => exact MS.out
        · have e : nd (f k) = m + 1 := by omega
          have es : hk (m + 1) (f k) = sh (f k) := by unfold sh; rw [e]
          rw [es] at zm ⊢
          have BY : Hid (∀ k', k' < (sh (f k)).length → k' < (B (sh (f k))).size) := fun k' h => by rw [B_size]; exact h
          have zs : (sh (f k)).length = m + 1 := by rw [← B_size, zm]
          have B0 : Hid (∀ h : 0 < (B (sh (f k))).size, 1 ≤ m → (((B (sh (f k)))[0]'h).toNat : Nat) ≠ 48) := by
            intro h h1
            have a := byte_first m (f k)
            rw [es] at a
            rw [a h]
            exact hd_zero (Nat.mod_lt _ (by decide)) (first_more e (by omega) hn)
          have BT := bt_at (B (sh (f k)))
          have btl := bt_lt (B (sh (f k)))
          have UT := Lib.hid (fun k' h => up_take (f k) k' h)
          have UE : Hid (∀ j, (sh (f k)).length ≤ j → strN (nats (((sh (f k)).map up).take j)) = B ((sh (f k)).map up)) := by
            intro j hj
            rw [List.take_of_length_le (by rw [List.length_map]; omega), strN_nats]
          have R0 : Hid (∀ W0, BHd (f k) W0 (.slice none 0 0) (.int .i64 0) W0) := fun W0 => ⟨0, _, rfl, by omega, rfl, own_none _, Below.refl _ _⟩
          have zu2 : (B ((sh (f k)).map up)).size ≤ 8 := by rw [B_size, List.length_map]; omega
          have RN : Hid (∀ W, Below w3.heap.size w3 W → OHd f w3 (.string (B (tL f (k + 1)))) (.string (B (uL f (k + 1)))) (.int .i64 ((k : Int) + 1)) W) := fun W hb => ⟨k + 1, by omega, rfl, rfl, by go_num, hb⟩
          clear es e hgt hm1 c1
          generalize hN0 : B (sh (f k)) = X at *
          generalize wr = W0 at *
          rcases (show m = 0 ∨ 1 ≤ m by omega) with m0 | m0
          rotate_left
          have b0 : ((bt X 0 : Int) == 48) = false := by
            have := B0.out (by omega) m0
            rw [BT] at this
            simp
            omega
          clear B0
          go_wp2
          rotate_left
          subst m0
          clear B0
          go_wp2
          all_goals
            go_loopw [10, 11] (fun v i W => BHd (f k) W0 v i W) (fun _ i _ => 9 - (intOf i).toNat)
            case atStart => exact R0.out _
            case round =>
              obtain ⟨j, x, rfl, hj, rfl, ho, hb2⟩ := hrel
              have hbs := hb2.size
              have HO := Lib.hid ho
              have zX : X.size = (sh (f k)).length := by omega
              have zl : (nats (((sh (f k)).map up).take j)).length ≤ 8 := by rw [nats_len, List.length_take, List.length_map]; omega
              by_cases hlt2 : j < (sh (f k)).length
              · have NX := UT.out j hlt2
                have hbj := btl j
                have R : Hid (∀ g cap w1, Own W0.heap.size w1 (.slice (some ⟨g, 0, none⟩) (nats (((sh (f k)).map up).take (j + 1))).length cap) (nats (((sh (f k)).map up).take (j + 1))) → wr.grownBy w1 x.ownBlock → BHd (f k) W0 (.slice (some ⟨g, 0, none⟩) (nats (((sh (f k)).map up).take (j + 1))).length cap) (.int .i64 ((j : Int) + 1)) w1) :=
                  fun g cap w1 h1 h2 => ⟨j + 1, _, rfl, hlt2, by go_num, h1, own_below HO.out hb2 hbs h2⟩
                rw [NX] at R
                by_cases h97 : 97 ≤ bt X j
                · rw [if_pos h97] at R
                  have e1 : (bt X j : Int) - 32 = ((bt X j - 32 : Nat) : Int) := by omega
                  have HZ := Lib.hid e1
                  clear NX ho e1
                  generalize nats (((sh (f k)).map up).take j) = l at *
                  go_wp2_with (at_builtin; refine app_byte rfl _ _ rfl W0.heap.size wr x l (bt X j - 32) ((bt X j : Int) - 32) HZ.out rfl rfl HO.out (by omega) hbs ?_; intro g' cap' w1 ho' hg)
                  go_roundw
                  case rel => have r := R.out _ _ _ ho' hg; rw [List.length_append, List.length_singleton] at r; exact r
                  case measure => simp [intOf]; omega
                · rw [if_neg h97] at R
                  clear NX ho
                  generalize nats (((sh (f k)).map up).take j) = l at *
                  go_wp2_with (at_builtin; refine app_byte rfl _ _ rfl W0.heap.size wr x l (bt X j) (bt X j : Int) rfl rfl rfl HO.out (by omega) hbs ?_; intro g' cap' w1 ho' hg)
                  go_roundw
                  case rel => have r := R.out _ _ _ ho' hg; rw [List.length_append, List.length_singleton] at r; exact r
                  case measure => simp [intOf]; omega
              · have CV := str_of (own_rdW ho)
                rw [UE.out j (by omega)] at CV
                obtain ⟨V, hV⟩ : ∃ V, V = B ((sh (f k)).map up) := ⟨_, rfl⟩
                rw [← hV] at CV UN zu2
                clear ho hV
                go_wp2
                rw [TN.out, UN.out]
                go_roundw
                case rel => exact RN.out _ (btr hb hb2)
                case measure => simp [intOf]; omega
    · obtain rfl : k = 5 := by omega
      have GW := Lib.hid (kept G3.out hb)
      have BW := btr B3 hb
      have EQ : ∀ W, (Op.equalIn 10000 23 (.agg (cs .u32 f 5)) (.agg (cs .u32 f 5))).run Tryd.prog W = .ok true W := fun W => (eq5 f f W).trans (by rw [same_self])
      clear hf hcell
      generalize B (tL f 5) = TT at *
      generalize B (uL f 5) = UU at *
      go_wp2_with (first
        | (go_at_call 15; first | ((with_reducible refine (H1.out _).mono ?_); rintro e w5 ⟨rfl, hb5⟩; clear H1) | ((with_reducible refine (H2.out _).mono ?_); rintro e w6 ⟨rfl, hb6⟩; clear H2) | ((with_reducible refine (H3.out _).mono ?_); rintro e w7 ⟨rfl, hb7⟩; clear H3; have BZ := Lib.hid (bal (btr (bal (btr (bal (btr BW hb5) _) hb6) _) hb7) (.cells (cs .u32 f 5) 23)); have GH := Lib.hid (hp_old (kept (hp_old (kept (hp_old (kept GW.out hb5) _) hb6) _) hb7) (.cells (cs .u32 f 5) 23)); have GA := Lib.hid (hp_old (kept (hp_old (kept (hp_new w5 _) hb6) _) hb7) (.cells (cs .u32 f 5) 23)); have GC := Lib.hid (hp_old (kept (hp_new w6 _) hb7) (.cells (cs .u32 f 5) 23))))
        | (refine wpList_store_row rfl 23 _ _ rfl _ (cs .u32 f 5) rfl rfl _ _ (hp_new _ _) (szc sz5 _ _) (by rw [cs_size]; rfl) (cs_one _ _ _) ?_; rw [World.setRow_alloc_new])
        | (refine gload rfl 23 (.tmp 1) rfl _ rfl _ _ GH.out _ _ Tryd.underlying23 (szc sz5 _ _) ?_)
        | (refine gload rfl 23 (.tmp 13) rfl _ rfl _ _ GA.out _ _ Tryd.underlying23 (szc sz5 _ _) ?_)
        | (refine gload rfl 23 (.tmp 15) rfl _ rfl _ _ GC.out _ _ Tryd.underlying23 (szc sz5 _ _) ?_)
        | (refine gload rfl 23 (.tmp 17) rfl _ rfl _ _ (hp_new w7 _) _ _ Tryd.underlying23 (szc sz5 _ _) ?_))
      go_ret
      exact ⟨ret_bool (by first | rfl | simp), BZ.out⟩
theorem door_met (os : Os) (args : Array Value) : laidMetH Tryd.prog Rows.ntpHashesRow.laid ((World.doorLaid Tryd.prog 400 os).forCall (fun _ _ => 0) ⟨#[], args, []⟩).memory :=
  laidMetH_of_parts3 (fuel := 8) (laidMet_of_run' 8 (by kernel_rfl) (by kernel_rfl)) (by kernel_rfl) (by kernel_rfl)
set_option maxRecDepth 100000 in
theorem lifted (os : Os) (started : os.Started) (H : Type) (enc : TypeId × Value → H) :
    ReturnsInHanded {} Tryd.checked os 5 .any (fun w args => (Rows.ntpHashesSpec.pre enc Tryd.prog Tryd.f5 [] false w args ∧ laidMetH Tryd.prog Rows.ntpHashesRow.laid w) ∧ sizedMet enc Tryd.prog Tryd.f5 (OpenSpec.ofChange Rows.ntpHashesSpec) false w args)
      (Rows.ntpHashesSpec.post enc Tryd.prog Tryd.f5 false true false false) := by
  refine returnsInHanded_of_change_and (C := Tryd.checked) (X := fun w _ => laidMetH Tryd.prog Rows.ntpHashesRow.laid w) (fun _ _ _ hh h => h.of_heap hh) law.own started (by kernel_rfl) Tryd.func5
    (ChangeSpec.witness_shaped (enc := enc) (C := Tryd.checked) (os := os) (X := fun w _ => laidMetH Tryd.prog Rows.ntpHashesRow.laid w) false (World.doorLaid Tryd.prog 400 os) #[.agg #[.int .u32 0, .int .u32 0, .int .u32 0, .int .u32 0, .int .u32 0]] 8 rfl (World.shaped_of_RefB (by kernel_rfl) (by kernel_rfl)) (by kernel_rfl) (by kernel_rfl) (by kernel_rfl) (door_met os _)) ?_
  intro W base args ds gs before hval0 hW _ _ hL _
  rw [MakeChecks.laidMetH_plain _ _ _ (by kernel_rfl)] at hL
  have T0 := ntp.tz_of hL (by repeat first | exact List.Mem.head _ | refine List.Mem.tail _ ?_)
  have hval : ∀ (j : Nat) t v, Tryd.f5.params[j]? = some t → args[j]? = some v → Value.okWide Tryd.prog W .any base t v := hval0
  have hW' := hW
  obtain ⟨p, q, hA0, hV, rfl, hfz, hnd⟩ := hW
  have hA : DataW.TrodAll enc Tryd.prog W 0 (fun _ => true) true Tryd.f5.params.toList args.toList ds p := hA0
  rw [Tryd.params5] at hA hval
  obtain ⟨v0, vs0, d0, ds0, p0, q0, hargs, rfl, rfl, h0, r0⟩ := trodAll_cons hA
  obtain ⟨rfl, rfl, rfl⟩ := trodAll_nil r0
  obtain rfl : args = #[v0] := by cases args; simp_all
  obtain ⟨rfl, rfl⟩ := trodVars_none hV
  clear hA0 hval0
  refine (Calls.mono (R := fun e w' => e = .returned (.bool true) ∧ Below W.heap.size W w') ?_ fun e W' ⟨he, hb⟩ => ?_)
  · obtain ⟨f0_, rfl, s0_⟩ := ntp.open_hash (hval 0 23 v0 rfl rfl) h0
    exact walk W _ s0_ T0
  · subst he
    exact ⟨_, rfl, law.post law.laidOut (by kernel_rfl) rfl rfl Tryd.underlying4 rfl hW' hb⟩

theorem over : Rows.ntpHashesRow.holds Tryd.pinned (OpenSpec.ofChange Rows.ntpHashesSpec) :=
  OpenClaim.holds_of_wide 5 Tryd.f5 rfl rfl rfl rfl rfl rfl rfl ⟨rfl, rfl, rfl, rfl, rfl⟩ rfl rfl rfl rfl rfl (by kernel_rfl) Tryd.func5 (by kernel_rfl)
    (of_decide_eq_true (by kernel_rfl)) (by unfold Func.isWrapper; first | (rw [if_pos (by decide +kernel)]; kernel_rfl) | (rw [if_neg (by decide +kernel)]; exact ⟨rfl, rfl⟩))
    (fun os started H enc _ => lifted os started H enc)

theorem proved : Rows.NtpHashesCardSaid :=
  Claim7.holds_tied_plain_at .later [] _ _ _ _ over (fun _ h => by cases h) (by kernel_rfl) (fun _ h => by cases h) ntpHashes_row_tie rfl ⟨rfl, rfl⟩ (by kernel_rfl) rfl
    (fun f fn hf hfn => by
      obtain rfl : f = 5 := Option.some.inj ((show Tryd.prog.funcNamed "epact/epactlaw07.NtpHashes" = some 5 by kernel_rfl).symm.trans hf) |>.symm
      obtain rfl : fn = Tryd.f5 := (Option.some.inj (Tryd.func5.symm.trans hfn)).symm
      exact ⟨by kernel_rfl, fun j t ht => by
        have hall : (Tryd.f5.params.toList.all fun u => !Tryd.prog.wantsStandIn u) = true := by kernel_rfl
        have hm : t ∈ Tryd.f5.params.toList := by rw [Array.mem_toList_iff]; exact Array.mem_of_getElem? ht
        exact (show Tryd.prog.wantsStandIn t = false by simpa using List.all_eq_true.1 hall t hm)⟩)
    (by kernel_rfl)
end Go.Proofs.YtfnkloecfjppeaaDoor.ntpHashes
