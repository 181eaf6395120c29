/-
  Proves that LinesNumbers is true for every number, how many noughts, every place, numbers of 64 bits, and every byte: numbers from 0 on are read of their decimals, with noughts ahead, too, and no text with another byte is one. No condition.
-/
import Derived.Test.YtnmaffkcfoddgaaLinesLaw
import Derived.Deep.RegionWith
import Derived.BigRegion
namespace Go.Proofs.Ytnmaffkcfoddgaa.linesNumbers
open Go.ChangeShapes Go.WideShapes Go.ChangeAt Go.RowKit
open lx lines
set_option linter.unusedVariables false

theorem dec_first (N : Nat) : dec (N / 10) ++ [dgt N] = decs N := by
  unfold decs
  by_cases h : N = 0
  · subst h
    rw [if_pos rfl, Nat.zero_div, dec_zero]
    rfl
  · rw [if_neg h, dec_pos h]
theorem dec_next {m : Nat} (h : m ≠ 0) (s : List UInt8) : dec (m / 10) ++ (dgt m :: s) = dec m ++ s := by rw [dec_pos h, List.append_assoc]; rfl
theorem one_conv (W V : World) (z : Int) (d : UInt8) (h : z = (d.toNat : Nat)) (hc : V.cell? ⟨W.heap.size, 0, none⟩ = some (.int .u8 z)) : (convert 34 9 (.slice (some ⟨W.heap.size, 0, none⟩) 1 1)).run Try.prog V = .ok (.string (B [d])) V := by
  refine from_bytes V (B [d]) W.heap.size 1 1 rfl fun j hj => ?_
  obtain rfl : j = 0 := by
    have : (B [d]).size = 1 := rfl
    omega
  rw [hc, h]
  rfl
def bit (s : List UInt8) : Nat := if s = [] then 1 else 0
/-- at the head of a digit. -/
def DHead (N : Nat) (w : World) (t k : Value) (W : World) : Prop :=
  ∃ (m : Nat) (s : List UInt8), t = .string (B s) ∧ k = .int .i64 m ∧ m ≤ N ∧ ((s = [] ∧ m = N) ∨ (s ≠ [] ∧ dec m ++ s = decs N)) ∧ Below w.heap.size w W
def ZHead (N Z : Nat) (t i : Value) : Prop := ∃ z : Nat, z ≤ Z ∧ i = .int .i64 z ∧ t = .string (B (List.replicate z 48 ++ decs N))
def meas (t k : Value) : Nat := (intOf k).toNat + (if szOf t = 0 then 1 else 0)
theorem meas_is (s : List UInt8) (m : Nat) : meas (.string (B s)) (.int .i64 m) = m + (if s = [] then 1 else 0) := by
  unfold meas
  rw [show szOf (.string (B s)) = s.length from B_size s]
  simp [intOf, List.length_eq_zero_iff]
theorem dhead_next {N m : Nat} {w W : World} {s : List UInt8} (hm : m ≤ N) (hs : (s = [] ∧ m = N) ∨ (s ≠ [] ∧ dec m ++ s = decs N)) (hg : m ≠ 0 ∨ s = []) (hb : Below w.heap.size w W) :
    DHead N w (.string (B [dgt m] ++ B s)) (.int .i64 ((m : Int) / 10)) W ∧ meas (.string (B [dgt m] ++ B s)) (.int .i64 ((m : Int) / 10)) < meas (.string (B s)) (.int .i64 m) := by
  rw [B_app, show ((m : Int) / 10) = ((m / 10 : Nat) : Int) from rfl]
  constructor
  · refine ⟨m / 10, [dgt m] ++ s, rfl, rfl, by omega, .inr ⟨by simp, ?_⟩, hb⟩
    rcases hs with ⟨rfl, rfl⟩ | ⟨_, h2⟩
    · exact dec_first m
    · by_cases k : m = 0
      · rcases hg with g | g
        · exact absurd k g
        · subst g; contradiction
      · rw [List.singleton_append, dec_next k, h2]
  · rw [meas_is, meas_is]
    simp
    by_cases k : s = []
    · rw [if_pos k]; omega
    · rw [if_neg k]
      rcases hg with g | g
      · omega
      · exact absurd g k
theorem dlen {N m : Nat} {s : List UInt8} (hN : (N : Int) ≤ 9223372036854775807) (hs : (s = [] ∧ m = N) ∨ (s ≠ [] ∧ dec m ++ s = decs N)) : (B s).size ≤ 19 := by
  rw [B_size]
  rcases hs with ⟨rfl, _⟩ | ⟨_, h⟩
  · simp
  · have := decs_len N hN
    rw [← h, List.length_append] at this
    omega

theorem spoiled {w : World} (X : ByteArray) (b : UInt8) (K : Nat) (kl : K ≤ X.size) (yl : X.size ≤ 69) (bb : b.toNat < 48 ∨ 57 < b.toNat) (W : World) (hb : Below w.heap.size w W) :
    Calls Try.prog 11 #[.string (X.extract 0 K ++ B [b] ++ X.extract K X.size)] W fun e w' => e = .returned (.tuple #[.int .i64 0, .bool false]) ∧ Below w.heap.size w w' := by
  have h := number_on (w := w) W hb (X.extract 0 K ++ B [b] ++ X.extract K X.size) (by
    rw [ByteArray.size_append, ByteArray.size_append, show (B [b]).size = 1 from rfl]
    simp
    omega)
  obtain ⟨e1, e2⟩ := nm_no (s := X.extract 0 K ++ B [b] ++ X.extract K X.size) (nm_bad ⟨b, by rw [L_app, L_app, L_B]; simp, by unfold dgB; rw [decide_eq_false_iff_not]; omega⟩)
  rw [e1, e2] at h
  exact h
set_option maxRecDepth 100000 in
set_option maxHeartbeats 4000000 in
theorem walk (n : Int) (hn : -9223372036854775808 ≤ n ∧ n ≤ 9223372036854775807) (z : Int) (hz : -9223372036854775808 ≤ z ∧ z ≤ 9223372036854775807) (k : Int) (hk : -9223372036854775808 ≤ k ∧ k ≤ 9223372036854775807) (c : Int) (hc : 0 ≤ c ∧ c ≤ 255) (w : World) (T : ML w) :
    Calls Try.prog 6 #[.int .i64 n, .int .i64 z, .int .i64 k, .int .u8 c] w fun e w' => e = .returned (.bool true) ∧ Below w.heap.size w w' := by
  have S := Lib.hid (fun W hb => small_true T W hb)
  have B0 : Below w.heap.size w w := Below.refl _ _
  clear T
  by_cases h1 : n < 0 ∨ z < 0 ∨ 50 < z
  · go_enter Try.func6, Try.ntmps6
    go_wp2_with (first
      | (go_at_call 10; (with_reducible refine (S.out _ (by assumption)).mono ?_; rintro e w1 ⟨rfl, hb1⟩)))
    all_goals first
      | (exfalso; omega)
      | (go_ret; exact ⟨rfl, by assumption⟩)
  obtain ⟨N, rfl⟩ : ∃ N : Nat, n = N := ⟨n.toNat, by omega⟩
  obtain ⟨Z, rfl⟩ : ∃ Z : Nat, z = Z := ⟨z.toNat, by omega⟩
  have hN : (N : Int) ≤ 9223372036854775807 := by omega
  have hZ : Z ≤ 50 := by omega
  have dl := decs_len N hN
  clear h1 hn hz
  go_enter Try.func6, Try.ntmps6
  go_wp2_with (go_at_call 10; (with_reducible refine (S.out _ (by assumption)).mono ?_); rintro e w1 ⟨rfl, hb1⟩)
  go_loopw [10, 11] (fun t m W => DHead N w t m W) (fun t m _ => meas t m)
  case atStart => exact ⟨N, [], rfl, rfl, Nat.le_refl _, .inl ⟨rfl, rfl⟩, by assumption⟩
  case round =>
    obtain ⟨m, s, rfl, rfl, hm, hs, hb⟩ := hrel
    have sl := dlen hN hs
    by_cases hg : m ≠ 0 ∨ s = []
    · have q1 : 0 ≤ (m : Int) % 10 := by omega
      have q2 : (m : Int) % 10 ≤ 9 := by omega
      have hcv := one_conv wr (wr.alloc (.cells #[.int .u8 (48 + (m : Int) % 10)] 5)) (48 + (m : Int) % 10) (dgt m) (by rw [dgt_nat]; omega) (by simp)
      have R := Lib.hid (dhead_next (W := wr.alloc (.cells #[.int .u8 (48 + (m : Int) % 10)] 5)) hm hs hg (bal hb _))
      have z1 : (B [dgt m]).size = 1 := rfl
      by_cases h0 : 0 < m
      · clear hs hg
        go_wp2
        go_roundw
        case rel => exact R.out.1
        case measure => exact R.out.2
      · have t1 : ((B s).toList == []) = true := by
          rcases hg with g | g
          · omega
          · subst g; rw [ByteArray.toList_eq]; rfl
        clear hs hg
        go_wp2
        go_roundw
        case rel => exact R.out.1
        case measure => exact R.out.2
    · have hs2 : s = decs N := by
        rcases hs with ⟨k, _⟩ | ⟨_, k⟩
        · exact absurd (.inr k) hg
        · have m0 : m = 0 := by omega
          rw [m0, dec_zero, List.nil_append] at k
          exact k
      have t1 : ((B s).toList == []) = false := tl_ne (by rw [B_size, hs2]; exact List.length_pos_iff.2 (decs_ne N))
      have m0 : ¬ 0 < m := by omega
      subst hs2
      clear hs hg
      go_wp2
      go_loop [10, 12] (fun t i => ZHead N Z t i) (fun _ i => Z - (intOf i).toNat)
      case atStart => exact ⟨0, by omega, rfl, rfl⟩
      case round =>
        obtain ⟨y, hy, rfl, rfl⟩ := hrel
        have yl : (B (List.replicate y 48 ++ decs N)).size ≤ 69 := by
          rw [B_size, List.length_append, List.length_replicate]
          omega
        by_cases hlt : y < Z
        · have E : Hid ((⟨#[48]⟩ : ByteArray) ++ B (List.replicate y 48 ++ decs N) = B (List.replicate (y + 1) 48 ++ decs N)) := by
            apply L_inj
            rw [L_app, L_B, L_B, List.replicate_succ]
            rfl
          generalize B (List.replicate y 48 ++ decs N) = X at *
          clear t1
          go_wp2
          go_round
          case rel => exact ⟨y + 1, by omega, by go_num, by rw [E.out]⟩
          case measure => simp [intOf]; omega
        · obtain rfl : y = Z := by omega
          obtain ⟨e1, e2⟩ := nm_yes (s := B (List.replicate y 48 ++ decs N)) (n := N) (by rw [L_B]; exact nm_decs N y hN)
          have N1 := Lib.hid (fun W hb => number_on (w := w) W hb (B (List.replicate y 48 ++ decs N)) (by omega))
          rw [e1, e2] at N1
          clear e1 e2 t1
          generalize B (List.replicate y 48 ++ decs N) = X at *
          by_cases hbad : k < 0 ∨ (X.size : Int) < k ∨ (48 ≤ c ∧ c ≤ 57)
          · go_wp2_with (go_at_call 11; (with_reducible refine (N1.out _ (by assumption)).mono ?_); rintro e w2 ⟨rfl, hb2⟩)
            all_goals first
              | (exfalso; omega)
              | (go_ret; exact ⟨ret_bool (by first | rfl | (simp; done)), by assumption⟩)
          · obtain ⟨K, rfl⟩ : ∃ K : Nat, k = K := ⟨k.toNat, by omega⟩
            obtain ⟨b, rfl⟩ : ∃ b : UInt8, c = (b.toNat : Int) := ⟨UInt8.ofNat c.toNat, by rw [UInt8.toNat_ofNat']; omega⟩
            have kl : K ≤ X.size := by omega
            have bb : b.toNat < 48 ∨ 57 < b.toNat := by omega
            have N2 := Lib.hid (spoiled (w := w) X b K kl yl bb)
            have x1 : (X.extract 0 K).size ≤ 69 := by simp; omega
            have x2 : (X.extract K X.size).size ≤ 69 := by simp; omega
            have bl : b.toNat ≤ 255 := by have := b.toNat_lt; omega
            clear hbad hk hc
            have z1 : (B [b]).size = 1 := rfl
            rcases bb with bb | bb
            all_goals
              go_wp2_with (go_at_call 11; (with_reducible refine (N1.out _ (by assumption)).mono ?_); rintro e w2 ⟨rfl, hb2⟩; have hcv := one_conv w2 ((w2.alloc (.cells #[.int .u8 (b.toNat : Int)] 5)).drew) (b.toNat : Int) b rfl (by simp))
              go_region_with (go_at_call 11; (with_reducible refine (N2.out _ (bal hb2 _).drew).mono ?_); rintro e w3 ⟨rfl, hb3⟩)
              all_goals
                go_wp2
                go_ret
                exact ⟨ret_bool (by first | rfl | (simp; done)), by assumption⟩
set_option maxRecDepth 100000 in
theorem lifted (os : Os) (started : os.Started) (H : Type) (enc : TypeId × Value → H) :
    ReturnsInHanded {} Try.checked os 6 .any (Rows.linesNumbersSpec.pre6 enc Try.prog Try.f6 Rows.linesNumbersRow.domain false) (Rows.linesNumbersSpec.post enc Try.prog Try.f6 false true false false) := by
  refine returnsInHanded_of_change_shaped (C := Try.checked) law.own started (by kernel_rfl) Try.func6
    (ChangeSpec.witness6 (enc := enc) (C := Try.checked) false ⟨#[], #[.int .i64 0, .int .i64 0, .int .i64 0, .int .u8 0], []⟩ 8 (by kernel_rfl) (by kernel_rfl) (by kernel_rfl) (by kernel_rfl)) ?_
  intro W base args ds gs before hval0 hW hcnd _ hsh _
  have hval : ∀ (j : Nat) t v, Try.f6.params[j]? = some t → args[j]? = some v → Value.okWide Try.prog W .any base t v := hval0
  have hW' := hW
  obtain ⟨p, q, hA0, hV, rfl, hfz, hnd⟩ := hW
  have hA : DataW.TrodAll enc Try.prog W 0 (fun _ => true) true Try.f6.params.toList args.toList ds p := hA0
  rw [Try.params6] at hA hval
  obtain ⟨v0, vs0, d0, ds0, p0, q0, hargs, rfl, rfl, h0, r0⟩ := trodAll_cons hA
  obtain ⟨v1, vs1, d1, ds1, p1, q1, rfl, rfl, rfl, h1, r1⟩ := trodAll_cons r0
  obtain ⟨v2, vs2, d2, ds2, p2, q2, rfl, rfl, rfl, h2, r2⟩ := trodAll_cons r1
  obtain ⟨v3, vs3, d3, ds3, p3, q3, rfl, rfl, rfl, h3, r3⟩ := trodAll_cons r2
  obtain ⟨rfl, rfl, rfl⟩ := trodAll_nil r3
  obtain rfl : args = #[v0, v1, v2, v3] := by cases args; simp_all
  obtain ⟨rfl, rfl⟩ := trodVars_none hV
  clear hA0 hval0
  obtain ⟨a0, rfl, hd0, hp0, w0⟩ := open_int Try.underlying3 (hval 0 3 v0 rfl rfl) h0
  obtain ⟨a1, rfl, hd1, hp1, w1⟩ := open_int Try.underlying3 (hval 1 3 v1 rfl rfl) h1
  obtain ⟨a2, rfl, hd2, hp2, w2⟩ := open_int Try.underlying3 (hval 2 3 v2 rfl rfl) h2
  obtain ⟨a3, rfl, hd3, hp3, w3⟩ := open_int Try.underlying5 (hval 3 5 v3 rfl rfl) h3
  refine (Calls.mono (R := fun e w' => e = .returned (.bool true) ∧ Below W.heap.size W w') ?_ fun e W' ⟨he, hb⟩ => ?_)
  · exact walk a0 (bounds_i64 w0) a1 (bounds_i64 w1) a2 (bounds_i64 w2) a3 (bounds_u8 w3) W (lines.ml_of hsh)
  · subst he
    exact ⟨_, rfl, law.post law.laidOut (by kernel_rfl) rfl rfl Try.underlying4 rfl hW' hb⟩

theorem over : Rows.linesNumbersRow.holds Try.pinned (OpenSpec.ofChange Rows.linesNumbersSpec) :=
  OpenClaim.holds_of_wide 6 Try.f6 rfl rfl rfl rfl rfl rfl rfl ⟨rfl, rfl, rfl, rfl, rfl⟩ rfl rfl rfl rfl rfl (by kernel_rfl) Try.func6 (by kernel_rfl)
    (of_decide_eq_true (by kernel_rfl)) (by unfold Func.isWrapper; first | (rw [if_pos (by decide +kernel)]; kernel_rfl) | (rw [if_neg (by decide +kernel)]; exact ⟨rfl, rfl⟩))
    (fun os started H enc _ => lifted os started H enc)

theorem proved : Rows.LinesNumbersSaid := over
end Go.Proofs.Ytnmaffkcfoddgaa.linesNumbers
