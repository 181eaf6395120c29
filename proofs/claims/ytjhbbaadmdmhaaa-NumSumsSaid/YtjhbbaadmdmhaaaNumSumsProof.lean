/-
  Proves that NumSums is true for every slice of numbers and every place to cut it: of numbers that are all from 0 on, or all below, a sum is too much just if that of a part of them and the rest is. No condition.
-/
import Derived.Test.YtjhbbaadmdmhaaaSame
import Derived.Test.YtjhbbaadmdmhaaaLaw
namespace Go.Proofs.Ytjhbbaadmdmhaaa.numSums
open Go.ChangeShapes Go.WideShapes Go.ChangeAt Go.RowKit
open num (fit IntsAt sums)
set_option linter.unusedVariables false

theorem add_o (a b : Int) (ha : fit a) (hb : fit b) : Hid (∀ W, Calls Try.prog 11 #[.int .i64 a, .int .i64 b] W fun e w' => e = .returned (.tuple #[.int .i64 (if fit (a + b) then a + b else 0), .bool (decide (fit (a + b)))]) ∧ W = w') := by
  intro W
  by_cases h : fit (a + b)
  · rw [if_pos h, decide_eq_true h]; exact num.add_yes a b W ha hb h
  · rw [if_neg h, decide_eq_false h]; exact num.add_no a b W ha hb h

/-- what the three sums and the last addition tell. -/
theorem parts (zs : List Int) (k : Nat) (hs : (∀ z ∈ zs, 0 ≤ z) ∨ (∀ z ∈ zs, z ≤ 0)) :
    ∃ a b c d e f g h, sums 0 (zs.take k) = (a, b) ∧ sums 0 (zs.drop k) = (c, d) ∧ sums 0 zs = (e, f) ∧ Hid (∀ W, Calls Try.prog 11 #[.int .i64 a, .int .i64 c] W fun e w' => e = .returned (.tuple #[.int .i64 g, .bool h]) ∧ W = w') ∧
      ((b = false ∧ f = false ∧ e = 0) ∨ (b = true ∧ d = false ∧ f = false ∧ e = 0) ∨ (b = true ∧ d = true ∧ e = g ∧ f = h)) := by
  have hz : fit 0 := ⟨by omega, by omega⟩
  have h1 := num.sums_same (zs.take k) 0 hz (hs.imp (fun h z hz => h z (List.mem_of_mem_take hz)) (fun h z hz => h z (List.mem_of_mem_take hz)))
  have h2 := num.sums_same (zs.drop k) 0 hz (hs.imp (fun h z hz => h z (List.mem_of_mem_drop hz)) (fun h z hz => h z (List.mem_of_mem_drop hz)))
  have h3 := num.sums_same zs 0 hz hs
  have ht : num.total zs = num.total (zs.take k) + num.total (zs.drop k) := by rw [← num.total_append, List.take_append_drop]
  have hsg : (0 ≤ num.total (zs.take k) ∧ 0 ≤ num.total (zs.drop k)) ∨ (num.total (zs.take k) ≤ 0 ∧ num.total (zs.drop k) ≤ 0) := by
    rcases hs with h | h
    · exact .inl ⟨num.total_nonneg _ (fun z hz => h z (List.mem_of_mem_take hz)), num.total_nonneg _ (fun z hz => h z (List.mem_of_mem_drop hz))⟩
    · exact .inr ⟨num.total_nonpos _ (fun z hz => h z (List.mem_of_mem_take hz)), num.total_nonpos _ (fun z hz => h z (List.mem_of_mem_drop hz))⟩
  rw [Int.zero_add] at h1 h2 h3
  rw [ht] at h3
  generalize num.total (zs.take k) = S at *
  generalize num.total (zs.drop k) = T at *
  by_cases f1 : fit S
  · rw [if_pos f1] at h1
    by_cases f2 : fit T
    · rw [if_pos f2] at h2
      by_cases f3 : fit (S + T)
      · rw [if_pos f3] at h3
        exact ⟨_, _, _, _, _, _, _, _, h1, h2, h3, fun W => num.add_yes S T W f1 f2 f3, .inr (.inr ⟨rfl, rfl, rfl, rfl⟩)⟩
      · rw [if_neg f3] at h3
        exact ⟨_, _, _, _, _, _, _, _, h1, h2, h3, fun W => num.add_no S T W f1 f2 f3, .inr (.inr ⟨rfl, rfl, rfl, rfl⟩)⟩
    · rw [if_neg f2] at h2
      rw [if_neg (by unfold fit at *; omega)] at h3
      exact ⟨_, _, _, _, _, _, _, _, h1, h2, h3, add_o S 0 f1 hz, .inr (.inl ⟨rfl, rfl, rfl, rfl⟩)⟩
  · rw [if_neg f1] at h1
    rw [if_neg (by unfold fit at *; omega)] at h3
    by_cases f2 : fit T
    · rw [if_pos f2] at h2
      exact ⟨_, _, _, _, _, _, _, _, h1, h2, h3, add_o 0 T hz f2, .inl ⟨rfl, rfl, rfl⟩⟩
    · rw [if_neg f2] at h2
      exact ⟨_, _, _, _, _, _, _, _, h1, h2, h3, add_o 0 0 hz hz, .inl ⟨rfl, rfl, rfl⟩⟩

theorem signs (zs : List Int) (n : Nat) (hl : zs.length = n) (h : ∀ j, 1 ≤ j → j < n → (zs.getD j 0 < 0 ↔ zs.getD 0 0 < 0)) : (∀ z ∈ zs, 0 ≤ z) ∨ (∀ z ∈ zs, z ≤ 0) := by
  have key : ∀ z ∈ zs, (z < 0 ↔ zs.getD 0 0 < 0) := by
    intro z hz
    obtain ⟨j, hj, rfl⟩ := List.mem_iff_getElem.1 hz
    rcases Nat.eq_zero_or_pos j with rfl | hp
    · simp [List.getD, hj]
    · have := h j hp (by omega)
      simpa [List.getD, hj] using this
  by_cases h0 : zs.getD 0 0 < 0
  · right; intro z hz; have := (key z hz).2 h0; omega
  · left; intro z hz; have := key z hz; omega

set_option maxHeartbeats 4000000 in
theorem walk (w : World) (A : Option Addr) (n c : Nat) (zs : List Int) (hi : IntsAt w A n zs ∧ n ≤ c ∧ c ≤ 9223372036854775807) (k : Int) (hk : fit k) :
    Calls Try.prog 8 #[.slice A n c, .int .i64 k] w fun e w' => e = .returned (.bool true) ∧ Below w.heap.size w w' := by
  obtain ⟨hi, hnc, hc⟩ := hi
  unfold fit at hk
  by_cases h1 : 1000 < n
  · clear hi hk
    go_enter Try.func8, Try.ntmps8
    go_wp2_with (first
      | (go_at_call 10; (with_reducible refine (num.small_true _).mono ?_; rintro e w1 ⟨rfl, hb1⟩)))
    go_ret
    exact ⟨rfl, by assumption⟩
  by_cases h2 : k < 0
  · clear hi hk
    go_enter Try.func8, Try.ntmps8
    go_wp2_with (first
      | (go_at_call 10; (with_reducible refine (num.small_true _).mono ?_; rintro e w1 ⟨rfl, hb1⟩)))
    go_ret
    exact ⟨rfl, by assumption⟩
  obtain ⟨K, rfl⟩ : ∃ K : Nat, k = K := ⟨k.toNat, by omega⟩
  by_cases h3 : n < K
  · clear hi hk
    go_enter Try.func8, Try.ntmps8
    go_wp2_with (first
      | (go_at_call 10; (with_reducible refine (num.small_true _).mono ?_; rintro e w1 ⟨rfl, hb1⟩)))
    go_ret
    exact ⟨rfl, by assumption⟩
  have h1' : n ≤ 1000 := by omega
  have h3' : K ≤ n := by omega
  have HI := Lib.hid hi
  clear hi hk h2 h1 h3
  have d1 : decide ((1000 : Int) < n) = false := decide_eq_false (by omega)
  have d2 : decide ((K : Int) < 0) = false := decide_eq_false (by omega)
  have d3 : decide (n < K) = false := decide_eq_false (by omega)
  go_enter Try.func8, Try.ntmps8
  go_wp2_with (first
    | (go_at_call 10; (with_reducible refine (num.small_true _).mono ?_; rintro e w1 ⟨rfl, hb1⟩)))
  have HB := Lib.hid hb1
  have HI1 := Lib.hid (HI.out.below hb1)
  clear hb1 HI
  go_loopw [6] (fun i wr => ∃ j q : Nat, 1 ≤ j ∧ j ≤ n + 1 ∧ i = .int .i64 j ∧ wr = w1.drewN q ∧ Hid (∀ x, 1 ≤ x → x < j → x < n → (zs.getD x 0 < 0 ↔ zs.getD 0 0 < 0))) (fun i _ => n + 1 - (intOf i).toNat)
  case atStart => exact ⟨1, 0, by omega, by omega, rfl, rfl, fun x _ _ _ => by omega⟩
  case round =>
    obtain ⟨j, q, hj1, hj2, rfl, rfl, HS⟩ := hrel
    by_cases hlt : j < n
    · obtain ⟨b, off, rfl, hcell⟩ := HI1.out.cells (by omega)
      have hcj := hcell j hlt
      have hc0 := hcell 0 (by omega)
      clear hcell HI1
      have hiff : (zs.getD j 0 < 0 ↔ zs.getD 0 0 < 0) ∨ ¬ (zs.getD j 0 < 0 ↔ zs.getD 0 0 < 0) := Classical.em _
      have HX : Hid ((zs.getD j 0 < 0 ↔ zs.getD 0 0 < 0) → ∀ x, 1 ≤ x → x < j + 1 → x < n → (zs.getD x 0 < 0 ↔ zs.getD 0 0 < 0)) := by
        intro hh x h1 h2 h3
        by_cases e : x = j
        · subst e; exact hh
        · exact HS.out x h1 (by omega) h3
      clear HS hiff
      have hq1 : (off : Nat) + 0 = off := by omega
      rw [hq1] at hc0
      clear hq1
      generalize zs.getD j 0 = x at *
      generalize hy : zs.getD 0 0 = y at *
      have HY := Lib.hid hy
      clear hy
      by_cases hx : x < 0
      · have hxd : decide (x < 0) = true := decide_eq_true hx
        by_cases hy : y < 0
        · have hyd : decide (y < 0) = true := decide_eq_true hy
          go_wp2
          go_quiet (fail)
          go_wp2
          go_roundw
          case rel => exact ⟨j + 1, _, by omega, by omega, by go_num, rfl, HX.out ⟨fun _ => hy, fun _ => hx⟩⟩
          case measure => simp [intOf]; omega
        · have hyd : decide (y < 0) = false := decide_eq_false hy
          go_wp2
          go_quiet (fail)
          go_wp2
          go_ret
          exact ⟨rfl, below_drewN (below_drewN HB.out _) _⟩
      · have hxd : decide (x < 0) = false := decide_eq_false hx
        by_cases hy : y < 0
        · have hyd : decide (y < 0) = true := decide_eq_true hy
          go_wp2
          go_quiet (fail)
          go_wp2
          go_ret
          exact ⟨rfl, below_drewN (below_drewN HB.out _) _⟩
        · have hyd : decide (y < 0) = false := decide_eq_false hy
          go_wp2
          go_quiet (fail)
          go_wp2
          go_roundw
          case rel => exact ⟨j + 1, _, by omega, by omega, by go_num, rfl, HX.out ⟨fun h => by omega, fun h => by omega⟩⟩
          case measure => simp [intOf]; omega
    · have hs := signs zs n HI1.out.len (fun x h1 h2 => HS.out x h1 (by omega) h2)
      obtain ⟨a, b, c', d, e, f, g, h, e1, e2, e3, C4, hor⟩ := parts zs K hs
      have C1 := num.sum_any A K c (zs.take K) (w1.drewN q) ((HI1.out.take h3').drewN q)
      have C2 := num.sum_any _ (n - K) (c - K) (zs.drop K) (w1.drewN q) ((HI1.out.drop h3' hnc).drewN q)
      have C3 := num.sum_any A n c zs (w1.drewN q) (HI1.out.drewN q)
      rw [e1] at C1; rw [e2] at C2; rw [e3] at C3
      have C1 := Lib.hid C1
      have C2 := Lib.hid C2
      have C3 := Lib.hid C3
      clear e1 e2 e3 hs HI1 HS
      rcases hor with ⟨rfl, rfl, rfl⟩ | ⟨rfl, rfl, rfl, rfl⟩ | ⟨rfl, rfl, rfl, rfl⟩
      all_goals
        go_wp2_with (first
          | (go_at_call 19; (first | (with_reducible refine (C1.out).mono ?_; rintro e w' ⟨rfl, rfl⟩) | (with_reducible refine (C2.out).mono ?_; rintro e w' ⟨rfl, rfl⟩) | (with_reducible refine (C3.out).mono ?_; rintro e w' ⟨rfl, rfl⟩)))
          | (go_at_call 11; (with_reducible refine (C4.out _).mono ?_; rintro e w' ⟨rfl, rfl⟩)))
        all_goals (go_ret; exact ⟨num.ret_bool (by first | rfl | (simp; done)), below_drewN HB.out _⟩)

set_option maxRecDepth 100000 in
theorem lifted (os : Os) (started : os.Started) (H : Type) (enc : TypeId × Value → H) :
    ReturnsInHanded {} Try.checked os 8 .any (Rows.numSumsSpec.pre6 enc Try.prog Try.f8 Rows.numSumsRow.domain false) (Rows.numSumsSpec.post enc Try.prog Try.f8 false true false false) := by
  refine returnsInHanded_of_change (C := Try.checked) law.own started (by kernel_rfl) Try.func8
    (ChangeSpec.witness6 (enc := enc) (C := Try.checked) false ⟨#[], #[.slice none 0 0, .int .i64 0], []⟩ 8 (by kernel_rfl) (by kernel_rfl) (by kernel_rfl) (by kernel_rfl)) ?_
  intro W base args ds gs before hval0 hW hcnd _
  have hval : ∀ (j : Nat) t v, Try.f8.params[j]? = some t → args[j]? = some v → Value.okWide Try.prog W .any base t v := hval0
  have hW' := hW
  obtain ⟨p, q, hA0, hV, rfl, hfz, hnd⟩ := hW
  have hA : DataW.TrodAll enc Try.prog W 0 (fun _ => true) true Try.f8.params.toList args.toList ds p := hA0
  rw [Try.params8] at hA hval
  obtain ⟨v0, vs0, d0, ds0, p0, q0, hargs, rfl, rfl, h0, r0⟩ := trodAll_cons hA
  obtain ⟨v1, vs1, d1, ds1, p1, q1, rfl, rfl, rfl, h1, r1⟩ := trodAll_cons r0
  obtain ⟨rfl, rfl, rfl⟩ := trodAll_nil r1
  obtain rfl : args = #[v0, v1] := by cases args; simp_all
  obtain ⟨rfl, rfl⟩ := trodVars_none hV
  clear hA0 hval0
  obtain ⟨a1, rfl, hd1, hp1, w1⟩ := open_int Try.underlying3 (hval 1 3 v1 rfl rfl) h1
  refine (Calls.mono (R := fun e w' => e = .returned (.bool true) ∧ Below W.heap.size W w') ?_ fun e W' ⟨he, hb⟩ => ?_)
  · obtain ⟨A0, n0, c0, z0, rfl, i0⟩ := num.open_ints (hval 0 22 v0 rfl rfl) h0
    exact walk W _ _ _ _ i0 a1 (bounds_i64 w1)
  · subst he
    exact ⟨_, rfl, law.post law.laidOut (by kernel_rfl) rfl rfl Try.underlying4 rfl hW' hb⟩

theorem over : Rows.numSumsRow.holds Try.pinned (OpenSpec.ofChange Rows.numSumsSpec) :=
  OpenClaim.holds_of_wide 8 Try.f8 rfl rfl rfl rfl rfl rfl rfl ⟨rfl, rfl, rfl, rfl, rfl⟩ rfl rfl rfl rfl rfl (by kernel_rfl) Try.func8 (by kernel_rfl)
    (of_decide_eq_true (by kernel_rfl)) (by unfold Func.isWrapper; first | (rw [if_pos (by decide +kernel)]; kernel_rfl) | (rw [if_neg (by decide +kernel)]; exact ⟨rfl, rfl⟩))
    (fun os started H enc _ => lifted os started H enc)

theorem proved : Rows.NumSumsSaid := over
end Go.Proofs.Ytjhbbaadmdmhaaa.numSums
