/-
  Proves that NumTimes is true for every number and every number of times: multiplying is adding as often, and hangs not on the order. No condition.
-/
import Derived.Test.YtjhbbaadmdmhaaaSame
import Derived.Test.YtjhbbaadmdmhaaaLaw
namespace Go.Proofs.Ytjhbbaadmdmhaaa.numTimes
open Go.ChangeShapes Go.WideShapes Go.ChangeAt Go.RowKit
open num (fit)
set_option linter.unusedVariables false

theorem int_info : (Try.prog.info? 3).map (fun i => (i.zero, i.size, i.bytes)) = some (some (.int .i64 0), 1, 8) := by kernel_rfl

theorem mul_o (a b : Int) (ha : fit a) (hb : fit b) : Hid (∀ W, Calls Try.prog 15 #[.int .i64 a, .int .i64 b] W fun e w' => e = .returned (.tuple #[.int .i64 (if fit (a * b) then a * b else 0), .bool (decide (fit (a * b)))]) ∧ W = w') := by
  intro W
  by_cases h : fit (a * b)
  · rw [if_pos h, decide_eq_true h]; exact num.mul_yes a b W ha hb h
  · rw [if_neg h, decide_eq_false h]; exact num.mul_no a b W ha hb h
theorem sums_times (a : Int) (n : Nat) : num.sums 0 (List.replicate n a) = (if fit (a * n) then a * n else 0, decide (fit (a * n))) := by
  rw [num.sums_same _ 0 ⟨by omega, by omega⟩ ?_, num.total_replicate, Int.zero_add]
  · by_cases h : fit (a * n)
    · rw [if_pos h, if_pos h, decide_eq_true h]
    · rw [if_neg h, if_neg h, decide_eq_false h]
  · rcases Int.le_total 0 a with h | h
    · left; intro z hz; rw [List.eq_of_mem_replicate hz]; exact h
    · right; intro z hz; rw [List.eq_of_mem_replicate hz]; exact h

theorem rep_step (a : Int) (k : Nat) : (List.replicate (k + 1) a).map (Value.int .i64) = List.replicate k (.int .i64 a) ++ [.int .i64 a] := by
  rw [List.map_replicate, List.replicate_succ']
set_option maxHeartbeats 4000000 in
theorem walk (a : Int) (ha : fit a) (n : Int) (hn : fit n) (w : World) :
    Calls Try.prog 7 #[.int .i64 a, .int .i64 n] w fun e w' => e = .returned (.bool true) ∧ Below w.heap.size w w' := by
  by_cases h0 : n < 0
  · clear ha hn
    go_enter Try.func7, Try.ntmps7
    go_wp2_with (first
      | (go_at_call 10; (with_reducible refine (num.small_true _).mono ?_; rintro e w1 ⟨rfl, hb1⟩)))
    go_ret
    exact ⟨rfl, by assumption⟩
  by_cases h100 : 100 < n
  · clear ha hn
    go_enter Try.func7, Try.ntmps7
    go_wp2_with (first
      | (go_at_call 10; (with_reducible refine (num.small_true _).mono ?_; rintro e w1 ⟨rfl, hb1⟩)))
    go_ret
    exact ⟨rfl, by assumption⟩
  obtain ⟨N, rfl⟩ : ∃ N : Nat, n = N := ⟨n.toNat, by omega⟩
  have hN : N ≤ 100 := by omega
  have C1 := mul_o a N ha hn
  have C2 := mul_o N a hn ha
  rw [Int.mul_comm (N : Int) a] at C2
  have HS := Lib.hid (sums_times a N)
  have HA := Lib.hid ha
  clear ha hn h0 h100
  obtain ⟨i0, hi0, hz0, hz1, hz2⟩ := info_parts int_info
  generalize hR : (if fit (a * N) then a * N else 0) = R at *
  generalize hO : decide (fit (a * N)) = O at *
  clear hR hO
  go_enter Try.func7, Try.ntmps7
  go_wp2_with (first
    | (go_at_call 10; (with_reducible refine (num.small_true _).mono ?_; rintro e w1 ⟨rfl, hb1⟩)))
  go_loopw [6, 7] (fun v i wr => ∃ k : Nat, k ≤ N ∧ i = .int .i64 k ∧ Hid (wr.ownsRow w1.heap.size 3 1 v k ((List.replicate k a).map (Value.int .i64))) ∧ Below w1.heap.size w1 wr) (fun _ i _ => N - (intOf i).toNat)
  case atStart => exact ⟨0, by omega, rfl, World.ownsRow_nil _ _ _ _, Below.refl _ _⟩
  case round =>
    obtain ⟨k, hk, rfl, hown, hbk⟩ := hrel
    by_cases hlt : k < N
    · go_wp2_with (first
        | (at_builtin; refine wpList_append_own _ rfl _ _ 22 rfl w1.heap.size 3 i0 (.int .i64 0) 1 8 Try.underlying22 hi0 hz0 hz1 hz2 rfl (by decide) _ _ _ rfl (hown.out.alloc _) ⟨wr.heap.size, 0, none⟩ 1 1 [.int .i64 a] rfl rfl ?c1 ?c2 ?c3 ?c4 ?c5 ?_))
      case c1 =>
        intro j u hj
        match j, hj with
        | 0, hj => simp at hj; subst hj; simp [Addr.add]
      case c2 => intro u hu; simp at hu; subst hu; rfl
      case c3 => unfold maxLen; omega
      case c4 => omega
      case c5 => have := hbk.size; simp; omega
      intro v' w2 hown' hgrow _
      have HO := Lib.hid hown'
      have HB : Below w1.heap.size w1 w2 := (hbk.alloc hbk.size _).grown hgrow (by have := hbk.size; simp; omega) (by
        intro g hg
        rcases hown.out.2 with ⟨rfl, _⟩ | ⟨g', cap, cur, rfl, hle, _⟩
        · simp [Value.ownBlock] at hg
        · simp [Value.ownBlock] at hg; omega)
      clear hown' hgrow hown
      go_wp2
      go_roundw
      case rel => exact ⟨k + 1, by omega, by go_num, by show w2.ownsRow _ _ _ _ _ _; rw [rep_step]; exact HO.out, HB⟩
      case measure => simp [intOf]; omega
    · obtain rfl : k = N := by omega
      obtain ⟨A, c, rfl, hi⟩ := num.IntsAt.of_own hown.out (fun z hz => by rw [List.eq_of_mem_replicate hz]; exact HA.out)
      have C3 := num.sum_any A k c _ wr hi
      rw [HS.out] at C3
      have C3 := Lib.hid C3
      clear hi hown
      go_wp2_with (first
        | (go_at_call 19; (with_reducible refine (C3.out).mono ?_; rintro e w' ⟨rfl, rfl⟩))
        | (go_at_call 15; (first | (with_reducible refine (C1.out _).mono ?_; rintro e w' ⟨rfl, rfl⟩) | (with_reducible refine (C2.out _).mono ?_; rintro e w' ⟨rfl, rfl⟩))))
      go_ret
      exact ⟨num.ret_bool (by first | rfl | (simp; done)), hb1.trans (hbk.mono hb1.size)⟩

set_option maxRecDepth 100000 in
theorem lifted (os : Os) (started : os.Started) (H : Type) (enc : TypeId × Value → H) :
    ReturnsInHanded {} Try.checked os 7 .any (Rows.numTimesSpec.pre6 enc Try.prog Try.f7 Rows.numTimesRow.domain false) (Rows.numTimesSpec.post enc Try.prog Try.f7 false true false false) := by
  refine returnsInHanded_of_change (C := Try.checked) law.own started (by kernel_rfl) Try.func7
    (ChangeSpec.witness6 (enc := enc) (C := Try.checked) false ⟨#[], #[.int .i64 0, .int .i64 0], []⟩ 8 (by kernel_rfl) (by kernel_rfl) (by kernel_rfl) (by kernel_rfl)) ?_
  intro W base args ds gs before hval0 hW hcnd _
  have hval : ∀ (j : Nat) t v, Try.f7.params[j]? = some t → args[j]? = some v → Value.okWide Try.prog W .any base t v := hval0
  have hW' := hW
  obtain ⟨p, q, hA0, hV, rfl, hfz, hnd⟩ := hW
  have hA : DataW.TrodAll enc Try.prog W 0 (fun _ => true) true Try.f7.params.toList args.toList ds p := hA0
  rw [Try.params7] at hA hval
  obtain ⟨v0, vs0, d0, ds0, p0, q0, hargs, rfl, rfl, h0, r0⟩ := trodAll_cons hA
  obtain ⟨v1, vs1, d1, ds1, p1, q1, rfl, rfl, rfl, h1, r1⟩ := trodAll_cons r0
  obtain ⟨rfl, rfl, rfl⟩ := trodAll_nil r1
  obtain rfl : args = #[v0, v1] := by cases args; simp_all
  obtain ⟨rfl, rfl⟩ := trodVars_none hV
  clear hA0 hval0
  obtain ⟨a0, rfl, hd0, hp0, w0⟩ := open_int Try.underlying3 (hval 0 3 v0 rfl rfl) h0
  obtain ⟨a1, rfl, hd1, hp1, w1⟩ := open_int Try.underlying3 (hval 1 3 v1 rfl rfl) h1
  refine (Calls.mono (R := fun e w' => e = .returned (.bool true) ∧ Below W.heap.size W w') ?_ fun e W' ⟨he, hb⟩ => ?_)
  · exact walk a0 (bounds_i64 w0) a1 (bounds_i64 w1) W
  · subst he
    exact ⟨_, rfl, law.post law.laidOut (by kernel_rfl) rfl rfl Try.underlying4 rfl hW' hb⟩

theorem over : Rows.numTimesRow.holds Try.pinned (OpenSpec.ofChange Rows.numTimesSpec) :=
  OpenClaim.holds_of_wide 7 Try.f7 rfl rfl rfl rfl rfl rfl rfl ⟨rfl, rfl, rfl, rfl, rfl⟩ rfl rfl rfl rfl rfl (by kernel_rfl) Try.func7 (by kernel_rfl)
    (of_decide_eq_true (by kernel_rfl)) (by unfold Func.isWrapper; first | (rw [if_pos (by decide +kernel)]; kernel_rfl) | (rw [if_neg (by decide +kernel)]; exact ⟨rfl, rfl⟩))
    (fun os started H enc _ => lifted os started H enc)

theorem proved : Rows.NumTimesSaid := over
end Go.Proofs.Ytjhbbaadmdmhaaa.numTimes
