/-
  What package head's Encode answers: a head's bytes in new memory, or none. Condition: none.
-/
import Derived.Test.YtkbpmopnphcfjaaHead
import Derived.Test.YtkbpmopnphcfjaaOctUse
namespace Go.Proofs.Ytkbpmopnphcfjaa.head
open Go.ChangeShapes Go.WideShapes Go.ChangeAt Go.RowKit
open om mem oct hd
set_option linter.unusedVariables false
set_option maxRecDepth 100000

def EncTold (w : World) (h : Hd) (e : Ending) (w' : World) : Prop :=
  ∃ v', e = .returned (.tuple #[v', .bool (okB h)]) ∧ Own w.heap.size w' v' (enc h) ∧ Below w.heap.size w w'
theorem cpS : (Try.prog.info? 5).map (·.size) = some 1 := by kernel_rfl
theorem made20 : madeCells (Value.int .u8 0).cells 20 = #[.int .u8 0, .int .u8 0, .int .u8 0, .int .u8 0, .int .u8 0, .int .u8 0, .int .u8 0, .int .u8 0, .int .u8 0, .int .u8 0, .int .u8 0, .int .u8 0, .int .u8 0, .int .u8 0, .int .u8 0, .int .u8 0, .int .u8 0, .int .u8 0, .int .u8 0, .int .u8 0] := by kernel_rfl
/-- 'make([]byte, 20)'. -/
theorem make20 (W : World) : (Instr.makeSlice 24 (.int .i64 20) (.int .i64 20)).run Try.prog W = .ok (.slice (some ⟨W.heap.size, 0, none⟩) 20 20) (W.alloc (.cells #[.int .u8 0, .int .u8 0, .int .u8 0, .int .u8 0, .int .u8 0, .int .u8 0, .int .u8 0, .int .u8 0, .int .u8 0, .int .u8 0, .int .u8 0, .int .u8 0, .int .u8 0, .int .u8 0, .int .u8 0, .int .u8 0, .int .u8 0, .int .u8 0, .int .u8 0, .int .u8 0] 5)) := by
  obtain ⟨i0, hi, hz0, hz1, hz2⟩ := info_parts infoB
  have := run_make (P := Try.prog) W 24 5 i0 _ Try.underlying24 hi hz0 .i64 .i64 20 20 (by decide) (by decide) (by rw [hz2]; decide) (by decide)
  rw [hz1, Nat.mul_one, show (20 : Int).toNat = 20 from rfl, made20] at this
  exact this
theorem alloc_set (W : World) (a b : Array Value) (t : TypeId) : (W.alloc (.cells a t)).setRow W.heap.size b = W.alloc (.cells b t) := by
  unfold World.setRow World.alloc
  simp only [World.mk.injEq, and_true]
  refine Array.ext (by simp) fun i h1 h2 => ?_
  rw [Array.getElem_modify]
  by_cases e : W.heap.size = i
  · subst e
    simp
  · rw [if_neg e]
    have : i < W.heap.size := by simp at h2; omega
    rw [Array.getElem_push_lt this, Array.getElem_push_lt this]
/-- 'copy(b, "TZif")'. -/
theorem copy20 (W : World) : (Builtin.copy_ #[24, 9] 3 #[.slice (some ⟨W.heap.size, 0, none⟩) 20 20, .string ⟨#[84, 90, 105, 102]⟩]).run Try.prog (W.alloc (.cells #[.int .u8 0, .int .u8 0, .int .u8 0, .int .u8 0, .int .u8 0, .int .u8 0, .int .u8 0, .int .u8 0, .int .u8 0, .int .u8 0, .int .u8 0, .int .u8 0, .int .u8 0, .int .u8 0, .int .u8 0, .int .u8 0, .int .u8 0, .int .u8 0, .int .u8 0, .int .u8 0] 5)) =
    .ok (.int .i64 4) (W.alloc (.cells #[.int .u8 84, .int .u8 90, .int .u8 105, .int .u8 102, .int .u8 0, .int .u8 0, .int .u8 0, .int .u8 0, .int .u8 0, .int .u8 0, .int .u8 0, .int .u8 0, .int .u8 0, .int .u8 0, .int .u8 0, .int .u8 0, .int .u8 0, .int .u8 0, .int .u8 0, .int .u8 0] 5)) := by
  have := Lib.run_copy_row_string (P := Try.prog) (W.alloc (.cells #[.int .u8 0, .int .u8 0, .int .u8 0, .int .u8 0, .int .u8 0, .int .u8 0, .int .u8 0, .int .u8 0, .int .u8 0, .int .u8 0, .int .u8 0, .int .u8 0, .int .u8 0, .int .u8 0, .int .u8 0, .int .u8 0, .int .u8 0, .int .u8 0, .int .u8 0, .int .u8 0] 5)) 24 9 3 5 W.heap.size 0 20 20 ⟨#[84, 90, 105, 102]⟩ #[.int .u8 0, .int .u8 0, .int .u8 0, .int .u8 0, .int .u8 0, .int .u8 0, .int .u8 0, .int .u8 0, .int .u8 0, .int .u8 0, .int .u8 0, .int .u8 0, .int .u8 0, .int .u8 0, .int .u8 0, .int .u8 0, .int .u8 0, .int .u8 0, .int .u8 0, .int .u8 0] 5 Try.underlying24 cpS (hp_new W _) (by decide) (by decide)
  rw [alloc_set] at this
  exact this
theorem put_one (h : Hd) (hok : Ok h) (k : Nat) (hk : k < 6) (w W : World) (v : Value) (ho : Own w.heap.size W v (pref h.v ++ lay4s ((nums h).take k))) (hb : Below w.heap.size w W) :
    Calls Try.prog 18 #[v, .int .i64 ((nums h)[k]'(by exact hk)), .int .i64 4] W fun e w' => ∃ v', e = .returned (.tuple #[v', .bool true]) ∧ Own w.heap.size w' v' (pref h.v ++ lay4s ((nums h).take (k + 1))) ∧ Below w.heap.size w w' := by
  have hk' : k < (nums h).length := hk
  have bd : -2147483648 ≤ (nums h)[k]'(by exact hk) ∧ (nums h)[k]'(by exact hk) ≤ 2147483647 := by
    obtain ⟨k1, k2, k3, k4, k5, k6, k7⟩ := hok
    obtain rfl | rfl | rfl | rfl | rfl | rfl : k = 0 ∨ k = 1 ∨ k = 2 ∨ k = 3 ∨ k = 4 ∨ k = 5 := by omega
    all_goals simp only [nums, List.getElem_cons_zero, List.getElem_cons_succ]; omega
  have hf : fitB ((nums h)[k]'(by exact hk)) 4 = true := fit_iff.2 (fits4 bd)
  have hl : (pref h.v ++ lay4s ((nums h).take k)).length < 2000000000000 := by
    rw [List.length_append, lay4s_len, List.length_take]
    have : (pref h.v).length = 20 := rfl
    omega
  refine (put_at _ v _ 4 W ⟨by omega, by omega⟩ ⟨by decide, by decide⟩ (own_by ho).rd hl).mono ?_
  rintro e w' ⟨v', rfl, ho', hb'⟩
  rw [put_yes hf] at ho'
  refine ⟨v', by rw [hf], ?_, btr hb hb'⟩
  rw [List.take_succ_eq_append_getElem hk', lay4s_snoc, ← List.append_assoc]
  exact own_mono ho' hb.size
theorem ix6 (h : Hd) (k : Nat) (hk : k < 6) (W : World) : (Instr.index 37 (.agg #[.int .i64 h.ut, .int .i64 h.sd, .int .i64 h.lp, .int .i64 h.tm, .int .i64 h.ty, .int .i64 h.ch]) (.int .i64 (k : Nat))).run Try.prog W = .ok (.int .i64 ((nums h)[k]'(by exact hk))) W := by
  obtain rfl | rfl | rfl | rfl | rfl | rfl : k = 0 ∨ k = 1 ∨ k = 2 ∨ k = 3 ∨ k = 4 ∨ k = 5 := by omega
  all_goals kernel_rfl
/-- at the head of a round. -/
def EHead (h : Hd) (w : World) (b i : Value) (W : World) : Prop :=
  ∃ (k : Nat) (v : Value), k ≤ 6 ∧ i = .int .i64 (k : Nat) ∧ v = b ∧ Own w.heap.size W v (pref h.v ++ lay4s ((nums h).take k)) ∧ Below w.heap.size w W
set_option maxHeartbeats 4000000 in
theorem encode_at (h : Hd) (w : World) : Calls Try.prog 9 #[(.agg #[.int .i64 h.v, .int .i64 h.ut, .int .i64 h.sd, .int .i64 h.lp, .int .i64 h.tm, .int .i64 h.ty, .int .i64 h.ch])] w (EncTold w h) := by
  have R := Lib.hid (fun w => right_at h w)
  have T := box_tells h w
  by_cases hok : okB h = true
  · have HK := ok_iff.1 hok
    have VB := Lib.hid (fun w => vbyte_at h.v HK.1 w)
    rw [hok] at R
    have MK := fun W => make20 W
    have CP := fun W => copy20 W
    go_enter Try.func9, Try.ntmps9
    go_wp2_with (first
      | (go_at_call 13; (with_reducible refine (R.out _).mono ?_); rintro e w1 ⟨rfl, hb1⟩; obtain ⟨c0, c1, c2, c3, c4, c5, c6, hb2, hs1⟩ := T.out _ hb1; have HB := Lib.hid hb2; clear hb1 hb2)
      | (go_at_call 17; (with_reducible refine (VB.out _).mono ?_); rintro e w1 ⟨rfl, rfl⟩))
    have HO : Hid (Own w.heap.size _ _ (pref h.v ++ lay4s ((nums h).take 0))) := Lib.hid (own_lit w.heap.size w1 #[.int .u8 84, .int .u8 90, .int .u8 105, .int .u8 102, .int .u8 (vb h.v : Nat), .int .u8 0, .int .u8 0, .int .u8 0, .int .u8 0, .int .u8 0, .int .u8 0, .int .u8 0, .int .u8 0, .int .u8 0, .int .u8 0, .int .u8 0, .int .u8 0, .int .u8 0, .int .u8 0, .int .u8 0] (pref h.v ++ lay4s []) (Nat.le_of_lt hs1) rfl (show 20 < 1000 by decide))
    have HB2 := Lib.hid (bal HB.out (.cells #[.int .u8 84, .int .u8 90, .int .u8 105, .int .u8 102, .int .u8 (vb h.v : Nat), .int .u8 0, .int .u8 0, .int .u8 0, .int .u8 0, .int .u8 0, .int .u8 0, .int .u8 0, .int .u8 0, .int .u8 0, .int .u8 0, .int .u8 0, .int .u8 0, .int .u8 0, .int .u8 0, .int .u8 0] 5))
    clear c0 c1 c2 c3 c4 c5 c6 MK CP hs1
    go_loopw [4, 31] (fun b i W => EHead h w b i W) (fun _ i _ => 6 - (intOf i).toNat)
    case atStart => exact ⟨0, _, by decide, rfl, rfl, HO.out, HB2.out⟩
    case round =>
      obtain ⟨k, v, hk, rfl, rfl, ho, hb⟩ := hrel
      by_cases hlt : k < 6
      · have PT := Lib.hid (put_one h HK k hlt w wr v ho hb)
        have RN : Hid (∀ v' w', Own w.heap.size w' v' (pref h.v ++ lay4s ((nums h).take (k + 1))) → Below w.heap.size w w' → EHead h w v' (.int .i64 ((k : Int) + 1)) w') := Lib.hid fun v' w' a b => ⟨k + 1, v', by omega, rfl, rfl, a, b⟩
        have IX := fun W => ix6 h k hlt W
        clear ho hb hk
        generalize (nums h)[k]'(by exact hlt) = n at *
        go_wp2_with (go_at_call 18; (with_reducible refine PT.out.mono ?_); rintro e w2 ⟨v2, rfl, ho2, hb2⟩; have RD := Lib.hid (RN.out _ _ ho2 hb2); clear ho2 hb2)
        exact ⟨RD.out, by simp [intOf]; omega⟩
      · obtain rfl : k = 6 := by omega
        have HO6 : Hid (Own w.heap.size wr v (enc h)) := Lib.hid (by rw [enc_yes hok]; exact ho)
        have HB6 := Lib.hid hb
        clear ho hb hk hlt
        go_wp2
        go_ret2
        exact ⟨v, by rw [hok]; rfl, HO6.out, HB6.out⟩
  · have hok' : okB h = false := by simpa using hok
    rw [hok'] at R
    have Q : Hid (∀ w', Below w.heap.size w w' → EncTold w h (.returned (.tuple #[.slice none 0 0, .bool false])) w') := Lib.hid fun w' hb => ⟨_, by rw [hok'], by rw [enc_no hok']; exact own_none _ _, hb⟩
    clear hok hok'
    obtain ⟨v, ut, sd, lp, tm, ty, ch⟩ := h
    simp only at *
    go_enter Try.func9, Try.ntmps9
    go_wp2_with (go_at_call 13; (with_reducible refine (R.out _).mono ?_); rintro e w1 ⟨rfl, hb1⟩; obtain ⟨c0, c1, c2, c3, c4, c5, c6, hb2, hs1⟩ := T.out _ hb1; have HB := Lib.hid hb2; clear hb1 hb2)
    go_ret2
    exact Q.out _ HB.out
end Go.Proofs.Ytkbpmopnphcfjaa.head
