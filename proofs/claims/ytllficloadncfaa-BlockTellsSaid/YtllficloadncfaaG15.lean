/-
  What giveNames answers. Conditions: the rows are the call's own; MaxLen holds a number.
-/
import Derived.Test.YtllficloadncfaaG14
namespace Go.Proofs.Ytllficloadncfaa.blk
open Go.ChangeShapes Go.WideShapes Go.ChangeAt Go.RowKit
open om mem oct bk
set_option linter.unusedVariables false
set_option maxRecDepth 100000

def nmAt (s : ByteArray) (q : Nat → Int) (k : Nat) : ByteArray := lx.B (ab.aS (lx.L s) (q k))
def isAt (s : ByteArray) (q : Nat → Int) (k : Nat) : Bool := ab.aB (lx.L s) (q k)
def isAll (s : ByteArray) (q : Nat → Int) (n : Nat) : Bool := (List.range n).all (isAt s q)
theorem isAll_no {s : ByteArray} {q : Nat → Int} {n k : Nat} (hk : k < n) (h : isAt s q k = false) : isAll s q n = false := by
  rw [Bool.eq_false_iff]
  intro e
  unfold isAll at e
  rw [List.all_eq_true] at e
  have := e k (List.mem_range.2 hk)
  rw [h] at this
  cases this
theorem isAll_yes {s : ByteArray} {q : Nat → Int} {n : Nat} (h : ∀ k, k < n → isAt s q k = true) : isAll s q n = true := by
  unfold isAll
  rw [List.all_eq_true]
  exact fun k hk => h k (List.mem_range.1 hk)
structure GS (o : Nat → Int) (d : Nat → Bool) (s : ByteArray) (q : Nat → Int) (n mk mp : Nat) (W0 : World) (j : Nat) (W : World) : Prop where
  rk : Row W mk 41 (n * 3) (tyF o d (ug ⟨#[]⟩ (nmAt s q) j))
  rp : Row W mp 3 n (fun i => .int .i64 (q i))
  keep : Keep mk W0 W
theorem GS.below {o : Nat → Int} {d : Nat → Bool} {s : ByteArray} {q : Nat → Int} {n mk mp : Nat} {W0 : World} {j : Nat} {W W' : World} (h : GS o d s q n mk mp W0 j W) (hb : Below W.heap.size W W') : GS o d s q n mk mp W0 j W' :=
  ⟨row_below h.rk hb, row_below h.rp hb, h.keep.below hb⟩
theorem GS.set {o : Nat → Int} {d : Nat → Bool} {s : ByteArray} {q : Nat → Int} {n mk mp : Nat} {W0 : World} {j : Nat} {W : World} (h : GS o d s q n mk mp W0 j W) (hne : mk ≠ mp) : GS o d s q n mk mp W0 (j + 1) (W.setCell ⟨mk, j * 3 + 2, none⟩ (.string (nmAt s q j))) :=
  ⟨(h.rk.set _ _).congr (fun i _ => tset2 _ _ _ _ i), h.rp.setOther (fun e => hne e.symm) _, h.keep.setCell _ _⟩
def GHead (o : Nat → Int) (d : Nat → Bool) (s : ByteArray) (q : Nat → Int) (n mk mp : Nat) (W0 : World) (i : Value) (W : World) : Prop :=
  ∃ j : Nat, j ≤ n ∧ i = .int .i64 (j : Nat) ∧ (∀ k, k < j → isAt s q k = true) ∧ GS o d s q n mk mp W0 j W
def GTold (o : Nat → Int) (d : Nat → Bool) (s : ByteArray) (q : Nat → Int) (n mk : Nat) (W0 : World) (e : Ending) (w' : World) : Prop :=
  e = .returned (.bool (isAll s q n)) ∧ Keep mk W0 w' ∧ (isAll s q n = true → Row w' mk 41 (n * 3) (tyF o d (nmAt s q)))
set_option maxHeartbeats 4000000 in
theorem give_at (o : Nat → Int) (d : Nat → Bool) (s : ByteArray) (q : Nat → Int) (n mk mp : Nat) (W0 : World) (hk : Row W0 mk 41 (n * 3) (tyF o d (fun _ => ⟨#[]⟩))) (hp : Row W0 mp 3 n (fun i => .int .i64 (q i))) (hne : mk ≠ mp) (hs : s.size < 4294967281) (hq : ∀ k, k < n → -9223372036854775808 ≤ q k ∧ q k ≤ 9223372036854775807) (hn : n < 1000000) (T : ∀ W, Keep mk W0 W → lines.ML W) :
    Calls Try.prog 27 #[.slice (some ⟨mk, 0, none⟩) n n, .slice (some ⟨mp, 0, none⟩) n n, .string s] W0 (GTold o d s q n mk W0) := by
  have S0 : Hid (GS o d s q n mk mp W0 0 W0) := Lib.hid ⟨hk.congr (fun i _ => by unfold ug; simp), hp, Keep.refl _ _⟩
  have T := Lib.hid T
  clear hk hp
  go_enter Try.func27, Try.ntmps27
  go_wp2
  go_loopw [12] (fun i W => GHead o d s q n mk mp W0 i W) (fun i _ => n - (intOf i).toNat)
  case atStart => exact ⟨0, Nat.zero_le _, rfl, fun k h => by omega, S0.out⟩
  case round =>
    obtain ⟨j, hj, rfl, hok, ks⟩ := hrel
    by_cases hlt : j < n
    · have c0 := ks.rp.cell (i := j) hlt
      have AT : Hid (Calls Try.prog 51 #[.string s, .int .i64 (q j)] wr fun e w' => e = .returned (.tuple #[.string (nmAt s q j), .bool (isAt s q j)]) ∧ Below wr.heap.size wr w') := Lib.hid (abr.at_at s (q j) (hq j hlt) wr (T.out _ ks.keep) hs)
      have KB := Lib.hid (fun w1 (hb : Below wr.heap.size wr w1) => ks.below hb)
      have Z := Lib.hid (fun w1 (h : GS o d s q n mk mp W0 j w1) => (⟨h.rk.cell (i := j * 3 + 2) (by omega), h.rk.frozen (j * 3 + 2), h.set hne⟩ : w1.cell? ⟨mk, j * 3 + 2, none⟩ = some _ ∧ w1.frozen? ⟨mk, j * 3 + 2, none⟩ = false ∧ GS o d s q n mk mp W0 (j + 1) (w1.setCell ⟨mk, j * 3 + 2, none⟩ (.string (nmAt s q j)))))
      cases hm : isAt s q j with
      | true =>
        rw [hm] at AT
        have E := Lib.hid (fun W' (h : GS o d s q n mk mp W0 (j + 1) W') => (⟨j + 1, hlt, rfl, fun k hk => (Nat.lt_succ_iff_lt_or_eq.1 hk).elim (hok k) (fun e => e ▸ hm), h⟩ : GHead o d s q n mk mp W0 (.int .i64 ((j : Int) + 1)) W'))
        clear hok ks hm S0 hq T
        generalize nmAt s q j = x at *
        generalize q j = y at *
        go_wp2_with (go_at_call 51; (with_reducible refine AT.out.mono ?_); rintro e w1 ⟨rfl, h1⟩; clear c0; obtain ⟨c0, f0, s1⟩ := Z.out _ (KB.out _ h1); have A1 := Lib.hid s1; clear h1 s1)
        go_roundw
        case rel => exact E.out _ A1.out
        case measure => simp [intOf]; omega
      | false =>
        rw [hm] at AT
        have E : Hid (∀ w', Below wr.heap.size wr w' → GTold o d s q n mk W0 (.returned (.bool false)) w') := Lib.hid fun w' hb => ⟨by rw [isAll_no hlt hm], ks.keep.below hb, fun h => by rw [isAll_no hlt hm] at h; cases h⟩
        clear hok ks hm S0 hq T
        generalize nmAt s q j = x at *
        generalize q j = y at *
        go_wp2_with (go_at_call 51; (with_reducible refine AT.out.mono ?_); rintro e w1 ⟨rfl, h1⟩; have HB := Lib.hid h1; clear h1)
        go_ret
        exact E.out _ HB.out
    · obtain rfl : j = n := by omega
      have E : Hid (GTold o d s q j mk W0 (.returned (.bool true)) wr) := Lib.hid ⟨by rw [isAll_yes hok], ks.keep, fun _ => ks.rk.congr (fun i hi => by unfold tyF; rw [ug_all _ _ (by omega)])⟩
      clear hok ks S0 hq T
      go_wp2
      go_ret
      exact E.out
end Go.Proofs.Ytllficloadncfaa.blk
