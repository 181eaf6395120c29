/-
  What package octet's functions answer: numbers as bytes, and readers of bytes. Conditions: the slices that are handed in read as bytes; readers are such as Open made.
-/
import Derived.Test.YtkdmecpelfcbmaaOctMem
import Derived.WalkSmall
import Derived.Deep.QuietTactic
namespace Go.Proofs.Ytkdmecpelfcbmaa.oct
open Go.ChangeShapes Go.WideShapes Go.ChangeAt Go.RowKit
open om mem
set_option linter.unusedVariables false
set_option maxRecDepth 100000

def I64 (n : Int) : Prop := -9223372036854775808 ≤ n ∧ n ≤ 9223372036854775807
theorem ret_b {b c : Bool} (h : b = c) : Ending.returned (.bool b) = .returned (.bool c) := by rw [h]
set_option maxHeartbeats 1000000 in
theorem fits_at (n z : Int) (w : World) (hn : I64 n) (hz : I64 z) : Calls Try.prog 66 #[.int .i64 n, .int .i64 z] w fun e w' => e = .returned (.bool (fitB n z)) ∧ w = w' := by
  obtain ⟨n1, n2⟩ := hn
  obtain ⟨z1, z2⟩ := hz
  by_cases h1 : z = 1
  · subst h1
    have t : fitB n 1 = (n == n % 256) := by
      by_cases h : 0 ≤ n ∧ n ≤ 255
      · rw [show fitB n 1 = true by rw [fit_iff]; unfold Fits; omega]; symm; simp; omega
      · rw [show fitB n 1 = false by rw [fit_no]; unfold Fits; omega]; symm; simp; omega
    rw [t]
    clear t
    go_enter Try.func66, Try.ntmps66
    go_wp2
    go_ret
    exact ⟨rfl, rfl⟩
  · by_cases h4 : z = 4
    · subst h4
      have t : fitB n 4 = (n == IntKind.i32.wrap n) := by
        by_cases h : -2147483648 ≤ n ∧ n ≤ 2147483647
        · rw [show fitB n 4 = true by rw [fit_iff]; unfold Fits; omega]; symm; rw [IntKind.wrap_i32]; simp; omega
        · rw [show fitB n 4 = false by rw [fit_no]; unfold Fits; omega]; symm; rw [IntKind.wrap_i32]; simp; omega
      rw [t]
      clear t h1
      go_enter Try.func66, Try.ntmps66
      go_wp2
      all_goals go_ret
      all_goals first | exact ⟨rfl, rfl⟩ | exact ⟨ret_b (by rw [show wrap64 (wrap32 n) = IntKind.i32.wrap n by rw [IntWalk.i32_left, IntWalk.wrap64_in]; rw [← IntWalk.i32_left, IntKind.wrap_i32]; omega]), rfl⟩
    · by_cases h8 : z = 8
      · subst h8
        rw [show fitB n 8 = true by rw [fit_iff]; unfold Fits; omega]
        go_enter Try.func66, Try.ntmps66
        go_wp2
        go_ret
        exact ⟨rfl, rfl⟩
      · rw [show fitB n z = false by rw [fit_no]; unfold Fits; omega]
        have t1 : (z == 1) = false := by simpa using h1
        have t4 : (z == 4) = false := by simpa using h4
        have t8 : (z == 8) = false := by simpa using h8
        clear h1 h4 h8
        go_enter Try.func66, Try.ntmps66
        go_wp2
        go_ret
        exact ⟨rfl, rfl⟩
set_option maxHeartbeats 1000000 in
theorem isSize_at (z : Int) (w : World) (hz : I64 z) : Calls Try.prog 60 #[.int .i64 z] w fun e w' => e = .returned (.bool (fitB 0 z)) ∧ w = w' := by
  have C := Lib.hid (fun w => fits_at 0 z w ⟨by decide, by decide⟩ hz)
  obtain ⟨z1, z2⟩ := hz
  go_enter Try.func60, Try.ntmps60
  go_wp2_with (first
    | (go_at_call 66; (with_reducible refine (C.out _).mono ?_; rintro e w' ⟨rfl, rfl⟩)))
  go_ret
  exact ⟨rfl, rfl⟩
/-- new bytes. -/
def NewBy (w : World) (l : List Nat) (e : Ending) (w' : World) : Prop := ∃ v', e = .returned v' ∧ Own w.heap.size w' v' l ∧ Below w.heap.size w w'
set_option maxHeartbeats 1000000 in
theorem copied_at (l : List Nat) (v : Value) (more : Nat) (z : Int) (w : World) (hz : z = (more : Nat)) (h : RdW w v l) (hn : l.length + more < 4000000000000) : Calls Try.prog 52 #[v, .int .i64 z] w (NewBy w l) := by
  subst hz
  obtain ⟨A, cap, rfl, hc, hA⟩ := id h
  have hmk := make_run w (l.length + more) ((l.length : Int) + (more : Int)) (by omega) (by omega)
  have hown := Lib.hid (make_own w (l.length + more) (by omega))
  have hr := Lib.hid (h.below (bal (Below.refl w.heap.size w) (.cells (madeCells #[.int .u8 0] (l.length + more)) 5)))
  have hb := bal (Below.refl w.heap.size w) (.cells (madeCells #[.int .u8 0] (l.length + more)) 5)
  have hbs := hb.size
  have HL : Hid (l.length < 4000000000000) := Lib.hid (by omega)
  clear h hA hc
  generalize hN : l.length = N at *
  have HN := Lib.hid hN
  clear hN
  go_enter Try.func52, Try.ntmps52
  go_wp2_with (at_builtin; refine app_any rfl _ _ rfl w.heap.size (w.alloc (.cells (madeCells #[.int .u8 0] (N + more)) 5)) (.slice (some ⟨w.heap.size, 0, none⟩) 0 (N + more)) (.slice A N cap) [] l rfl rfl hown.out hr.out (by rw [HN.out]; have := HL.out; simp; omega) hbs ?_; intro v' w' ho' hg)
  go_ret
  exact ⟨_, rfl, ho', own_below hown.out hb hbs hg⟩
/-- bytes behind those of a row of the call's own. -/
def LaidBy (base : Nat) (W0 : World) (l : List Nat) (e : Ending) (w' : World) : Prop := ∃ v', e = .returned v' ∧ Own base w' v' l ∧ Below base W0 w'
theorem lay1 (n : Int) : lay n 1 = [(n % 256).toNat] := by simp [lay]
theorem lay4 (n : Int) : lay n 4 = [(n / 16777216 % 256).toNat, (n / 65536 % 256).toNat, (n / 256 % 256).toNat] ++ [(n % 256).toNat] := by simp [lay]
theorem lay8 (n : Int) : lay n 8 = [(n / 72057594037927936 % 256).toNat, (n / 281474976710656 % 256).toNat, (n / 1099511627776 % 256).toNat, (n / 4294967296 % 256).toNat] ++ ([(n / 16777216 % 256).toNat, (n / 65536 % 256).toNat, (n / 256 % 256).toNat] ++ [(n % 256).toNat]) := by simp [lay]
theorem u8v (x : Int) : Value.int .u8 (((x % 256).toNat : Nat) : Int) = .int .u8 (x % 256) := by congr 1; omega
set_option maxHeartbeats 2000000 in
theorem laid_at (l : List Nat) (v : Value) (n z : Int) (base : Nat) (W0 w : World) (hn : I64 n) (hz : Sz z) (ho : Own base w v l) (hb : Below base W0 w) (hbs : base ≤ w.heap.size) (hl : l.length < 4000000000000) :
    Calls Try.prog 67 #[v, .int .i64 n, .int .i64 z] w (LaidBy base W0 (l ++ lay n z.toNat)) := by
  obtain ⟨n1, n2⟩ := hn
  have HO := Lib.hid ho
  have HB := Lib.hid hb
  have HS := Lib.hid hbs
  have HL := Lib.hid hl
  clear ho hb hbs hl
  have b0 : 0 ≤ n % 256 ∧ n % 256 < 256 := by omega
  rcases hz with rfl | rfl | rfl
  · rw [show (1 : Int).toNat = 1 from rfl, lay1]
    go_enter Try.func67, Try.ntmps67
    go_wp2_with (first
      | (at_builtin; refine app_lit rfl _ _ rfl base w v (l) [(n % 256).toNat] #[.int .u8 (n % 256)] 1 rfl (by simp only [bc, List.map, u8v]) rfl rfl HO.out (by have := HL.out; simp; omega) HS.out ?_; intro v1 w1 ho1 hg1; have HB1 := Lib.hid (own_below HO.out HB.out HS.out hg1); have HS1 := Lib.hid (Nat.le_trans HS.out hg1.size); have HO1 := Lib.hid ho1; clear hg1 ho1))
    go_ret
    exact ⟨_, rfl, HO1.out, HB1.out⟩
  · rw [show (4 : Int).toNat = 4 from rfl, lay4, ← List.append_assoc]
    go_enter Try.func67, Try.ntmps67
    go_wp2_with (first
      | (at_builtin; refine app_lit rfl _ _ rfl base w1 v1 (l ++ [(n / 16777216 % 256).toNat, (n / 65536 % 256).toNat, (n / 256 % 256).toNat]) [(n % 256).toNat] #[.int .u8 (n % 256)] 1 rfl (by simp only [bc, List.map, u8v]) rfl rfl HO1.out (by have := HL.out; simp; omega) HS1.out ?_; intro v2 w2 ho2 hg2; have HB2 := Lib.hid (own_below HO1.out HB1.out HS1.out hg2); have HS2 := Lib.hid (Nat.le_trans HS1.out hg2.size); have HO2 := Lib.hid ho2; clear hg2 ho2)
      | (at_builtin; refine app_lit rfl _ _ rfl base w v (l) [(n / 16777216 % 256).toNat, (n / 65536 % 256).toNat, (n / 256 % 256).toNat] #[.int .u8 (n / 16777216 % 256), .int .u8 (n / 65536 % 256), .int .u8 (n / 256 % 256)] 3 rfl (by simp only [bc, List.map, u8v]) rfl rfl HO.out (by have := HL.out; simp; omega) HS.out ?_; intro v1 w1 ho1 hg1; have HB1 := Lib.hid (own_below HO.out HB.out HS.out hg1); have HS1 := Lib.hid (Nat.le_trans HS.out hg1.size); have HO1 := Lib.hid ho1; clear hg1 ho1))
    go_ret
    exact ⟨_, rfl, HO2.out, HB2.out⟩
  · rw [show (8 : Int).toNat = 8 from rfl, lay8, ← List.append_assoc, ← List.append_assoc]
    go_enter Try.func67, Try.ntmps67
    go_wp2_with (first
      | (at_builtin; refine app_lit rfl _ _ rfl base w2 v2 (l ++ [(n / 72057594037927936 % 256).toNat, (n / 281474976710656 % 256).toNat, (n / 1099511627776 % 256).toNat, (n / 4294967296 % 256).toNat] ++ [(n / 16777216 % 256).toNat, (n / 65536 % 256).toNat, (n / 256 % 256).toNat]) [(n % 256).toNat] #[.int .u8 (n % 256)] 1 rfl (by simp only [bc, List.map, u8v]) rfl rfl HO2.out (by have := HL.out; simp; omega) HS2.out ?_; intro v3 w3 ho3 hg3; have HB3 := Lib.hid (own_below HO2.out HB2.out HS2.out hg3); have HS3 := Lib.hid (Nat.le_trans HS2.out hg3.size); have HO3 := Lib.hid ho3; clear hg3 ho3)
      | (at_builtin; refine app_lit rfl _ _ rfl base w1 v1 (l ++ [(n / 72057594037927936 % 256).toNat, (n / 281474976710656 % 256).toNat, (n / 1099511627776 % 256).toNat, (n / 4294967296 % 256).toNat]) [(n / 16777216 % 256).toNat, (n / 65536 % 256).toNat, (n / 256 % 256).toNat] #[.int .u8 (n / 16777216 % 256), .int .u8 (n / 65536 % 256), .int .u8 (n / 256 % 256)] 3 rfl (by simp only [bc, List.map, u8v]) rfl rfl HO1.out (by have := HL.out; simp; omega) HS1.out ?_; intro v2 w2 ho2 hg2; have HB2 := Lib.hid (own_below HO1.out HB1.out HS1.out hg2); have HS2 := Lib.hid (Nat.le_trans HS1.out hg2.size); have HO2 := Lib.hid ho2; clear hg2 ho2)
      | (at_builtin; refine app_lit rfl _ _ rfl base w v (l) [(n / 72057594037927936 % 256).toNat, (n / 281474976710656 % 256).toNat, (n / 1099511627776 % 256).toNat, (n / 4294967296 % 256).toNat] #[.int .u8 (n / 72057594037927936 % 256), .int .u8 (n / 281474976710656 % 256), .int .u8 (n / 1099511627776 % 256), .int .u8 (n / 4294967296 % 256)] 4 rfl (by simp only [bc, List.map, u8v]) rfl rfl HO.out (by have := HL.out; simp; omega) HS.out ?_; intro v1 w1 ho1 hg1; have HB1 := Lib.hid (own_below HO.out HB.out HS.out hg1); have HS1 := Lib.hid (Nat.le_trans HS.out hg1.size); have HO1 := Lib.hid ho1; clear hg1 ho1))
    go_ret
    exact ⟨_, rfl, HO3.out, HB3.out⟩
/-- what Put answers. -/
def put (l : List Nat) (n z : Int) : List Nat := if fitB n z = true then l ++ lay n z.toNat else l
theorem put_yes {l : List Nat} {n z : Int} (h : fitB n z = true) : put l n z = l ++ lay n z.toNat := if_pos h
theorem put_no {l : List Nat} {n z : Int} (h : fitB n z = false) : put l n z = l := if_neg (by rw [h]; decide)
def PutTold (w : World) (l : List Nat) (n z : Int) (e : Ending) (w' : World) : Prop := ∃ v', e = .returned (.tuple #[v', .bool (fitB n z)]) ∧ Own w.heap.size w' v' (put l n z) ∧ Below w.heap.size w w'
set_option maxHeartbeats 1000000 in
theorem put_at (l : List Nat) (v : Value) (n z : Int) (w : World) (hn : I64 n) (hz : I64 z) (h : RdW w v l) (hl : l.length < 2000000000000) : Calls Try.prog 59 #[v, .int .i64 n, .int .i64 z] w (PutTold w l n z) := by
  have C := Lib.hid (fun w => fits_at n z w hn hz)
  by_cases hf : fitB n z = true
  · have hs := fit_sz (fit_iff.1 hf)
    have hz0 : (z.toNat : Int) = z := by unfold Sz at hs; omega
    have hz8 : z.toNat ≤ 8 := by unfold Sz at hs; omega
    have D := Lib.hid (copied_at l v z.toNat z w hz0.symm h (by omega))
    have E := Lib.hid (fun v1 w1 (ho : Own w.heap.size w1 v1 l) (hb : Below w.heap.size w w1) => laid_at l v1 n z w.heap.size w w1 hn hs ho hb hb.size (by omega))
    have Q : Hid (∀ v' w', Own w.heap.size w' v' (l ++ lay n z.toNat) → Below w.heap.size w w' → PutTold w l n z (.returned (.tuple #[v', .bool true])) w') := Lib.hid fun v' w' ho hb => ⟨v', by rw [hf], by rw [put_yes hf]; exact ho, hb⟩
    rw [hf] at C
    clear hz0 hz8 hs hf hl h hz hn
    go_enter Try.func59, Try.ntmps59
    go_wp2_with (first
      | (go_at_call 66; (with_reducible refine (C.out _).mono ?_); rintro e w1 ⟨rfl, rfl⟩)
      | (go_at_call 52; (with_reducible refine D.out.mono ?_); rintro e w1 ⟨v1, rfl, ho1, hb1⟩; have HO1 := Lib.hid ho1; have HB1 := Lib.hid hb1; clear ho1 hb1)
      | (go_at_call 67; (with_reducible refine (E.out _ _ HO1.out HB1.out).mono ?_); rintro e w2 ⟨v2, rfl, ho2, hb2⟩; have HO2 := Lib.hid ho2; have HB2 := Lib.hid hb2; clear ho2 hb2))
    go_ret2
    exact Q.out _ _ HO2.out HB2.out
  · have hf' : fitB n z = false := by simpa using hf
    have D := Lib.hid (copied_at l v 0 0 w rfl h (by omega))
    have Q : Hid (∀ v' w', Own w.heap.size w' v' l → Below w.heap.size w w' → PutTold w l n z (.returned (.tuple #[v', .bool false])) w') := Lib.hid fun v' w' ho hb => ⟨v', by rw [hf'], by rw [put_no hf']; exact ho, hb⟩
    rw [hf'] at C
    clear hf hf' hl h hz hn
    go_enter Try.func59, Try.ntmps59
    go_wp2_with (first
      | (go_at_call 66; (with_reducible refine (C.out _).mono ?_); rintro e w1 ⟨rfl, rfl⟩)
      | (go_at_call 52; (with_reducible refine D.out.mono ?_); rintro e w1 ⟨v1, rfl, ho1, hb1⟩; have HO1 := Lib.hid ho1; have HB1 := Lib.hid hb1; clear ho1 hb1))
    go_ret2
    exact Q.out _ _ HO1.out HB1.out
end Go.Proofs.Ytkdmecpelfcbmaa.oct
