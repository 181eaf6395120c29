/-
  What the document's own answers of layer 13 are: numbers as bytes, and readers of bytes. Conditions: the slices that are handed in read as bytes; readers are such as its Open made.
-/
import Derived.Test.YtllficloadncfaaG07
import Derived.Test.YtllficloadncfaaG08
namespace Go.Proofs.Ytllficloadncfaa.ref13
open Go.ChangeShapes Go.WideShapes Go.ChangeAt Go.RowKit
open om mem oct
set_option linter.unusedVariables false
set_option maxRecDepth 100000

set_option maxHeartbeats 1000000 in
theorem fits_at (n z : Int) (w : World) (hn : I64 n) (hz : I64 z) : Calls Try.prog 47 #[.int .i64 n, .int .i64 z] w fun e w' => e = .returned (.bool (fitB n z)) ∧ w = w' := by
  obtain ⟨n1, n2⟩ := hn
  obtain ⟨z1, z2⟩ := hz
  by_cases h1 : z = 1
  · subst h1
    by_cases h0 : 0 ≤ n
    · have t : fitB n 1 = decide (n ≤ 255) := by
        rw [Bool.eq_iff_iff, fit_iff]; unfold Fits; simp; omega
      rw [t]
      clear t
      go_enter Try.func47, Try.ntmps47
      go_wp2
      go_ret
      exact ⟨rfl, rfl⟩
    · rw [show fitB n 1 = false by rw [fit_no]; unfold Fits; omega]
      go_enter Try.func47, Try.ntmps47
      go_wp2
      go_ret
      exact ⟨rfl, rfl⟩
  · by_cases h4 : z = 4
    · subst h4
      clear h1
      by_cases h0 : -2147483648 ≤ n
      · have t : fitB n 4 = decide (n < 2147483648) := by
          rw [Bool.eq_iff_iff, fit_iff]; unfold Fits; simp; omega
        rw [t]
        clear t
        go_enter Try.func47, Try.ntmps47
        go_wp2
        go_ret
        exact ⟨rfl, rfl⟩
      · rw [show fitB n 4 = false by rw [fit_no]; unfold Fits; omega]
        go_enter Try.func47, Try.ntmps47
        go_wp2
        go_ret
        exact ⟨rfl, rfl⟩
    · have t1 : (z == 1) = false := by simpa using h1
      have t4 : (z == 4) = false := by simpa using h4
      have t : fitB n z = (z == 8) := by
        rw [Bool.eq_iff_iff, fit_iff]; unfold Fits; simp; omega
      rw [t]
      clear h1 h4 t
      go_enter Try.func47, Try.ntmps47
      go_wp2
      go_ret
      exact ⟨rfl, rfl⟩
theorem own_empty (W : World) : Own W.heap.size (W.alloc (.cells #[] 5)) (.slice (some ⟨W.heap.size, 0, none⟩) 0 0) [] := own_lit W.heap.size W #[] [] (Nat.le_refl _) rfl (by decide)
def PHead (l : List Nat) (n : Int) (S : Nat) (w : World) (t i : Value) (W : World) : Prop :=
  ∃ (j : Nat) (m : List Nat) (v : Value), m ++ lay n j = lay n S ∧ j ≤ S ∧ m.length ≤ S ∧ i = .int .i64 ((j : Int) - 1) ∧ v = t ∧ Own w.heap.size W v (l ++ m) ∧ Below w.heap.size w W
theorem pow_256 (j : Nat) : (2 : Int) ^ (8 * j) = 256 ^ j := by rw [Int.pow_mul]; rfl
set_option maxHeartbeats 4000000 in
theorem put_at (l : List Nat) (v : Value) (n z : Int) (w : World) (hn : I64 n) (hz : I64 z) (h : RdW w v l) (hl : l.length < 2000000000000) : Calls Try.prog 23 #[v, .int .i64 n, .int .i64 z] w (PutTold w l n z) := by
  have C := Lib.hid (fun w => fits_at n z w hn hz)
  obtain ⟨A, cap, e, hc, y1, y2⟩ := id h
  clear y1 y2
  subst e
  have HR := Lib.hid (h.below (bal (Below.refl w.heap.size w) (.cells #[] 5)))
  have HE := Lib.hid (own_empty w)
  have hb := bal (Below.refl w.heap.size w) (.cells #[] 5)
  have HB := Lib.hid hb
  have HS := Lib.hid hb.size
  have HL := Lib.hid hl
  obtain ⟨n1, n2⟩ := hn
  obtain ⟨z1, z2⟩ := hz
  clear hl hb h hc
  generalize hN : l.length = N at *
  have HN := Lib.hid hN
  clear hN
  by_cases hf : fitB n z = true
  · have hs := fit_sz (fit_iff.1 hf)
    obtain ⟨S, rfl⟩ : ∃ S : Nat, z = S := ⟨z.toNat, by unfold Sz at hs; omega⟩
    have hS : 1 ≤ S ∧ S ≤ 8 := by unfold Sz at hs; omega
    have Q : Hid (∀ v' w', Own w.heap.size w' v' (l ++ lay n S) → Below w.heap.size w w' → PutTold w l n S (.returned (.tuple #[v', .bool true])) w') := Lib.hid fun v' w' ho hb => ⟨v', by rw [hf], by rw [put_yes hf]; exact ho, hb⟩
    obtain ⟨s1, s2⟩ := hS
    rw [hf] at C
    clear hf hs
    go_enter Try.func23, Try.ntmps23
    go_wp2_with (first
      | (go_at_call 47; (with_reducible refine (C.out _).mono ?_); rintro e w2 ⟨rfl, rfl⟩)
      | (at_builtin; refine app_any rfl _ _ rfl w.heap.size (w.alloc (.cells #[] 5)) (.slice (some ⟨w.heap.size, 0, none⟩) 0 0) (.slice A N cap) [] l rfl rfl HE.out HR.out (by rw [HN.out]; have := HL.out; simp; omega) HS.out ?_; intro v1 w1 ho1 hg1; have HO1 := Lib.hid ho1; have HB1 := Lib.hid (own_below HE.out HB.out HS.out hg1); clear ho1 hg1))
    go_loopw [8, 9] (fun t i W => PHead l n S w t i W) (fun _ i _ => (intOf i + 1).toNat)
    case atStart => exact ⟨S, [], v1, rfl, Nat.le_refl _, by simp, rfl, rfl, by rw [List.append_nil]; exact HO1.out, HB1.out⟩
    case round =>
      obtain ⟨j, m, v, hm, hj, hml, rfl, rfl, ho, hb⟩ := hrel
      have HO := Lib.hid ho
      have HBB := Lib.hid hb
      clear ho hb
      by_cases h0 : j = 0
      · subst h0
        rw [lay, List.append_nil] at hm
        subst hm
        go_wp2
        go_ret2
        exact Q.out _ _ HO.out HBB.out
      · obtain ⟨i, rfl⟩ : ∃ i, j = i + 1 := ⟨j - 1, by omega⟩
        rw [show (((i + 1 : Nat) : Int) - 1) = (i : Int) by omega]
        have hd : n / 2 ^ (8 * i) % 256 = ((n / 256 ^ i % 256).toNat : Int) := by rw [pow_256]; omega
        have hx : 0 ≤ n / 2 ^ (8 * i) % 256 ∧ n / 2 ^ (8 * i) % 256 < 256 := by omega
        have HM : Hid ((m ++ [(n / 256 ^ i % 256).toNat]) ++ lay n i = lay n S) := Lib.hid (by rw [← hm, lay, List.append_assoc]; rfl)
        have HML := Lib.hid hml
        clear hm hml hx
        generalize (n / 256 ^ i % 256).toNat = c at *
        go_wp2_with (at_builtin; refine app_lit rfl _ _ rfl w.heap.size wr v (l ++ m) [c] #[.int .u8 (c : Nat)] 1 rfl rfl rfl rfl HO.out (by have := HL.out; have := HML.out; have := HN.out; simp only [List.length_append, List.length_cons, List.length_nil]; omega) HBB.out.size ?_; intro v2 w2 ho2 hg2; have HO2 := Lib.hid ho2; have HB2 := Lib.hid (own_below HO.out HBB.out HBB.out.size hg2); clear ho2 hg2)
        go_roundw
        case rel => exact ⟨i, m ++ [c], v2, HM.out, by omega, by have := congrArg List.length HM.out; rw [List.length_append, lay_len, lay_len] at this; omega, rfl, rfl, by rw [← List.append_assoc]; exact HO2.out, HB2.out⟩
        case measure => simp [intOf]
  · have hf' : fitB n z = false := by simpa using hf
    have Q : Hid (∀ v' w', Own w.heap.size w' v' l → Below w.heap.size w w' → PutTold w l n z (.returned (.tuple #[v', .bool false])) w') := Lib.hid fun v' w' ho hb => ⟨v', by rw [hf'], by rw [put_no hf']; exact ho, hb⟩
    rw [hf'] at C
    clear hf hf'
    go_enter Try.func23, Try.ntmps23
    go_wp2_with (first
      | (go_at_call 47; (with_reducible refine (C.out _).mono ?_); rintro e w2 ⟨rfl, rfl⟩)
      | (at_builtin; refine app_any rfl _ _ rfl w.heap.size (w.alloc (.cells #[] 5)) (.slice (some ⟨w.heap.size, 0, none⟩) 0 0) (.slice A N cap) [] l rfl rfl HE.out HR.out (by rw [HN.out]; have := HL.out; simp; omega) HS.out ?_; intro v1 w1 ho1 hg1; have HO1 := Lib.hid ho1; have HB1 := Lib.hid (own_below HE.out HB.out HS.out hg1); clear ho1 hg1))
    go_ret2
    exact Q.out _ _ HO1.out HB1.out
end Go.Proofs.Ytllficloadncfaa.ref13

/-
  What the document's own readers of bytes answer, call by call. Conditions: the slices that are handed in read as bytes; readers are such as its Open made, and have nothing left where they have failed.
-/
namespace Go.Proofs.Ytllficloadncfaa.ref13
open Go.ChangeShapes Go.WideShapes Go.ChangeAt Go.RowKit
open om mem oct
set_option linter.unusedVariables false
set_option maxRecDepth 100000

set_option maxHeartbeats 1000000 in
theorem open_at (l : List Nat) (v : Value) (w : World) (h : RdW w v l) (hl : l.length < 2000000000000) : Calls Try.prog 32 #[v] w (OpenTold 98 w l) := by
  obtain ⟨A, cap, e, hc, y1, y2⟩ := id h
  clear y1 y2
  subst e
  have HR := Lib.hid (h.below (bal (Below.refl w.heap.size w) (.cells #[] 5)))
  have HE := Lib.hid (own_empty w)
  have hb := bal (Below.refl w.heap.size w) (.cells #[] 5)
  have HB := Lib.hid hb
  have HS := Lib.hid hb.size
  have HL := Lib.hid hl
  clear hl hb h hc
  generalize hN : l.length = N at *
  have HN := Lib.hid hN
  clear hN
  go_enter Try.func32, Try.ntmps32
  go_wp2_with (at_builtin; refine app_any rfl _ _ rfl w.heap.size (w.alloc (.cells #[] 5)) (.slice (some ⟨w.heap.size, 0, none⟩) 0 0) (.slice A N cap) [] l rfl rfl HE.out HR.out (by rw [HN.out]; have := HL.out; simp; omega) HS.out ?_; intro v1 w1 ho1 hg1; obtain ⟨A1, n1, c1, rfl⟩ := own_slice ho1; have R := Lib.hid (open_told (T := 98) ho1 (own_below HE.out HB.out HS.out hg1)); clear ho1 hg1)
  go_ret
  exact R.out
set_option maxHeartbeats 2000000 in
theorem take_at (lo hi : Nat) (W : World) (g : Nat) (l : List Nat) (f : Bool) (n : Int) (h : Rdr 98 lo hi W g l f) (hf : f = true → l = []) (hn : I64 n) (hl : l.length < 2000000000000) : Calls Try.prog 34 #[.pointer (some ⟨g, 0, none⟩), .int .i64 n] W (TakeTold 98 lo hi W g l f n) := by
  have hh := h
  obtain ⟨n1, n2⟩ := hn
  obtain ⟨h1, h2, v, hg, hby⟩ := h
  obtain ⟨A, cap, rfl, hc, hA, _⟩ := hby.rd
  have c0 : W.cell? ⟨g, 0, none⟩ = some (.slice A l.length cap) := row_cell hg 0
  have c1 : W.cell? ⟨g, 1, none⟩ = some (.bool f) := row_cell hg 1
  have f0 := fz hg 0
  have f1 := fz hg 1
  have RF : Hid (pre n l = [] → rst n l = [] → fl n l f = true → TakeTold 98 lo hi W g l f n (.returned (.slice none 0 0)) ((W.setCell ⟨g, 1, none⟩ (.bool true)).setCell ⟨g, 0, none⟩ (.slice none 0 0))) := Lib.hid (by
    intro e1 e2 e3
    have K := ((Keep.refl g W).setCell 1 (.bool true)).setCell 0 (.slice none 0 0)
    refine ⟨.slice none 0 0, rfl, ?_, ⟨h1, h2, .slice none 0 0, ?_, ?_⟩, K⟩
    · rw [e1]; exact own_none _ _
    · rw [e3]; exact set_cell0 (set_cell1 hg)
    · rw [e2]; exact Or.inl ⟨rfl, rfl⟩)
  by_cases hft : f = true
  · obtain rfl := hf hft
    subst hft
    have R := Lib.hid (RF.out (by unfold pre; split <;> simp) (by unfold rst; split <;> simp) (by unfold fl; split <;> rfl))
    clear RF hg hby hA hh hf h1 h2
    go_enter Try.func34, Try.ntmps34
    go_wp2
    go_ret
    exact R.out
  · obtain rfl : f = false := by simpa using hft
    clear hf hft
    by_cases hok : okB n l = true
    · obtain ⟨k1, k2⟩ := ok_iff.1 hok
      obtain ⟨m, rfl⟩ : ∃ m : Nat, n = m := ⟨n.toNat, by omega⟩
      have HE := Lib.hid (own_empty W)
      have hb := bal (Below.refl W.heap.size W) (.cells #[] 5)
      have HB := Lib.hid hb
      have HS := Lib.hid hb.size
      have q1 := fun W => cutH A l.length cap m (m : Int) rfl (by omega) W
      have q2 := fun W => cutT A l.length cap m (m : Int) rfl (by omega) W
      have HX := Lib.hid ((hby.head m (by omega)).rd.below hb)
      have HM : Hid ((l.take m).length < 2000000000000) := Lib.hid (by rw [List.length_take]; omega)
      have a0 : (W.alloc (.cells #[] 5)).cell? ⟨g, 0, none⟩ = some (.slice A l.length cap) := row_cell (hp_old hg _) 0
      have HG := Lib.hid hg
      have R : Hid (∀ v1 w1, Own W.heap.size w1 v1 (l.take m) → Below W.heap.size W w1 → TakeTold 98 lo hi W g l false m (.returned v1) (w1.setCell ⟨g, 0, none⟩ (.slice (tlA A cap m) (l.length - m) (cap - m)))) := Lib.hid (by
        intro v1 w1 ho hbb
        have hg1 := kept hg hbb
        have K : Keep g w1 (w1.setCell ⟨g, 0, none⟩ (.slice (tlA A cap m) (l.length - m) (cap - m))) := (Keep.refl g w1).setCell 0 _
        have hglt := hp_lt hg
        refine ⟨v1, rfl, ?_, ⟨h1, h2, .slice (tlA A cap m) (l.length - m) (cap - m), ?_, ?_⟩, (Below.keep hbb).trans K⟩
        · rw [pre_yes hok]
          refine ⟨ho.1, ?_⟩
          rcases ho.2 with ⟨e, hn⟩ | ⟨g', cap', cur, e, hbs, hh', r⟩
          · exact Or.inl ⟨e, hn⟩
          · refine Or.inr ⟨g', cap', cur, e, hbs, ?_, r⟩
            rw [K.block g' (hp_lt hh') (by omega)]
            exact hh'
        · rw [fl_yes hok]; exact set_cell0 hg1
        · rw [rst_yes hok]; exact ((hby.tail m (by omega)).below hbb).keep K (fun b hb => hb.2.2))
      clear RF hby hok hA hh h1 h2 hg hb
      go_enter Try.func34, Try.ntmps34
      go_wp2_with (at_builtin; refine app_any rfl _ _ rfl W.heap.size (W.alloc (.cells #[] 5)) (.slice (some ⟨W.heap.size, 0, none⟩) 0 0) (.slice A m cap) [] (l.take m) rfl rfl HE.out HX.out (by have := HM.out; simp only [List.length_nil]; omega) HS.out ?_; intro v1 w1 ho1 hg1; have HO1 := Lib.hid ho1; have B1 := Lib.hid (own_below HE.out HB.out HS.out hg1); have hg2 := kept HG.out (own_below HE.out HB.out HS.out hg1); have d0 : w1.cell? ⟨g, 0, none⟩ = some (.slice A l.length cap) := row_cell hg2 0; have e0 := fz hg2 0; clear ho1 hg1 hg2)
      go_ret
      exact R.out _ _ HO1.out B1.out
    · have hok' : okB n l = false := by simpa using hok
      have R := Lib.hid (RF.out (pre_no hok') (rst_no hok') (fl_no hok'))
      have hno := ok_no.1 hok'
      clear RF hg hby hA hh h1 h2 hok hok'
      by_cases hn0 : n < 0
      · clear hno
        go_enter Try.func34, Try.ntmps34
        go_wp2
        go_ret
        exact R.out
      · have hgt : (l.length : Int) < n := by omega
        clear hno
        go_enter Try.func34, Try.ntmps34
        go_wp2
        go_ret
        exact R.out
end Go.Proofs.Ytllficloadncfaa.ref13

/-
  What the document's own reader of bytes answers as a number. Conditions: the reader is such as its Open made, and has nothing left where it has failed.
-/
namespace Go.Proofs.Ytllficloadncfaa.ref13
open Go.ChangeShapes Go.WideShapes Go.ChangeAt Go.RowKit
open om mem oct
set_option linter.unusedVariables false
set_option maxRecDepth 100000

theorem or_u64 (X x : Nat) (hX : X < 72057594037927936) (hx : x < 256) : bits .or .u64 ((X : Int) * 256) (x : Int) = ((X * 256 + x : Nat) : Int) := by
  rw [show ((X : Int) * 256) = ((2 ^ 8 * X : Nat) : Int) by omega, u64_or_nat _ _ (by omega) (by omega), ← Nat.two_pow_add_eq_or_of_lt (by omega)]
  omega
theorem val_take_lt (p : List Nat) (hp : Bys p) (k : Nat) (hk : k < p.length) (h8 : p.length ≤ 8) : val (p.take k) 0 < 72057594037927936 := by
  have := val_lt (p.take k) (hp.take k)
  rw [List.length_take, Nat.min_eq_left (by omega)] at this
  have h2 : 256 ^ k ≤ 256 ^ 7 := Nat.pow_le_pow_right (by decide) (by omega)
  omega
theorem val_take_succ (p : List Nat) (k : Nat) (hk : k < p.length) : val (p.take k) 0 * 256 + p[k] = val (p.take (k + 1)) 0 := by
  rw [List.take_succ_eq_append_getElem hk, val_snoc]
def NHead (p : List Nat) (t i : Value) : Prop := ∃ k : Nat, k ≤ p.length ∧ t = .int .u64 (val (p.take k) 0 : Nat) ∧ i = .int .i64 (k : Nat)
theorem pre_len_le (z : Int) (l : List Nat) (hz : Sz z) : (pre z l).length = 0 ∨ ((pre z l).length : Int) = z := by
  by_cases h : okB z l = true
  · right
    have := ok_iff.1 h
    rw [pre_yes h, List.length_take]
    omega
  · left
    rw [pre_no (by simpa using h)]; rfl
theorem ret_i2 {a b : Int} (h : a = b) : Ending.returned (.int .i64 a) = .returned (.int .i64 b) := by rw [h]
set_option maxHeartbeats 4000000 in
theorem num_at (lo hi : Nat) (W : World) (g : Nat) (l : List Nat) (f : Bool) (z : Int) (h : Rdr 98 lo hi W g l f) (hf : f = true → l = []) (hz : I64 z) (hl : l.length < 2000000000000) (hb : Bys l) : Calls Try.prog 33 #[.pointer (some ⟨g, 0, none⟩), .int .i64 z] W (NumTold 98 lo hi W g l f z) := by
  by_cases hs : Sz z
  · have TK := Lib.hid (take_at lo hi W g l f z h hf hz hl)
    have P8 := pre_len_le z l hs
    have PB := pre_bys (n := z) hb
    have R : Hid (∀ w1, Rdr 98 lo hi w1 g (rst z l) (fl z l f) → Keep g W w1 → NumTold 98 lo hi W g l f z (.returned (.int .i64 (rd (pre z l)))) w1) := Lib.hid fun w1 hr hk => by
      unfold NumTold
      rw [nz_yes hs]
      exact ⟨rfl, hr, hk⟩
    have TK2 : Hid (Calls Try.prog 34 #[.pointer (some ⟨g, 0, none⟩), .int .i64 z] W fun e w1 => ∃ A c, e = .returned (.slice A (pre z l).length c) ∧ (pre z l ≠ [] → ∃ b o, A = some ⟨b, o, none⟩ ∧ ∀ k (h : k < (pre z l).length), w1.cell? ⟨b, o + k, none⟩ = some (.int .u8 ((pre z l)[k] : Nat))) ∧ (pre z l).length ≤ c ∧ NumTold 98 lo hi W g l f z (.returned (.int .i64 (rd (pre z l)))) w1) := Lib.hid (TK.out.mono fun e w1 ⟨v1, he, ho, hr, hk⟩ => by
      obtain ⟨A, c, e2, hc, _, hcells⟩ := (own_by ho).rd
      exact ⟨A, c, by rw [he, e2], hcells, hc, R.out w1 hr hk⟩)
    have HRD := rd (pre z l)
    clear h hf TK R hb HRD
    have vlt := val_lt (pre z l) PB
    have rdef : rd (pre z l) = if (pre z l).length = 8 then (((val (pre z l) 0 : Nat) : Int) + 9223372036854775808) % 18446744073709551616 - 9223372036854775808 else if (pre z l).length = 4 then (((val (pre z l) 0 : Nat) : Int) + 2147483648) % 4294967296 - 2147483648 else if (pre z l).length = 1 then ((val (pre z l) 0 : Nat) : Int) else 0 := by unfold rd; rfl
    have rnil : (pre z l).length = 0 → val (pre z l) 0 = 0 := fun e => by rw [List.eq_nil_of_length_eq_zero e]; rfl
    generalize pre z l = p at *
    generalize hrr : rd p = r at *
    clear hrr
    have HBY := Lib.hid PB
    clear PB
    rcases hs with rfl | rfl | rfl
    · have H8 : Hid (p.length ≤ 8) := Lib.hid (by omega)
      have HRD : Hid (r = ((val p 0 : Nat) : Int) ∧ val p 0 < 256) := Lib.hid (by
        rcases P8 with e | e
        · rw [rnil e, rdef, if_neg (by omega), if_neg (by omega), if_neg (by omega)]; constructor <;> omega
        · have e' : p.length = 1 := by omega
          rw [e'] at vlt
          refine ⟨?_, by omega⟩
          rw [rdef, e', if_neg (by decide), if_neg (by decide), if_pos rfl])
      clear P8 vlt rdef rnil hl hz
      go_enter Try.func33, Try.ntmps33
      go_wp2_with (go_at_call 34; (with_reducible refine TK2.out.mono ?_); rintro e w1 ⟨A1, c1, rfl, cb, hcap, nt⟩; have CB := Lib.hid cb; have NT := Lib.hid nt; clear cb nt TK2)
      go_loop [6, 7] (fun t i => NHead p t i) (fun _ i => p.length - (intOf i).toNat)
      case atStart => exact ⟨0, Nat.zero_le _, rfl, rfl⟩
      case round =>
        obtain ⟨k, hk, rfl, rfl⟩ := hrel
        have h8 := H8.out
        by_cases hlt : k < p.length
        · obtain ⟨bb, oo, rfl, hc⟩ := CB.out (List.ne_nil_of_length_pos (by omega))
          have hcell := hc k hlt
          have hx1 := HBY.out _ (List.getElem_mem hlt)
          have hX := val_take_lt p HBY.out k hlt H8.out
          have OR := or_u64 (val (p.take k) 0) p[k] hX hx1
          rw [val_take_succ p k hlt] at OR
          clear hc
          generalize hX1 : val (p.take (k + 1)) 0 = X1 at *
          generalize p[k] = x at *
          generalize val (p.take k) 0 = X at *
          have HX1 := Lib.hid hX1
          clear hX1
          go_wp2
          go_round
          case rel => exact ⟨k + 1, by omega, by rw [HX1.out], by go_num⟩
          case measure => simp [intOf]; omega
        · obtain rfl : k = p.length := by omega
          rw [List.take_length]
          have HE := Lib.hid HRD.out
          generalize val p 0 = X at *
          go_wp2
          go_ret
          obtain ⟨hr1, hr2⟩ := HE.out
          have e : wrap64 (X : Int) = r := by rw [hr1]; unfold wrap64; omega
          have nt := NT.out
          rw [← e] at nt
          exact nt
    · have H8 : Hid (p.length ≤ 8) := Lib.hid (by omega)
      have HRD : Hid (r = (((val p 0 : Nat) : Int) + 2147483648) % 4294967296 - 2147483648 ∧ val p 0 < 4294967296) := Lib.hid (by
        rcases P8 with e | e
        · rw [rnil e, rdef, if_neg (by omega), if_neg (by omega), if_neg (by omega)]; constructor <;> omega
        · have e' : p.length = 4 := by omega
          rw [e'] at vlt
          refine ⟨?_, by omega⟩
          rw [rdef, e', if_neg (by decide), if_pos rfl])
      clear P8 vlt rdef rnil hl hz
      go_enter Try.func33, Try.ntmps33
      go_wp2_with (go_at_call 34; (with_reducible refine TK2.out.mono ?_); rintro e w1 ⟨A1, c1, rfl, cb, hcap, nt⟩; have CB := Lib.hid cb; have NT := Lib.hid nt; clear cb nt TK2)
      go_loop [6, 7] (fun t i => NHead p t i) (fun _ i => p.length - (intOf i).toNat)
      case atStart => exact ⟨0, Nat.zero_le _, rfl, rfl⟩
      case round =>
        obtain ⟨k, hk, rfl, rfl⟩ := hrel
        have h8 := H8.out
        by_cases hlt : k < p.length
        · obtain ⟨bb, oo, rfl, hc⟩ := CB.out (List.ne_nil_of_length_pos (by omega))
          have hcell := hc k hlt
          have hx1 := HBY.out _ (List.getElem_mem hlt)
          have hX := val_take_lt p HBY.out k hlt H8.out
          have OR := or_u64 (val (p.take k) 0) p[k] hX hx1
          rw [val_take_succ p k hlt] at OR
          clear hc
          generalize hX1 : val (p.take (k + 1)) 0 = X1 at *
          generalize p[k] = x at *
          generalize val (p.take k) 0 = X at *
          have HX1 := Lib.hid hX1
          clear hX1
          go_wp2
          go_round
          case rel => exact ⟨k + 1, by omega, by rw [HX1.out], by go_num⟩
          case measure => simp [intOf]; omega
        · obtain rfl : k = p.length := by omega
          rw [List.take_length]
          have HE := Lib.hid HRD.out
          generalize val p 0 = X at *
          go_wp2
          go_ret
          obtain ⟨hr1, hr2⟩ := HE.out
          have e : wrap64 (wrap32 ((X : Int) % 4294967296)) = r := by rw [hr1]; unfold wrap64 wrap32; omega
          have nt := NT.out
          rw [← e] at nt
          exact nt
    · have H8 : Hid (p.length ≤ 8) := Lib.hid (by omega)
      have HRD : Hid (r = (((val p 0 : Nat) : Int) + 9223372036854775808) % 18446744073709551616 - 9223372036854775808 ∧ val p 0 < 18446744073709551616) := Lib.hid (by
        rcases P8 with e | e
        · rw [rnil e, rdef, if_neg (by omega), if_neg (by omega), if_neg (by omega)]; constructor <;> omega
        · have e' : p.length = 8 := by omega
          rw [e'] at vlt
          refine ⟨?_, by omega⟩
          rw [rdef, e', if_pos rfl])
      clear P8 vlt rdef rnil hl hz
      go_enter Try.func33, Try.ntmps33
      go_wp2_with (go_at_call 34; (with_reducible refine TK2.out.mono ?_); rintro e w1 ⟨A1, c1, rfl, cb, hcap, nt⟩; have CB := Lib.hid cb; have NT := Lib.hid nt; clear cb nt TK2)
      go_loop [6, 7] (fun t i => NHead p t i) (fun _ i => p.length - (intOf i).toNat)
      case atStart => exact ⟨0, Nat.zero_le _, rfl, rfl⟩
      case round =>
        obtain ⟨k, hk, rfl, rfl⟩ := hrel
        have h8 := H8.out
        by_cases hlt : k < p.length
        · obtain ⟨bb, oo, rfl, hc⟩ := CB.out (List.ne_nil_of_length_pos (by omega))
          have hcell := hc k hlt
          have hx1 := HBY.out _ (List.getElem_mem hlt)
          have hX := val_take_lt p HBY.out k hlt H8.out
          have OR := or_u64 (val (p.take k) 0) p[k] hX hx1
          rw [val_take_succ p k hlt] at OR
          clear hc
          generalize hX1 : val (p.take (k + 1)) 0 = X1 at *
          generalize p[k] = x at *
          generalize val (p.take k) 0 = X at *
          have HX1 := Lib.hid hX1
          clear hX1
          go_wp2
          go_round
          case rel => exact ⟨k + 1, by omega, by rw [HX1.out], by go_num⟩
          case measure => simp [intOf]; omega
        · obtain rfl : k = p.length := by omega
          rw [List.take_length]
          have HE := Lib.hid HRD.out
          generalize val p 0 = X at *
          go_wp2
          go_ret
          obtain ⟨hr1, hr2⟩ := HE.out
          have e : wrap64 (X : Int) = r := by rw [hr1]; unfold wrap64; omega
          have nt := NT.out
          rw [← e] at nt
          exact nt
  · have TK := Lib.hid (take_at lo hi W g l f (-1) h hf ⟨by decide, by decide⟩ hl)
    have R : Hid (∀ w1, Rdr 98 lo hi w1 g (rst (-1) l) (fl (-1) l f) → Keep g W w1 → NumTold 98 lo hi W g l f z (.returned (.int .i64 0)) w1) := Lib.hid fun w1 hr hk => by
      unfold NumTold
      rw [nz_no hs]
      exact ⟨by rw [pre_no (ok_neg l)]; rfl, hr, hk⟩
    have TK2 : Hid (Calls Try.prog 34 #[.pointer (some ⟨g, 0, none⟩), .int .i64 (-1)] W fun e w1 => ∃ A c, e = .returned (.slice A 0 c) ∧ NumTold 98 lo hi W g l f z (.returned (.int .i64 0)) w1) := Lib.hid (TK.out.mono fun e w1 ⟨v1, he, ho, hr, hk⟩ => by
      rw [pre_no (ok_neg l)] at ho
      obtain ⟨A, c, e2⟩ := own_len ho
      exact ⟨A, c, by rw [he, e2]; rfl, R.out w1 hr hk⟩)
    unfold Sz at hs
    obtain ⟨z1, z2⟩ := hz
    have t1 : (z != 1) = true := by simp; omega
    have t4 : (z != 4) = true := by simp; omega
    have t8 : (z != 8) = true := by simp; omega
    clear h hf TK R hb hs hl
    go_enter Try.func33, Try.ntmps33
    go_wp2_with (go_at_call 34; (with_reducible refine TK2.out.mono ?_); rintro e w1 ⟨A1, c1, rfl, nt⟩; have NT := Lib.hid nt; clear nt TK2)
    go_loop [6, 7] (fun t i => t = .int .u64 0 ∧ i = .int .i64 0) (fun _ _ => 0)
    case atStart => exact ⟨rfl, rfl⟩
    case round =>
      obtain ⟨rfl, rfl⟩ := hrel
      go_wp2
      go_ret
      exact NT.out
end Go.Proofs.Ytllficloadncfaa.ref13

/-
  What the document's own answers of layer 15 are, but for Decode: is a head right, its bytes, how many bytes follow. Condition: none.
-/
namespace Go.Proofs.Ytllficloadncfaa.ref15
open Go.ChangeShapes Go.WideShapes Go.ChangeAt Go.RowKit
open om mem oct hd head
set_option linter.unusedVariables false
set_option maxRecDepth 100000

set_option maxHeartbeats 8000000 in
theorem right_at (h : Hd) (w : World) : Calls Try.prog 18 #[(.agg #[.int .i64 h.v, .int .i64 h.ut, .int .i64 h.sd, .int .i64 h.lp, .int .i64 h.tm, .int .i64 h.ty, .int .i64 h.ch])] w fun e w' => e = .returned (.bool (hd.okB h)) ∧ Below w.heap.size w w' := by
  by_cases g0 : h.v < 1
  · rw [show hd.okB h = false from hd.ok_no.2 (by unfold Ok; omega)]
    obtain ⟨v, ut, sd, lp, tm, ty, ch⟩ := h
    simp only at *
    go_enter Try.func18, Try.ntmps18
    go_wp2
    go_ret
    exact ⟨rfl, bal (Below.refl _ _) _⟩
  by_cases g1 : 4 < h.v
  · rw [show hd.okB h = false from hd.ok_no.2 (by unfold Ok; omega)]
    obtain ⟨v, ut, sd, lp, tm, ty, ch⟩ := h
    simp only at *
    go_enter Try.func18, Try.ntmps18
    go_wp2
    go_ret
    exact ⟨rfl, bal (Below.refl _ _) _⟩
  by_cases g2 : h.ty < 1
  · rw [show hd.okB h = false from hd.ok_no.2 (by unfold Ok; omega)]
    obtain ⟨v, ut, sd, lp, tm, ty, ch⟩ := h
    simp only at *
    go_enter Try.func18, Try.ntmps18
    go_wp2
    go_ret
    exact ⟨rfl, bal (Below.refl _ _) _⟩
  by_cases g3 : 64 < h.ty
  · rw [show hd.okB h = false from hd.ok_no.2 (by unfold Ok; omega)]
    obtain ⟨v, ut, sd, lp, tm, ty, ch⟩ := h
    simp only at *
    go_enter Try.func18, Try.ntmps18
    go_wp2
    go_ret
    exact ⟨rfl, bal (Below.refl _ _) _⟩
  by_cases g4 : h.ch < 1
  · rw [show hd.okB h = false from hd.ok_no.2 (by unfold Ok; omega)]
    obtain ⟨v, ut, sd, lp, tm, ty, ch⟩ := h
    simp only at *
    go_enter Try.func18, Try.ntmps18
    go_wp2
    go_ret
    exact ⟨rfl, bal (Below.refl _ _) _⟩
  by_cases g5 : 256 < h.ch
  · rw [show hd.okB h = false from hd.ok_no.2 (by unfold Ok; omega)]
    obtain ⟨v, ut, sd, lp, tm, ty, ch⟩ := h
    simp only at *
    go_enter Try.func18, Try.ntmps18
    go_wp2
    go_ret
    exact ⟨rfl, bal (Below.refl _ _) _⟩
  by_cases g6 : h.lp < 0
  · rw [show hd.okB h = false from hd.ok_no.2 (by unfold Ok; omega)]
    obtain ⟨v, ut, sd, lp, tm, ty, ch⟩ := h
    simp only at *
    go_enter Try.func18, Try.ntmps18
    go_wp2
    go_ret
    exact ⟨rfl, bal (Below.refl _ _) _⟩
  by_cases g7 : 201 < h.lp
  · rw [show hd.okB h = false from hd.ok_no.2 (by unfold Ok; omega)]
    obtain ⟨v, ut, sd, lp, tm, ty, ch⟩ := h
    simp only at *
    go_enter Try.func18, Try.ntmps18
    go_wp2
    go_ret
    exact ⟨rfl, bal (Below.refl _ _) _⟩
  by_cases g8 : h.tm < 0
  · rw [show hd.okB h = false from hd.ok_no.2 (by unfold Ok; omega)]
    obtain ⟨v, ut, sd, lp, tm, ty, ch⟩ := h
    simp only at *
    go_enter Try.func18, Try.ntmps18
    go_wp2
    go_ret
    exact ⟨rfl, bal (Below.refl _ _) _⟩
  by_cases g9 : 2000 < h.tm
  · rw [show hd.okB h = false from hd.ok_no.2 (by unfold Ok; omega)]
    obtain ⟨v, ut, sd, lp, tm, ty, ch⟩ := h
    simp only at *
    go_enter Try.func18, Try.ntmps18
    go_wp2
    go_ret
    exact ⟨rfl, bal (Below.refl _ _) _⟩
  have a : hd.okB h = (((h.ut == 0) || (h.ut == h.ty)) && ((h.sd == 0) || (h.sd == h.ty))) := by
    rw [Bool.eq_iff_iff, hd.ok_iff]
    unfold Ok
    simp only [Bool.and_eq_true, Bool.or_eq_true, beq_iff_eq]
    omega
  rw [a]
  clear a
  obtain ⟨v, ut, sd, lp, tm, ty, ch⟩ := h
  simp only at *
  by_cases u0 : ut = 0
  · subst u0
    by_cases s0 : sd = 0
    · subst s0
      go_enter Try.func18, Try.ntmps18
      go_wp2
      go_ret
      exact ⟨rfl, bal (Below.refl _ _) _⟩
    · have t0 : (sd == 0) = false := by simpa using s0
      rw [t0]
      clear s0
      go_enter Try.func18, Try.ntmps18
      go_wp2
      go_ret
      exact ⟨by first | rfl | simp, bal (Below.refl _ _) _⟩
  · have t1 : (ut == 0) = false := by simpa using u0
    rw [t1]
    clear u0
    by_cases u1 : ut = ty
    · subst u1
      by_cases s0 : sd = 0
      · subst s0
        go_enter Try.func18, Try.ntmps18
        go_wp2
        go_ret
        exact ⟨by first | rfl | simp, bal (Below.refl _ _) _⟩
      · have t0 : (sd == 0) = false := by simpa using s0
        rw [t0]
        clear s0
        go_enter Try.func18, Try.ntmps18
        go_wp2
        go_ret
        exact ⟨by first | rfl | simp, bal (Below.refl _ _) _⟩
    · have t2 : (ut == ty) = false := by simpa using u1
      rw [t2]
      clear u1
      go_enter Try.func18, Try.ntmps18
      go_wp2
      go_ret
      exact ⟨by first | rfl | simp, bal (Below.refl _ _) _⟩
set_option maxHeartbeats 4000000 in
theorem size_at (h : Hd) (s : Int) (w : World) : Calls Try.prog 31 #[(.agg #[.int .i64 h.v, .int .i64 h.ut, .int .i64 h.sd, .int .i64 h.lp, .int .i64 h.tm, .int .i64 h.ty, .int .i64 h.ch]), .int .i64 s] w fun e w' => e = .returned (.int .i64 (sz h s)) ∧ Below w.heap.size w w' := by
  have R := Lib.hid (fun w => right_at h w)
  have T := box_tells h w
  by_cases hok : hd.okB h = true
  · obtain ⟨⟨a1, b1⟩, k2, k3, ⟨a4, b4⟩, ⟨a5, b5⟩, ⟨a6, b6⟩, a7, b7⟩ := hd.ok_iff.1 hok
    have a2 : 0 ≤ h.ut ∧ h.ut ≤ 64 := by omega
    have a3 : 0 ≤ h.sd ∧ h.sd ≤ 64 := by omega
    rw [hok] at R
    obtain ⟨a2, b2⟩ := a2
    obtain ⟨a3, b3⟩ := a3
    clear k2 k3
    by_cases h4 : s = 4
    · subst h4
      rw [sz_yes (szb_iff.2 ⟨hd.ok_iff.1 hok, Or.inl rfl⟩)]
      clear hok
      unfold szv
      rw [show h.tm * (4 + 1) + h.ty * 6 + h.ch + h.lp * (4 + 4) + h.sd + h.ut = 5 * h.tm + 6 * h.ty + h.ch + 8 * h.lp + h.sd + h.ut by omega]
      obtain ⟨v, ut, sd, lp, tm, ty, ch⟩ := h
      simp only at *
      go_enter Try.func31, Try.ntmps31
      go_wp2_with (go_at_call 18; (with_reducible refine (R.out _).mono ?_); rintro e w1 ⟨rfl, hb1⟩; obtain ⟨c0, c1, c2, c3, c4, c5, c6, hb2, hs1⟩ := T.out _ hb1; have HB := Lib.hid hb2; clear hb1 hb2)
      go_ret
      exact ⟨rfl, HB.out⟩
    · by_cases h8 : s = 8
      · subst h8
        rw [sz_yes (szb_iff.2 ⟨hd.ok_iff.1 hok, Or.inr rfl⟩)]
        clear hok h4
        unfold szv
        rw [show h.tm * (8 + 1) + h.ty * 6 + h.ch + h.lp * (8 + 4) + h.sd + h.ut = 9 * h.tm + 6 * h.ty + h.ch + 12 * h.lp + h.sd + h.ut by omega]
        obtain ⟨v, ut, sd, lp, tm, ty, ch⟩ := h
        simp only at *
        go_enter Try.func31, Try.ntmps31
        go_wp2_with (go_at_call 18; (with_reducible refine (R.out _).mono ?_); rintro e w1 ⟨rfl, hb1⟩; obtain ⟨c0, c1, c2, c3, c4, c5, c6, hb2, hs1⟩ := T.out _ hb1; have HB := Lib.hid hb2; clear hb1 hb2)
        go_ret
        exact ⟨rfl, HB.out⟩
      · have hz : szOk h s = false := by rw [Bool.eq_false_iff]; intro e; rcases (szb_iff.1 e).2 with e | e <;> contradiction
        rw [sz_no hz]
        have t4 : (s != 4) = true := by simpa using h4
        have t8 : (s != 8) = true := by simpa using h8
        clear hok hz h4 h8
        obtain ⟨v, ut, sd, lp, tm, ty, ch⟩ := h
        simp only at *
        go_enter Try.func31, Try.ntmps31
        go_wp2_with (go_at_call 18; (with_reducible refine (R.out _).mono ?_); rintro e w1 ⟨rfl, hb1⟩; obtain ⟨c0, c1, c2, c3, c4, c5, c6, hb2, hs1⟩ := T.out _ hb1; have HB := Lib.hid hb2; clear hb1 hb2)
        go_ret
        exact ⟨rfl, HB.out⟩
  · have hok' : hd.okB h = false := by simpa using hok
    have hz : szOk h s = false := by unfold szOk; rw [hok']; rfl
    rw [sz_no hz]
    rw [hok'] at R
    clear hok hok' hz
    obtain ⟨v, ut, sd, lp, tm, ty, ch⟩ := h
    simp only at *
    go_enter Try.func31, Try.ntmps31
    go_wp2_with (go_at_call 18; (with_reducible refine (R.out _).mono ?_); rintro e w1 ⟨rfl, hb1⟩; obtain ⟨c0, c1, c2, c3, c4, c5, c6, hb2, hs1⟩ := T.out _ hb1; have HB := Lib.hid hb2; clear hb1 hb2)
    go_ret
    exact ⟨rfl, HB.out⟩
end Go.Proofs.Ytllficloadncfaa.ref15
