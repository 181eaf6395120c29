/-
  What the document's own readers of bytes answer, call by call. Conditions: the slices that are handed in read as bytes; readers are such as its Open made, and have nothing left where they have failed.
-/
import Derived.Test.YtkbpmopnphcfjaaRef13
namespace Go.Proofs.Ytkbpmopnphcfjaa.ref13
open Go.ChangeShapes Go.WideShapes Go.ChangeAt Go.RowKit
open om mem oct
set_option linter.unusedVariables false
set_option maxRecDepth 100000

set_option maxHeartbeats 1000000 in
theorem open_at (l : List Nat) (v : Value) (w : World) (h : RdW w v l) (hl : l.length < 2000000000000) : Calls Try.prog 24 #[v] w (OpenTold 57 w l) := by
  obtain ⟨A, cap, e, hc, y1, y2⟩ := id h
  clear y1 y2
  subst e
  have HR := Lib.hid (h.below (bal (Below.refl w.heap.size w) (.cells #[] 5)))
  have HE := Lib.hid (own_empty w)
  have hb := bal (Below.refl w.heap.size w) (.cells #[] 5)
  have HB := Lib.hid hb
  have HS := Lib.hid hb.size
  have HL := Lib.hid hl
  clear hl hb h hc
  generalize hN : l.length = N at *
  have HN := Lib.hid hN
  clear hN
  go_enter Try.func24, Try.ntmps24
  go_wp2_with (at_builtin; refine app_any rfl _ _ rfl w.heap.size (w.alloc (.cells #[] 5)) (.slice (some ⟨w.heap.size, 0, none⟩) 0 0) (.slice A N cap) [] l rfl rfl HE.out HR.out (by rw [HN.out]; have := HL.out; simp; omega) HS.out ?_; intro v1 w1 ho1 hg1; obtain ⟨A1, n1, c1, rfl⟩ := own_slice ho1; have R := Lib.hid (open_told (T := 57) ho1 (own_below HE.out HB.out HS.out hg1)); clear ho1 hg1)
  go_ret
  exact R.out
set_option maxHeartbeats 2000000 in
theorem take_at (lo hi : Nat) (W : World) (g : Nat) (l : List Nat) (f : Bool) (n : Int) (h : Rdr 57 lo hi W g l f) (hf : f = true → l = []) (hn : I64 n) (hl : l.length < 2000000000000) : Calls Try.prog 36 #[.pointer (some ⟨g, 0, none⟩), .int .i64 n] W (TakeTold 57 lo hi W g l f n) := by
  have hh := h
  obtain ⟨n1, n2⟩ := hn
  obtain ⟨h1, h2, v, hg, hby⟩ := h
  obtain ⟨A, cap, rfl, hc, hA, _⟩ := hby.rd
  have c0 : W.cell? ⟨g, 0, none⟩ = some (.slice A l.length cap) := row_cell hg 0
  have c1 : W.cell? ⟨g, 1, none⟩ = some (.bool f) := row_cell hg 1
  have f0 := fz hg 0
  have f1 := fz hg 1
  have RF : Hid (pre n l = [] → rst n l = [] → fl n l f = true → TakeTold 57 lo hi W g l f n (.returned (.slice none 0 0)) ((W.setCell ⟨g, 1, none⟩ (.bool true)).setCell ⟨g, 0, none⟩ (.slice none 0 0))) := Lib.hid (by
    intro e1 e2 e3
    have K := ((Keep.refl g W).setCell 1 (.bool true)).setCell 0 (.slice none 0 0)
    refine ⟨.slice none 0 0, rfl, ?_, ⟨h1, h2, .slice none 0 0, ?_, ?_⟩, K⟩
    · rw [e1]; exact own_none _ _
    · rw [e3]; exact set_cell0 (set_cell1 hg)
    · rw [e2]; exact Or.inl ⟨rfl, rfl⟩)
  by_cases hft : f = true
  · obtain rfl := hf hft
    subst hft
    have R := Lib.hid (RF.out (by unfold pre; split <;> simp) (by unfold rst; split <;> simp) (by unfold fl; split <;> rfl))
    clear RF hg hby hA hh hf h1 h2
    go_enter Try.func36, Try.ntmps36
    go_wp2
    go_ret
    exact R.out
  · obtain rfl : f = false := by simpa using hft
    clear hf hft
    by_cases hok : okB n l = true
    · obtain ⟨k1, k2⟩ := ok_iff.1 hok
      obtain ⟨m, rfl⟩ : ∃ m : Nat, n = m := ⟨n.toNat, by omega⟩
      have HE := Lib.hid (own_empty W)
      have hb := bal (Below.refl W.heap.size W) (.cells #[] 5)
      have HB := Lib.hid hb
      have HS := Lib.hid hb.size
      have q1 := fun W => cutH A l.length cap m (m : Int) rfl (by omega) W
      have q2 := fun W => cutT A l.length cap m (m : Int) rfl (by omega) W
      have HX := Lib.hid ((hby.head m (by omega)).rd.below hb)
      have HM : Hid ((l.take m).length < 2000000000000) := Lib.hid (by rw [List.length_take]; omega)
      have a0 : (W.alloc (.cells #[] 5)).cell? ⟨g, 0, none⟩ = some (.slice A l.length cap) := row_cell (hp_old hg _) 0
      have HG := Lib.hid hg
      have R : Hid (∀ v1 w1, Own W.heap.size w1 v1 (l.take m) → Below W.heap.size W w1 → TakeTold 57 lo hi W g l false m (.returned v1) (w1.setCell ⟨g, 0, none⟩ (.slice (tlA A cap m) (l.length - m) (cap - m)))) := Lib.hid (by
        intro v1 w1 ho hbb
        have hg1 := kept hg hbb
        have K : Keep g w1 (w1.setCell ⟨g, 0, none⟩ (.slice (tlA A cap m) (l.length - m) (cap - m))) := (Keep.refl g w1).setCell 0 _
        have hglt := hp_lt hg
        refine ⟨v1, rfl, ?_, ⟨h1, h2, .slice (tlA A cap m) (l.length - m) (cap - m), ?_, ?_⟩, (Below.keep hbb).trans K⟩
        · rw [pre_yes hok]
          refine ⟨ho.1, ?_⟩
          rcases ho.2 with ⟨e, hn⟩ | ⟨g', cap', cur, e, hbs, hh', r⟩
          · exact Or.inl ⟨e, hn⟩
          · refine Or.inr ⟨g', cap', cur, e, hbs, ?_, r⟩
            rw [K.block g' (hp_lt hh') (by omega)]
            exact hh'
        · rw [fl_yes hok]; exact set_cell0 hg1
        · rw [rst_yes hok]; exact ((hby.tail m (by omega)).below hbb).keep K (fun b hb => hb.2.2))
      clear RF hby hok hA hh h1 h2 hg hb
      go_enter Try.func36, Try.ntmps36
      go_wp2_with (at_builtin; refine app_any rfl _ _ rfl W.heap.size (W.alloc (.cells #[] 5)) (.slice (some ⟨W.heap.size, 0, none⟩) 0 0) (.slice A m cap) [] (l.take m) rfl rfl HE.out HX.out (by have := HM.out; simp only [List.length_nil]; omega) HS.out ?_; intro v1 w1 ho1 hg1; have HO1 := Lib.hid ho1; have B1 := Lib.hid (own_below HE.out HB.out HS.out hg1); have hg2 := kept HG.out (own_below HE.out HB.out HS.out hg1); have d0 : w1.cell? ⟨g, 0, none⟩ = some (.slice A l.length cap) := row_cell hg2 0; have e0 := fz hg2 0; clear ho1 hg1 hg2)
      go_ret
      exact R.out _ _ HO1.out B1.out
    · have hok' : okB n l = false := by simpa using hok
      have R := Lib.hid (RF.out (pre_no hok') (rst_no hok') (fl_no hok'))
      have hno := ok_no.1 hok'
      clear RF hg hby hA hh h1 h2 hok hok'
      by_cases hn0 : n < 0
      · clear hno
        go_enter Try.func36, Try.ntmps36
        go_wp2
        go_ret
        exact R.out
      · have hgt : (l.length : Int) < n := by omega
        clear hno
        go_enter Try.func36, Try.ntmps36
        go_wp2
        go_ret
        exact R.out
end Go.Proofs.Ytkbpmopnphcfjaa.ref13
