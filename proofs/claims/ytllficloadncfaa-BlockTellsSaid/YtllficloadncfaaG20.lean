/-
  What the document's own names and Count of layer 16 answer. Conditions: the zone's kinds are read, and are no more than a hundred.
-/
import Derived.Test.YtllficloadncfaaG11
import Derived.Test.YtllficloadncfaaG18
import Derived.Test.YtllficloadncfaaG19
namespace Go.Proofs.Ytllficloadncfaa.ref16
open Go.ChangeShapes Go.WideShapes Go.ChangeAt Go.RowKit
open om mem oct bk blk
open head (hcs hcs_one szH end_pair)
set_option linter.unusedVariables false
set_option maxRecDepth 100000

set_option maxHeartbeats 1000000 in
theorem names_at (A : Option Addr) (a : Nat) (B : Option Addr) (b : Nat) (C : Option Addr) (c : Nat) (z : Zn) (w : World) (h : Tys w A z.ty) (hn : z.ty.length ≤ 1000) : Calls Try.prog 17 #[(.agg #[.slice A z.ty.length a, .slice B z.tr.length b, .slice C z.lp.length c, .string z.ft, .int .i64 z.v])] w (NTold z.ty w) := by
  have T := zbox A a B b C c z w
  have h0 := h.below (bal (Below.refl _ w) (.cells #[.slice A z.ty.length a, .slice B z.tr.length b, .slice C z.lp.length c, .string z.ft, .int .i64 z.v] 26))
  obtain ⟨l, tr, lp, ft, v⟩ := z
  simp only at *
  go_enter Try.func17, Try.ntmps17
  go_wp2
  generalize hw0 : w.alloc (.cells #[.slice A l.length a, .slice B tr.length b, .slice C lp.length c, .string ft, .int .i64 v] 26) = w0 at *
  clear hw0
  go_loopw [3, 4] (fun u t W => NHead l w0 u t W) (fun _ t _ => l.length - (intOf t).toNat)
  case atStart => exact ⟨0, _, Nat.zero_le _, rfl, rfl, World.ownsRow_nil w0 _ _ _, Below.refl _ _⟩
  case round =>
    obtain ⟨j, v1, hj, rfl, rfl, ho, hb⟩ := hrel
    obtain ⟨c0, c1, c2, c3, c4, hb2, hs1⟩ := T.out _ hb
    by_cases hlt : j < l.length
    · obtain ⟨g, o, rfl, hg, hc⟩ := (h0.below hb) (fun e => by rw [e] at hlt; simp at hlt)
      have x2 := (hc j hlt).2.2
      have HO := Lib.hid ho
      have HB := Lib.hid hb
      have R := Lib.hid (fun v' W' => nhead_step (v' := v') (W' := W') hlt ho hb)
      have hlen : (nm (l.take j)).length < 8000000000000 := by rw [nm_len, List.length_take]; omega
      clear hc ho hb h0 h T
      generalize l[j].ab = s at *
      generalize nm (l.take j) = ls at *
      generalize l.length = n at *
      go_wp2_with (at_builtin; refine lines.app_one rfl _ _ rfl w0.heap.size wr v1 ls s rfl rfl HO.out hlen HB.out.size ?_; intro v' w1 ho' hg')
      go_roundw
      case rel => exact R.out _ _ ho' hg'
      case measure => simp [intOf]; omega
    · obtain rfl : j = l.length := by omega
      rw [List.take_length] at ho
      obtain ⟨A1, c1', rfl, hs, _⟩ := lines.Strs.of_own ho
      have E := Lib.hid (show NTold l w (.returned (.slice A1 (nm l).length c1')) wr from ⟨A1, c1', rfl, hs, hb2⟩)
      clear ho hs hb h0 h T
      go_wp2
      go_ret
      exact E.out
/-- the pool of a zone's names. -/
theorem pool_use (l : List Ty) (hn : l.length ≤ 100) (hz : ∀ x ∈ nm l, x.size ≤ 9223372036854775807) (W : World) (A' : Option Addr) (c' : Nat) (hs : lines.Strs W A' (nm l)) : Calls Try.prog 16 #[.slice A' (nm l).length c'] W fun e w' => ∃ A c, e = .returned (.tuple #[.string (lx.B (ab.pT (nmL l))), .slice A (ab.pN (nmL l)).length c, .bool (ab.okB (nmL l))]) ∧ abr.Ints w' A (ab.pN (nmL l)) ∧ Below W.heap.size W w' :=
  ref14.pool_at (nm l) A' c' W hs (by rw [nm_len]; exact hn) hz
set_option maxHeartbeats 4000000 in
theorem count_at (A : Option Addr) (a : Nat) (B : Option Addr) (b : Nat) (C : Option Addr) (c : Nat) (z : Zn) (w : World) (h : Tys w A z.ty) (hn : z.ty.length ≤ 100) (bd : Bd z) : Calls Try.prog 7 #[(.agg #[.slice A z.ty.length a, .slice B z.tr.length b, .slice C z.lp.length c, .string z.ft, .int .i64 z.v])] w (CTold z w) := by
  have T := zbox A a B b C c z w
  have NM : Hid (∀ W, Below w.heap.size w W → Calls Try.prog 17 #[(.agg #[.slice A z.ty.length a, .slice B z.tr.length b, .slice C z.lp.length c, .string z.ft, .int .i64 z.v])] W (NTold z.ty W)) := Lib.hid fun W hb => names_at A a B b C c z W (h.below hb) (by omega)
  have PO : Hid (∀ W A' c', lines.Strs W A' (nm z.ty) → Calls Try.prog 16 #[.slice A' (nm z.ty).length c'] W (fun e w' => ∃ A c, e = .returned (.tuple #[.string (lx.B (ab.pT (nmL z.ty))), .slice A (ab.pN (nmL z.ty)).length c, .bool (ab.okB (nmL z.ty))]) ∧ Below W.heap.size W w')) := Lib.hid fun W A' c' hs =>
    (pool_use z.ty hn bd.ab W A' c' hs).mono fun e w' ⟨A, c, h1, _, h3⟩ => ⟨A, c, h1, h3⟩
  have ps : (lx.B (ab.pT (nmL z.ty))).size = (cnt z).ch := by rw [lx.B_size]; rfl
  have RI : Hid (∀ W, Calls Try.prog 18 #[.agg #[.int .i64 z.v, .int .i64 0, .int .i64 0, .int .i64 z.lp.length, .int .i64 z.tr.length, .int .i64 z.ty.length, .int .i64 (lx.B (ab.pT (nmL z.ty))).size]] W fun e w' => e = .returned (.bool (okC z)) ∧ Below W.heap.size W w') := Lib.hid fun W => by
    rw [ps]
    exact ref15.right_at (cnt z) W
  have hw0 : Hid (Below w.heap.size w ((w.alloc (.cells #[.slice A z.ty.length a, .slice B z.tr.length b, .slice C z.lp.length c, .string z.ft, .int .i64 z.v] 26)).alloc (.cells #[.int .i64 0, .int .i64 0, .int .i64 0, .int .i64 0, .int .i64 0, .int .i64 0, .int .i64 0] 28))) := Lib.hid (bal (bal (Below.refl _ _) _) _)
  have box := Lib.hid (hp_new1 w (.cells #[.slice A z.ty.length a, .slice B z.tr.length b, .slice C z.lp.length c, .string z.ft, .int .i64 z.v] 26) (.cells #[.int .i64 0, .int .i64 0, .int .i64 0, .int .i64 0, .int .i64 0, .int .i64 0, .int .i64 0] 28))
  have hz0 : Hid (∀ W, Below ((w.alloc (.cells #[.slice A z.ty.length a, .slice B z.tr.length b, .slice C z.lp.length c, .string z.ft, .int .i64 z.v] 26)).alloc (.cells #[.int .i64 0, .int .i64 0, .int .i64 0, .int .i64 0, .int .i64 0, .int .i64 0, .int .i64 0] 28)).heap.size ((w.alloc (.cells #[.slice A z.ty.length a, .slice B z.tr.length b, .slice C z.lp.length c, .string z.ft, .int .i64 z.v] 26)).alloc (.cells #[.int .i64 0, .int .i64 0, .int .i64 0, .int .i64 0, .int .i64 0, .int .i64 0, .int .i64 0] 28)) W → Below (w.alloc (.cells #[.slice A z.ty.length a, .slice B z.tr.length b, .slice C z.lp.length c, .string z.ft, .int .i64 z.v] 26)).heap.size (w.alloc (.cells #[.slice A z.ty.length a, .slice B z.tr.length b, .slice C z.lp.length c, .string z.ft, .int .i64 z.v] 26)) W) := Lib.hid fun W hb => btr (bal (Below.refl _ _) _) hb
  have Q : Hid (∀ w' h k, h = cv z → k = okC z → Below w.heap.size w w' → CTold z w (.returned (.tuple #[.agg (hcs h), .bool k])) w') := Lib.hid fun w' h k e1 e2 hb => ⟨by rw [e1, e2], hb⟩
  by_cases hk : okC z = true
  · have hno := okC_names hk
    have e1 : (⟨z.v, 0, 0, z.lp.length, z.tr.length, z.ty.length, (lx.B (ab.pT (nmL z.ty))).size⟩ : hd.Hd) = cv z := by rw [cv_yes hk, ps]; rfl
    have Q2 := Lib.hid (fun w' => Q.out w' _ true e1 hk.symm)
    rw [hno] at PO
    rw [hk] at RI
    clear e1 hk hno Q h ps bd
    obtain ⟨l, tr, lp, ft, v⟩ := z
    simp only at *
    generalize lx.B (ab.pT (nmL l)) = ps at *
    generalize (ab.pN (nmL l)).length = pn at *
    go_enter Try.func7, Try.ntmps7
    go_wp2_with (first
      | (go_at_call 17; (with_reducible refine (NM.out _ hw0.out).mono ?_); rintro e w1 ⟨A1, c1, rfl, hs1, hb1⟩; have S1 := Lib.hid hs1; have HA1 := Lib.hid hb1; clear hs1 hb1)
      | (go_at_call 16; (with_reducible refine (PO.out _ _ _ S1.out).mono ?_); rintro e w2 ⟨A2, c2, rfl, hb2⟩; have HA2 := Lib.hid (btr HA1.out hb2); obtain ⟨x0, x1, x2, x3, x4, hb3, hs3⟩ := T.out _ (hz0.out _ HA2.out); clear hb2 HA1)
      | (go_at_call 18; (with_reducible refine (RI.out _).mono ?_); rintro e w3 ⟨rfl, hb4⟩; have H3 := Lib.hid (kept (hp_new w2 _) hb4); have d0 := row_cell H3.out 0; have d1 := row_cell H3.out 1; have d2 := row_cell H3.out 2; have d3 := row_cell H3.out 3; have d4 := row_cell H3.out 4; have d5 := row_cell H3.out 5; have d6 := row_cell H3.out 6; have HA3 := Lib.hid (btr (bal HA2.out _) hb4); have BX3 := Lib.hid (kept box.out HA3.out); have HB3 := Lib.hid (btr hw0.out HA3.out); clear hb4)
      | (refine wpList_store_row rfl 28 (.tmp 2) (.tmp 37) rfl (w.heap.size + 1) (hcs ⟨v, 0, 0, lp.length, tr.length, l.length, ps.size⟩) rfl rfl 28 _ BX3.out szH rfl (hcs_one _) ?_))
    refine end_pair Try.results7 _ _ (w.heap.size + 1) _ (hcs ⟨v, 0, 0, lp.length, tr.length, l.length, ps.size⟩) _ _ rfl rfl (setRow_heap _ _ _ _ _ _ BX3.out) Try.underlying28 szH rfl ?_
    exact Q2.out _ (bel_setRow HB3.out (Nat.le_succ _) _)
  · have hk' : okC z = false := by simpa using hk
    have Q2 := Lib.hid (fun w' => Q.out w' _ false (cv_no hk').symm hk'.symm)
    rw [hk'] at RI
    by_cases hno : ab.okB (nmL z.ty) = true
    · rw [hno] at PO
      clear hk hk' hno Q h ps bd
      obtain ⟨l, tr, lp, ft, v⟩ := z
      simp only at *
      generalize lx.B (ab.pT (nmL l)) = ps at *
      generalize (ab.pN (nmL l)).length = pn at *
      go_enter Try.func7, Try.ntmps7
      go_wp2_with (first
        | (go_at_call 17; (with_reducible refine (NM.out _ hw0.out).mono ?_); rintro e w1 ⟨A1, c1, rfl, hs1, hb1⟩; have S1 := Lib.hid hs1; have HA1 := Lib.hid hb1; clear hs1 hb1)
        | (go_at_call 16; (with_reducible refine (PO.out _ _ _ S1.out).mono ?_); rintro e w2 ⟨A2, c2, rfl, hb2⟩; have HA2 := Lib.hid (btr HA1.out hb2); obtain ⟨x0, x1, x2, x3, x4, hb3, hs3⟩ := T.out _ (hz0.out _ HA2.out); clear hb2 HA1)
        | (go_at_call 18; (with_reducible refine (RI.out _).mono ?_); rintro e w3 ⟨rfl, hb4⟩; have HA3 := Lib.hid (btr (bal HA2.out _) hb4); have BX3 := Lib.hid (kept box.out HA3.out); have HB3 := Lib.hid (btr hw0.out HA3.out); clear hb4)
        | (refine wpList_store_row rfl 28 (.tmp 2) (.tmp 36) rfl (w.heap.size + 1) (hcs hd.zero) rfl rfl 28 _ BX3.out szH rfl (hcs_one _) ?_))
      refine end_pair Try.results7 _ _ (w.heap.size + 1) _ (hcs hd.zero) _ _ rfl rfl (setRow_heap _ _ _ _ _ _ BX3.out) Try.underlying28 szH rfl ?_
      exact Q2.out _ (bel_setRow HB3.out (Nat.le_succ _) _)
    · have hno' : ab.okB (nmL z.ty) = false := by simpa using hno
      rw [hno'] at PO
      clear hk hk' hno hno' Q h ps bd
      obtain ⟨l, tr, lp, ft, v⟩ := z
      simp only at *
      generalize lx.B (ab.pT (nmL l)) = ps at *
      generalize (ab.pN (nmL l)).length = pn at *
      go_enter Try.func7, Try.ntmps7
      go_wp2_with (first
        | (go_at_call 17; (with_reducible refine (NM.out _ hw0.out).mono ?_); rintro e w1 ⟨A1, c1, rfl, hs1, hb1⟩; have S1 := Lib.hid hs1; have HA1 := Lib.hid hb1; clear hs1 hb1)
        | (go_at_call 16; (with_reducible refine (PO.out _ _ _ S1.out).mono ?_); rintro e w2 ⟨A2, c2, rfl, hb2⟩; have HA2 := Lib.hid (btr HA1.out hb2); obtain ⟨x0, x1, x2, x3, x4, hb3, hs3⟩ := T.out _ (hz0.out _ HA2.out); have BX3 := Lib.hid (hp_old (kept box.out HA2.out) (.cells #[.int .i64 v, .int .i64 0, .int .i64 0, .int .i64 lp.length, .int .i64 tr.length, .int .i64 l.length, .int .i64 ps.size] 28)); have HB3 := Lib.hid (bal (btr hw0.out HA2.out) (.cells #[.int .i64 v, .int .i64 0, .int .i64 0, .int .i64 lp.length, .int .i64 tr.length, .int .i64 l.length, .int .i64 ps.size] 28)); clear hb2 HA1)
        | (refine wpList_store_row rfl 28 (.tmp 2) (.tmp 36) rfl (w.heap.size + 1) (hcs hd.zero) rfl rfl 28 _ BX3.out szH rfl (hcs_one _) ?_))
      refine end_pair Try.results7 _ _ (w.heap.size + 1) _ (hcs hd.zero) _ _ rfl rfl (setRow_heap _ _ _ _ _ _ BX3.out) Try.underlying28 szH rfl ?_
      exact Q2.out _ (bel_setRow HB3.out (Nat.le_succ _) _)
end Go.Proofs.Ytllficloadncfaa.ref16
