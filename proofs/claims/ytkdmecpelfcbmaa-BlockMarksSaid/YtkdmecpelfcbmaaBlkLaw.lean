/-
  What the statements of layer 16 lean on: a zone that came in. Conditions: as said.
-/
import Derived.Test.YtkdmecpelfcbmaaBlkMem
import Derived.Test.YtkdmecpelfcbmaaHeadLaw
import Derived.Test.YtkdmecpelfcbmaaLaw
import Derived.Deep.SlicePairs
import Derived.HandedShaped
namespace Go.Proofs.Ytkdmecpelfcbmaa.blk
open Go.ChangeShapes Go.WideShapes Go.ChangeAt Go.RowKit
open om mem oct bk
set_option linter.unusedVariables false
set_option maxRecDepth 100000

theorem cP : Try.prog.cellsOf 46 = 3 := by kernel_rfl
theorem cQ : Try.prog.cellsOf 48 = 2 := by kernel_rfl
theorem cR : Try.prog.cellsOf 50 = 2 := by kernel_rfl
theorem cZ : Try.prog.cellsOf 26 = 5 := by kernel_rfl
theorem cI : Try.prog.cellsOf 3 = 1 := by kernel_rfl
theorem cB : Try.prog.cellsOf 4 = 1 := by kernel_rfl
theorem cS : Try.prog.cellsOf 9 = 1 := by kernel_rfl
theorem cT1 : Try.prog.cellsOf 22 = 1 := by kernel_rfl
theorem cT2 : Try.prog.cellsOf 23 = 1 := by kernel_rfl
theorem cT3 : Try.prog.cellsOf 24 = 1 := by kernel_rfl
/-- what is so of each place makes a list. -/
theorem gather {α : Type} (P : Nat → α → Prop) : ∀ n, (∀ k, k < n → ∃ t, P k t) → ∃ l : List α, l.length = n ∧ ∀ k (h : k < l.length), P k l[k]
  | 0, _ => ⟨[], rfl, fun k h => by simp at h⟩
  | n + 1, h => by
    obtain ⟨l, hl, hp⟩ := gather P n (fun k hk => h k (by omega))
    obtain ⟨t, ht⟩ := h n (by omega)
    refine ⟨l ++ [t], by simp [hl], fun k hk => ?_⟩
    by_cases e : k < l.length
    · rw [List.getElem_append_left e]
      exact hp k e
    · have : k = l.length := by rw [List.length_append, List.length_singleton] at hk; omega
      subst this
      rw [List.getElem_append_right (by omega)]
      simp only [Nat.sub_self, List.getElem_cons_zero]
      rw [hl]
      exact ht
theorem open_tys {H : Type} {enc : TypeId × Value → H} {W : World} {held : Bool} {fuel : Nat} {v : Value} {x : DataW H × List MemPlace} (h : DataW.trod enc Try.prog W 0 (fun _ => true) held fuel 22 [v] = some x) :
    ∃ A c l, v = .slice A (List.length l) c ∧ Tys W A l ∧ TysBd l ∧ ∀ t ∈ l, t.ab.size ≤ 9223372036854775807 := by
  rcases Deep.open_slice Try.underlying22 h with ⟨h1, _⟩ | ⟨a, len, cap, m, n, D, Pl, h1, _, h3, h4, h5, _, h7⟩
  · obtain rfl := (List.cons.inj h1).1
    exact ⟨none, 0, [], rfl, (fun h => absurd rfl h), (fun t h => by cases h), (fun t h => by cases h)⟩
  · obtain rfl := (List.cons.inj h1).1
    unfold maxLen at h4
    simp only [if_true] at h5
    obtain ⟨l, hl, hp⟩ := gather (fun k (t : Ty) => (W.cell? (a.add (k * 3)) = some (.int .i64 t.off) ∧ W.cell? (a.add (k * 3 + 1)) = some (.bool t.dst) ∧ W.cell? (a.add (k * 3 + 2)) = some (.string t.ab)) ∧ bk.I64 t.off ∧ t.ab.size ≤ 9223372036854775807) len (fun k hk => by
      obtain ⟨cs', g1, g2⟩ := h7 k (by omega)
      rw [cP] at g1
      obtain ⟨_, hlen, hcell⟩ := World.cells?_some g1
      obtain ⟨xs, n', _, _, _, hxl, hf⟩ := DataW.trod_struct Try.underlying46 g2
      match cs', hlen, xs, hxl with
      | [u0, u1, u2], _, [y0, y1, y2], _ =>
        have f0 := hf 0 _ rfl
        have f1 := hf 1 _ rfl
        have f2 := hf 2 _ rfl
        change DataW.trod _ _ _ _ _ _ _ 3 (([u0, u1, u2].drop 0).take (Try.prog.cellsOf 3)) = some y0 at f0
        change DataW.trod _ _ _ _ _ _ _ 4 (([u0, u1, u2].drop 1).take (Try.prog.cellsOf 4)) = some y1 at f1
        change DataW.trod _ _ _ _ _ _ _ 9 (([u0, u1, u2].drop 2).take (Try.prog.cellsOf 9)) = some y2 at f2
        rw [cI] at f0
        rw [cB] at f1
        rw [cS] at f2
        have c0 := hcell 0 (by decide)
        have c1 := hcell 1 (by decide)
        have c2 := hcell 2 (by decide)
        rw [Deep.add_add] at c0 c1 c2
        obtain ⟨k0, e0, _, w0⟩ := DataW.trod_int Try.underlying3 f0
        obtain ⟨k1, e1, _⟩ := DataW.trod_bool Try.underlying4 f1
        obtain ⟨k2, e2, _, w2⟩ := DataW.trod_string Try.underlying9 f2
        obtain rfl : u0 = .int .i64 k0 := (List.cons.inj e0).1
        obtain rfl : u1 = .bool k1 := (List.cons.inj e1).1
        obtain rfl : u2 = .string k2 := (List.cons.inj e2).1
        refine ⟨⟨k0, k1, k2⟩, ⟨by simpa using c0, by simpa using c1, by simpa using c2⟩, bounds_i64 w0, ?_⟩
        unfold maxLen at w2
        show k2.size ≤ 9223372036854775807
        omega)
    refine ⟨some a, cap, l, by rw [hl], fun hne => ?_, fun t ht => ?_, fun t ht => ?_⟩
    · have hp0 : 0 < l.length := List.length_pos_iff.2 hne
      obtain ⟨b, off, spot⟩ := a
      have hspot : spot = none := by simpa [Addr.add] using World.cell?_spot (hp 0 hp0).1.1
      subst hspot
      have hz := (hp 0 hp0).1.1
      refine ⟨b, off, rfl, ?_, fun k hk => ?_⟩
      · have := World.block_lt_of_cell? W _ hz
        simpa [Addr.add] using this
      · obtain ⟨⟨e0, e1, e2⟩, _⟩ := hp k hk
        rw [Addr.add_mid] at e0 e1 e2
        exact ⟨e0, e1, e2⟩
    · obtain ⟨k, hk, rfl⟩ := List.getElem_of_mem ht
      exact (hp k hk).2.1
    · obtain ⟨k, hk, rfl⟩ := List.getElem_of_mem ht
      exact (hp k hk).2.2
theorem open_prs {H : Type} {enc : TypeId × Value → H} {W : World} {held : Bool} {fuel : Nat} {v : Value} {x : DataW H × List MemPlace} {st et : TypeId} {fs : Array Field} (hst : Try.prog.underlying st = some (.slice et)) (het : Try.prog.underlying et = some (.struct fs)) (hfs : fs.map (fun f => (f.type, f.offset)) = #[(3, 0), (3, 1)]) (hce : Try.prog.cellsOf et = 2) (h : DataW.trod enc Try.prog W 0 (fun _ => true) held fuel st [v] = some x) :
    ∃ A c l, v = .slice A (List.length l) c ∧ Prs W A l ∧ PrsBd l := by
  rcases Deep.open_slice hst h with ⟨h1, _⟩ | ⟨a, len, cap, m, n, D, Pl, h1, _, h3, h4, h5, _, h7⟩
  · obtain rfl := (List.cons.inj h1).1
    exact ⟨none, 0, [], rfl, (fun h => absurd rfl h), (fun t h => by cases h)⟩
  · obtain rfl := (List.cons.inj h1).1
    unfold maxLen at h4
    simp only [if_true] at h5
    obtain ⟨F0, F1, hF0, hF1, ht0, ht1, ho0, ho1⟩ : ∃ F0 F1 : Field, fs[0]? = some F0 ∧ fs[1]? = some F1 ∧ F0.type = 3 ∧ F1.type = 3 ∧ F0.offset = 0 ∧ F1.offset = 1 := by
      have g0 := congrArg (fun a => a[0]?) hfs
      have g1 := congrArg (fun a => a[1]?) hfs
      simp only [Array.getElem?_map] at g0 g1
      cases e0 : fs[0]? with
      | none => rw [e0] at g0; cases g0
      | some F0 =>
        cases e1 : fs[1]? with
        | none => rw [e1] at g1; cases g1
        | some F1 =>
          rw [e0] at g0
          rw [e1] at g1
          have g0 : some (F0.type, F0.offset) = some (3, 0) := g0
          have g1 : some (F1.type, F1.offset) = some (3, 1) := g1
          injection g0 with g0
          injection g1 with g1
          exact ⟨F0, F1, rfl, rfl, congrArg Prod.fst g0, congrArg Prod.fst g1, congrArg Prod.snd g0, congrArg Prod.snd g1⟩
    have hfn : fs.size = 2 := by have := congrArg Array.size hfs; simpa using this
    obtain ⟨l, hl, hp⟩ := gather (fun k (t : Pr) => (W.cell? (a.add (k * 2)) = some (.int .i64 t.1) ∧ W.cell? (a.add (k * 2 + 1)) = some (.int .i64 t.2)) ∧ bk.I64 t.1 ∧ bk.I64 t.2) len (fun k hk => by
      obtain ⟨cs', g1, g2⟩ := h7 k (by omega)
      rw [hce] at g1
      obtain ⟨_, hlen, hcell⟩ := World.cells?_some g1
      obtain ⟨xs, n', _, _, _, hxl, hf⟩ := DataW.trod_struct het g2
      rw [hfn] at hxl
      match cs', hlen, xs, hxl with
      | [u0, u1], _, [y0, y1], _ =>
        have f0 := hf 0 _ hF0
        have f1 := hf 1 _ hF1
        rw [ht0, ho0, cI] at f0
        rw [ht1, ho1, cI] at f1
        have c0 := hcell 0 (by decide)
        have c1 := hcell 1 (by decide)
        rw [Deep.add_add] at c0 c1
        obtain ⟨k0, e0, _, w0⟩ := DataW.trod_int Try.underlying3 f0
        obtain ⟨k1, e1, _, w1⟩ := DataW.trod_int Try.underlying3 f1
        obtain rfl : u0 = .int .i64 k0 := (List.cons.inj e0).1
        obtain rfl : u1 = .int .i64 k1 := (List.cons.inj e1).1
        exact ⟨(k0, k1), ⟨by simpa using c0, by simpa using c1⟩, bounds_i64 w0, bounds_i64 w1⟩)
    refine ⟨some a, cap, l, by rw [hl], fun hne => ?_, fun t ht => ?_⟩
    · have hp0 : 0 < l.length := List.length_pos_iff.2 hne
      obtain ⟨b, off, spot⟩ := a
      have hspot : spot = none := by simpa [Addr.add] using World.cell?_spot (hp 0 hp0).1.1
      subst hspot
      have hz := (hp 0 hp0).1.1
      refine ⟨b, off, rfl, ?_, fun k hk => ?_⟩
      · have := World.block_lt_of_cell? W _ hz
        simpa [Addr.add] using this
      · obtain ⟨⟨e0, e1⟩, _⟩ := hp k hk
        rw [Addr.add_mid] at e0 e1
        exact ⟨e0, e1⟩
    · obtain ⟨k, hk, rfl⟩ := List.getElem_of_mem ht
      exact (hp k hk).2
theorem field_one {H : Type} {enc : TypeId × Value → H} {W : World} {n : Nat} {l : List Value} {k : Nat} {c : Value} {xs : List (DataW H × List MemPlace)} {t : TypeId} (hc : Try.prog.cellsOf t = 1) (hl : l[k]? = some c) (hk : k < xs.length)
    (h : DataW.trod enc Try.prog W 0 (fun _ => true) true n t ((l.drop k).take (Try.prog.cellsOf t)) = xs[k]?) : ∃ y, DataW.trod enc Try.prog W 0 (fun _ => true) true n t [c] = some y := by
  rw [List.getElem?_eq_getElem hk, hc] at h
  have e : (l.drop k).take 1 = [c] := by
    obtain ⟨h1, h2⟩ := List.getElem?_eq_some_iff.1 hl
    rw [List.drop_eq_getElem_cons h1, h2]
    rfl
  rw [e] at h
  exact ⟨_, h⟩
theorem open_zone {H : Type} {enc : TypeId × Value → H} {W : World} {base : Nat} {v : Value} {d : DataW H} {p : List MemPlace} (hv : Value.okWide Try.prog W .any base 26 v) (h : DataW.Trod enc Try.prog W 0 (fun _ => true) true 26 v d p) :
    ∃ (A : Option Addr) (a : Nat) (B : Option Addr) (b : Nat) (C : Option Addr) (c : Nat) (z : Zn), v = (.agg #[.slice A z.ty.length a, .slice B z.tr.length b, .slice C z.lp.length c, .string z.ft, .int .i64 z.v]) ∧ Zr W A B C z ∧ Bd z := by
  obtain ⟨cs, rfl, hsz⟩ := okWide_struct Try.underlying26 hv
  rw [cZ] at hsz
  obtain ⟨l⟩ := cs
  obtain ⟨fuel, hf⟩ := h
  have hf' : DataW.trod enc Try.prog W 0 (fun _ => true) true fuel 26 l = some (d, p) := hf
  obtain ⟨xs, m, _, hx, hl, hn, hel⟩ := DataW.trod_struct Try.underlying26 hf'
  have hsz' : l.length = 5 := hsz
  have hn' : xs.length = 5 := hn
  match l, hsz' with
  | [c0, c1, c2, c3, c4], _ =>
    obtain ⟨y0, t0⟩ := field_one (k := 0) cT1 rfl (by omega) (hel 0 _ rfl)
    obtain ⟨y1, t1⟩ := field_one (k := 1) cT2 rfl (by omega) (hel 1 _ rfl)
    obtain ⟨y2, t2⟩ := field_one (k := 2) cT3 rfl (by omega) (hel 2 _ rfl)
    obtain ⟨y3, t3⟩ := field_one (k := 3) cS rfl (by omega) (hel 3 _ rfl)
    obtain ⟨y4, t4⟩ := field_one (k := 4) cI rfl (by omega) (hel 4 _ rfl)
    obtain ⟨A, a, lt, rfl, h1, h2, h3⟩ := open_tys t0
    obtain ⟨B, b, lr, rfl, h4, h5⟩ := open_prs Try.underlying23 Try.underlying48 (by simp) cQ t1
    obtain ⟨C, c, ll, rfl, h6, h7⟩ := open_prs Try.underlying24 Try.underlying50 (by simp) cR t2
    obtain ⟨ft, e3, _, w3⟩ := DataW.trod_string Try.underlying9 t3
    obtain ⟨vv, e4, _, w4⟩ := DataW.trod_int Try.underlying3 t4
    obtain rfl := (List.cons.inj e3).1
    obtain rfl := (List.cons.inj e4).1
    refine ⟨A, a, B, b, C, c, ⟨lt, lr, ll, ft, vv⟩, rfl, ⟨h1, h4, h6⟩, ⟨h2, h5, h7, bounds_i64 w4, fun x hx => ?_⟩⟩
    obtain ⟨t, ht, rfl⟩ := List.mem_map.1 hx
    exact h3 t ht
end Go.Proofs.Ytkdmecpelfcbmaa.blk
