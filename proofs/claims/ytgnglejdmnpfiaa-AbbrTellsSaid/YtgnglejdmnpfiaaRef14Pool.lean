/-
  What the document's own Pool of layer 14 answers: the same as the plain function. Condition: there are at most a hundred names, and each is no longer than an int can tell.
-/
import Derived.Test.YtgnglejdmnpfiaaRef14
namespace Go.Proofs.Ytgnglejdmnpfiaa.ref14
open Go.ChangeShapes Go.WideShapes Go.ChangeAt Go.RowKit
open lx ab mem abr
set_option linter.unusedVariables false
set_option maxRecDepth 100000

def QHead (X : List ByteArray) (w : World) (p o i : Value) (W : World) : Prop :=
  ∃ (j : Nat) (u : Value), j ≤ X.length ∧ p = .string (B (pl (dst ((X.take j).map L)))) ∧ u = o ∧ i = .int .i64 (j : Nat) ∧ (∀ y ∈ (X.take j).map L, rt y = true) ∧ IOwn w.heap.size W u (((X.take j).map L).map fun y => (st y (dst ((X.take j).map L)) : Int)) ∧ (pl (dst ((X.take j).map L))).length ≤ 17 * j ∧ Below w.heap.size w W
/-- where a name was, as far as it was looked for. -/
def aw (X : List ByteArray) (x : ByteArray) (i t : Nat) : Int := if L x ∈ (X.take t).map L then (st (L x) (dst ((X.take i).map L)) : Int) else -1
def KHead (X : List ByteArray) (x : ByteArray) (i : Nat) (w W0 : World) (a k : Value) (W : World) : Prop := ∃ t : Nat, t ≤ i ∧ a = .int .i64 (aw X x i t) ∧ k = .int .i64 (t : Nat) ∧ Below w.heap.size w W ∧ Below W0.heap.size W0 W
theorem aw_same {X : List ByteArray} {x : ByteArray} {i t : Nat} (ht : t < X.length) (h : X[t] = x) : aw X x i (t + 1) = (st (L X[t]) (dst ((X.take i).map L)) : Int) := by
  unfold aw
  rw [take_snoc ht, if_pos (by simp [h]), h]
theorem aw_other {X : List ByteArray} {x : ByteArray} {i t : Nat} (ht : t < X.length) (h : X[t] ≠ x) : aw X x i (t + 1) = aw X x i t := by
  unfold aw
  rw [take_snoc ht]
  have : L x ∈ (X.take t).map L ++ [L X[t]] ↔ L x ∈ (X.take t).map L := by
    rw [List.mem_append, List.mem_singleton]
    constructor
    · rintro (k | k)
      · exact k
      · exact absurd (L_inj k).symm h
    · exact .inl
  by_cases k : L x ∈ (X.take t).map L
  · rw [if_pos (this.2 k), if_pos k]
  · rw [if_neg (fun q => k (this.1 q)), if_neg k]
theorem ints_own_n {w : World} {base : Nat} {v : Value} {l : List Int} (h : IOwn base w v l) {n : Nat} (hn : l.length = n) : ∃ A c, v = .slice A n c ∧ Ints w A l := by
  subst hn
  obtain ⟨A, c, e, hi, _⟩ := ints_own h
  exact ⟨A, c, e, hi⟩
theorem name_on (X : List ByteArray) (x : ByteArray) : B (pl (dst (X.map L))) ++ x ++ ⟨#[0]⟩ = B (pl (dst (X.map L)) ++ L x ++ [0]) := by
  rw [← B_app, ← B_app, B_L]
  rfl
set_option maxRecDepth 100000 in
set_option maxHeartbeats 8000000 in
theorem pool_at (X : List ByteArray) (A : Option Addr) (cap : Nat) (w : World) (hS : lines.Strs w A X) (hn : X.length ≤ 100) (hz : ∀ x ∈ X, x.size ≤ 9223372036854775807) : Calls Try.prog 9 #[.slice A X.length cap] w (PTold (X.map L) w) := by
  have HZ := Lib.hid hz
  clear hz
  go_enter Try.func9, Try.ntmps9
  go_wp2
  go_loopw [5, 6, 7] (fun p o i W => QHead X w p o i W) (fun _ _ i _ => X.length - (intOf i).toNat)
  case atStart => exact ⟨0, _, Nat.zero_le _, rfl, rfl, rfl, by simp, World.ownsRow_nil w _ _ _, by simp [dst, pl], Below.refl _ _⟩
  case round =>
    obtain ⟨i, u, hi, rfl, rfl, rfl, hr, ho, hl, hb⟩ := hrel
    by_cases hlt : i < X.length
    · obtain ⟨g, o, rfl, hgl, hcell⟩ := hS (by intro e; rw [e] at hlt; simp at hlt)
      have CE := Lib.hid (fun W (hb : Below w.heap.size w W) k (hk : k < X.length) => (hb.cell (p := ⟨g, o + k, none⟩) hgl).trans (hcell k hk))
      have hxz := HZ.out _ (List.getElem_mem hlt)
      have hsn := take_snoc hlt
      have BR := Lib.hid (bad_right hlt)
      have CI := Lib.hid (fun W hb => CE.out W hb i hlt)
      have AS := Lib.hid (fun t (ht : t < X.length) (h : X[t]'ht = X[i]'hlt) => aw_same (i := i) ht h)
      have AO := Lib.hid (fun t (ht : t < X.length) (h : X[t]'ht ≠ X[i]'hlt) => aw_other (i := i) ht h)
      generalize hx : X[i]'hlt = x at *
      have RI := Lib.hid (fun W => right_at x W hxz)
      have ci := CI.out wr hb
      cases hq : rt (L x) with
      | false =>
        rw [hq] at RI
        have R := Lib.hid (ptold_no (BR.out hq) hb)
        clear hr ho hl hcell hsn BR CE CI AS AO hq hx hgl hS hxz
        go_wp2_with (go_at_call 14; (with_reducible refine (RI.out _).mono ?_); rintro e w' ⟨rfl, rfl⟩)
        go_ret3
        exact R.out
      | true =>
        rw [hq] at RI
        have hxs : x.size ≤ 16 := ((rt_iff _).1 hq).2.1
        have hYl : (((X.take i).map L).map fun y => (st y (dst ((X.take i).map L)) : Int)).length = i := by rw [List.length_map, List.length_map, List.length_take]; omega
        obtain ⟨A2, c2, rfl, hi2⟩ := ints_own_n ho hYl
        have C2 : Hid (∀ W, Below wr.heap.size wr W → ∀ k, (hk : k < i) → ∃ g o, A2 = some ⟨g, o, none⟩ ∧ W.cell? ⟨g, o + k, none⟩ = some (.int .i64 (st (L (X[k]'(Nat.lt_trans hk hlt))) (dst ((X.take i).map L)) : Nat))) := fun W hW k hk => by
          obtain ⟨g, o, e1, e2, e3⟩ := hi2.below hW (by intro e; rw [e] at hYl; simp at hYl; omega)
          refine ⟨g, o, e1, ?_⟩
          rw [e3 k (by omega)]
          simp
        have I0 : Hid (KHead X x i w wr (.int .i64 (-1)) (.int .i64 0) wr) := ⟨0, Nat.zero_le _, rfl, rfl, hb, Below.refl _ _⟩
        have HO := Lib.hid ho
        have HL : Hid ((((X.take i).map L).map fun y => (st y (dst ((X.take i).map L)) : Int)).length < 8000000000) := by show _ < _; rw [hYl]; omega
        have hps : (B (pl (dst ((X.take i).map L)))).size ≤ 17 * i := by rw [B_size]; exact hl
        have HPL : Hid ((B (pl (dst ((X.take i).map L)))).size = (pl (dst ((X.take i).map L))).length) := B_size _
        have RR : Hid (∀ y ∈ (X.take (i + 1)).map L, rt y = true) := fun y hy => by
          rw [hsn] at hy
          rcases List.mem_append.1 hy with k | k
          · exact hr y k
          · rw [List.mem_singleton.1 k]; exact hq
        have RH : Hid (L x ∈ (X.take i).map L → ∀ v' W1, IOwn w.heap.size W1 v' ((((X.take i).map L).map fun y => (st y (dst ((X.take i).map L)) : Int)) ++ [(st (L x) (dst ((X.take i).map L)) : Int)]) → Below w.heap.size w W1 → QHead X w (.string (B (pl (dst ((X.take i).map L))))) v' (.int .i64 ((i : Int) + 1)) W1) := fun hin v' W1 h1 h2 => by
          have ed : dst ((X.take (i + 1)).map L) = dst ((X.take i).map L) := by rw [hsn, dst_snoc, nx_had ((dst_mem _ _).2 hin)]
          refine ⟨i + 1, v', hlt, by rw [ed], rfl, rfl, RR.out, ?_, by rw [ed]; omega, h2⟩
          rw [hsn, at_snoc, nx_had ((dst_mem _ _).2 hin)]
          exact h1
        have RW : Hid (L x ∉ (X.take i).map L → ∀ v' W1, IOwn w.heap.size W1 v' ((((X.take i).map L).map fun y => (st y (dst ((X.take i).map L)) : Int)) ++ [((pl (dst ((X.take i).map L))).length : Int)]) → Below w.heap.size w W1 → QHead X w (.string (B (pl (dst ((X.take i).map L))) ++ x ++ ⟨#[0]⟩)) v' (.int .i64 ((i : Int) + 1)) W1) := fun hin v' W1 h1 h2 => by
          have hin2 : L x ∉ dst ((X.take i).map L) := fun k => hin ((dst_mem _ _).1 k)
          have ed : dst ((X.take (i + 1)).map L) = dst ((X.take i).map L) ++ [L x] := by rw [hsn, dst_snoc, nx_new hin2]
          refine ⟨i + 1, v', hlt, by rw [ed, pl_snoc, name_on], rfl, rfl, RR.out, ?_, ?_, h2⟩
          · rw [hsn, at_snoc, nx_new hin2, st_new hin2]
            exact h1
          · rw [ed, pl_snoc, List.length_append, List.length_append, L_len, List.length_singleton]
            omega
        clear hr ho hl hcell hsn BR hq hi2 hYl RR hS hxz
        generalize (((X.take i).map L).map fun y => (st y (dst ((X.take i).map L)) : Int)) = ns at *
        generalize B (pl (dst ((X.take i).map L))) = P at *
        generalize wr = W0 at *
        go_wp2_with (go_at_call 14; (with_reducible refine (RI.out _).mono ?_); rintro e w' ⟨rfl, rfl⟩)
        go_loopw [8, 9] (fun a k W => KHead X x i w W0 a k W) (fun _ k _ => i - (intOf k).toNat)
        case atStart => exact I0.out
        case round =>
          clear I0 ci
          obtain ⟨t, ht, rfl, rfl, hb3, hb0⟩ := hrel
          have ci := CI.out wr hb3
          by_cases htl : t < i
          · have ct := CE.out wr hb3 t (by omega)
            have htx : t < X.length := by omega
            have exy := beq_s (X[t]'htx) x
            cases hd : decide (X[t]'htx = x) with
            | true =>
              rw [hd] at exy
              have ea := AS.out t htx (of_decide_eq_true hd)
              obtain ⟨g2, o2, rfl, hc2⟩ := C2.out wr hb0 t htl
              have R : Hid (∀ W, Below w.heap.size w W → Below W0.heap.size W0 W → KHead X x i w W0 (.int .i64 (st (L (X[t]'htx)) (dst ((X.take i).map L)) : Nat)) (.int .i64 ((t : Int) + 1)) W) := fun W h1 h2 => ⟨t + 1, htl, by rw [ea], rfl, h1, h2⟩
              clear ea hd CE AS AO C2 RH RW hx HO
              generalize ((st (L (X[t]'htx)) (dst ((X.take i).map L)) : Nat) : Int) = av at *
              generalize X[t]'htx = y at *
              go_wp2
              go_quiet (fail)
              go_wp2
              go_roundw
              case rel => exact R.out _ (bel_drewN hb3 _) (bel_drewN hb0 _)
              case measure => simp [intOf]; omega
            | false =>
              rw [hd] at exy
              have ea := AO.out t htx (of_decide_eq_false hd)
              have R : Hid (∀ W, Below w.heap.size w W → Below W0.heap.size W0 W → KHead X x i w W0 (.int .i64 (aw X x i t)) (.int .i64 ((t : Int) + 1)) W) := fun W h1 h2 => ⟨t + 1, htl, by rw [ea], rfl, h1, h2⟩
              clear ea hd CE AS AO C2 RH RW hx HO
              generalize aw X x i t = av at *
              generalize X[t]'htx = y at *
              go_wp2
              go_quiet (fail)
              go_wp2
              go_roundw
              case rel => exact R.out _ (bel_drewN hb3 _) (bel_drewN hb0 _)
              case measure => simp [intOf]; omega
          · obtain rfl : t = i := by omega
            have HB := Lib.hid hb3
            have HOW : Hid (IOwn w.heap.size wr (.slice A2 t c2) ns) := bldr.row_keep HO.out hb0
            by_cases hin : L x ∈ (X.take t).map L
            · have ea : aw X x t t = (st (L x) (dst ((X.take t).map L)) : Int) := if_pos hin
              rw [ea]
              have R := Lib.hid (RH.out hin)
              clear ea CE AS AO C2 RH RW hx hin HO
              generalize st (L x) (dst ((X.take t).map L)) = av at *
              go_wp2_with (at_builtin; refine app_int rfl _ _ rfl w.heap.size wr (.slice A2 t c2) ns (av : Int) rfl rfl HOW.out HL.out HB.out.size ?_; intro v' w1 ho' hg)
              go_roundw
              case rel => exact R.out _ _ ho' (iown_below HOW.out HB.out HB.out.size hg)
              case measure => simp [intOf]; omega
            · have ea : aw X x t t = -1 := if_neg hin
              rw [ea]
              have R := Lib.hid (RW.out hin)
              rw [← HPL.out] at R
              clear ea CE AS AO C2 RH RW hx hin HO HPL
              go_wp2_with (at_builtin; refine app_int rfl _ _ rfl w.heap.size wr (.slice A2 t c2) ns (P.size : Int) rfl rfl HOW.out HL.out HB.out.size ?_; intro v' w1 ho' hg)
              go_roundw
              case rel => exact R.out _ _ ho' (iown_below HOW.out HB.out HB.out.size hg)
              case measure => simp [intOf]; omega
    · obtain rfl : i = X.length := by omega
      rw [List.take_length] at hr ho hl
      rw [List.take_length]
      have hz : (B (pl (dst (X.map L)))).size = (pl (dst (X.map L))).length := B_size _
      by_cases hle : (pl (dst (X.map L))).length ≤ 256
      · have R := Lib.hid (ptold_yes ((ok_iff _).2 ⟨hr, hle⟩) hb ho)
        rw [← hz] at hle
        clear hr ho hl hz hS
        generalize B (pl (dst (X.map L))) = P at *
        go_wp2
        go_ret3
        exact R.out
      · have hok : okB (X.map L) = false := by
          rw [← Bool.not_eq_true, ok_iff]
          exact fun k => hle k.2
        have R := Lib.hid (ptold_no hok hb)
        rw [← hz] at hle
        clear hr ho hl hz hS hok
        generalize B (pl (dst (X.map L))) = P at *
        go_wp2
        go_ret3
        exact R.out
end Go.Proofs.Ytgnglejdmnpfiaa.ref14
