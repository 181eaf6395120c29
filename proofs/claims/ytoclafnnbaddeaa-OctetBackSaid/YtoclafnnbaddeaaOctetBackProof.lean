/-
  OctetBack: numbers that were laid, one behind the other, are read as they were, and no more of them, for any numbers, each in any size. No condition.
-/
import Derived.Test.YtoclafnnbaddeaaOctActs
import Derived.BigQuiet
import Derived.Deep.RegionWith
import Derived.BigRegion
namespace Go.Proofs.Ytoclafnnbaddeaa.octetBack
open Go.ChangeShapes Go.WideShapes Go.ChangeAt Go.RowKit
open om mem oct
set_option linter.unusedVariables false
set_option maxRecDepth 100000

theorem Old.drew {W : World} {v : Value} {l : List Nat} (h : Old W v l) : Old W.drew v l := h.below (bel_drewN (Below.refl _ _) 1)
/-- at the head of a round that lays. -/
def PHead (l : List Ac) (W0 : World) (b s i : Value) (W : World) : Prop :=
  ∃ (k : Nat) (A : Option Addr) (c : Nat) (v : Value), k ≤ l.length ∧ i = .int .i64 (k : Nat) ∧ b = .slice A (bytA (keptA (l.take k))).length c ∧ v = s ∧ Own W0.heap.size W b (bytA (keptA (l.take k))) ∧ W.ownsRow W0.heap.size 32 2 v (keptA (l.take k)).length (acs (keptA (l.take k))) ∧ Below W0.heap.size W0 W
/-- what the bytes of a call, and what follows, are read as. -/
theorem read_one (a : Ac) (r : List Nat) (hf : fitB a.2 a.1 = true) (hn : I64 a.2) : okB (nz a.1) (lay a.2 a.1.toNat ++ r) = true ∧ rd (pre (nz a.1) (lay a.2 a.1.toNat ++ r)) = a.2 ∧ rst (nz a.1) (lay a.2 a.1.toNat ++ r) = r := by
  have hF := fit_iff.1 hf
  have hs := fit_sz hF
  have hL := lay_len a.2 a.1.toNat
  rw [nz_yes hs]
  have hB : okB a.1 (lay a.2 a.1.toNat ++ r) = true := by
    rw [ok_iff, List.length_append, hL]
    unfold Sz at hs
    omega
  refine ⟨hB, ?_, ?_⟩
  · rw [pre_yes hB, List.take_left' hL]
    exact rd_lay hF hn.1 hn.2
  · rw [rst_yes hB, List.drop_left' hL]
/-- at the head of a round that reads. -/
def QHead (m : List Ac) (lo hi g : Nat) (As : Option Addr) (w0 : World) (i : Value) (W : World) : Prop :=
  ∃ j : Nat, j ≤ m.length ∧ i = .int .i64 (j : Nat) ∧ Rdr 44 lo hi W g (bytA (m.drop j)) false ∧ AcB lo W As m ∧ Below w0.heap.size w0 W
theorem row_kept {base size n : Nat} {e : TypeId} {W W' : World} {v : Value} {xs : List Value} (h : W.ownsRow base e size v n xs) (hb : Below W.heap.size W W') : W'.ownsRow base e size v n xs := by
  refine ⟨h.1, ?_⟩
  rcases h.2 with ⟨rfl, hn⟩ | ⟨g, cap, cur, rfl, hbs, hh, r⟩
  · exact Or.inl ⟨rfl, hn⟩
  · exact Or.inr ⟨g, cap, cur, rfl, hbs, kept hh hb, r⟩
/-- bytes are kept where a row of calls grows. -/
theorem own_apart {W W' : World} {v u : Value} {l : List Nat} {base n : Nat} {xs : List Value} (h : Own base W v l) (ho : W.ownsRow base 32 2 u n xs) (hg : W.grownBy W' u.ownBlock) : Own base W' v l := by
  refine World.ownsRow.kept h hg ?_
  rcases h.2 with ⟨rfl, _⟩ | ⟨g, cap, cur, rfl, _, hh, _⟩
  · exact Or.inl rfl
  · refine Or.inr fun e => ?_
    rcases ho.2 with ⟨rfl, _⟩ | ⟨g', cap', cur', rfl, _, hh', _⟩
    · cases e
    · have e' : g = g' := Option.some.inj e
      subst e'
      rw [hh] at hh'
      have := Option.some.inj hh'
      injection this with _ h2 _
      exact absurd h2 (by decide)
theorem below_drew (W : World) : Below W.heap.size W W.drew := bel_drewN (Below.refl _ _) 1
set_option maxHeartbeats 8000000 in
set_option maxRecDepth 100000 in
theorem walk (w : World) (l : List Ac) (A : Option Addr) (c : Nat) (hl : Acs w A l) (hn : l.length ≤ 9223372036854775807) (hI : I64s l) : Calls Try.prog 4 #[.slice A l.length c] w fun e w' => e = .returned (.bool true) ∧ Below w.heap.size w w' := by
  have SM := Lib.hid (small_at w)
  by_cases hbig : 100 < l.length
  · clear hl hI
    go_enter Try.func4, Try.ntmps4
    go_wp2_with (go_at_call 9; (with_reducible refine SM.out.mono ?_); rintro e w1 ⟨rfl, hb1⟩; have H1 := Lib.hid hb1; clear hb1)
    go_ret
    exact ⟨rfl, H1.out⟩
  have hsm : l.length ≤ 100 := by omega
  clear hbig hn
  have dz : decide (100 < (l.length : Int)) = false := by simp; omega
  go_enter Try.func4, Try.ntmps4
  go_wp2_with (go_at_call 9; (with_reducible refine SM.out.mono ?_); rintro e w1 ⟨rfl, hb1⟩; have H1 := Lib.hid hb1; have HL := Lib.hid (hl.below hb1 rfl); clear hb1 SM hl)
  have HI := Lib.hid hI
  clear hI
  go_loopw [4, 5, 6] (fun b s i W => PHead l w1 b s i W) (fun _ _ i _ => l.length - (intOf i).toNat)
  case atStart => exact ⟨0, none, 0, _, Nat.zero_le _, rfl, rfl, rfl, own_none _ _, World.ownsRow_nil _ _ _ _, Below.refl _ _⟩
  case round =>
    obtain ⟨k, Ab, cb, v, hk, rfl, rfl, rfl, hold, hown, hb⟩ := hrel
    have hb8 := byt_len_take l k hk
    by_cases hlt : k < l.length
    · obtain ⟨bb, oo, rfl, hb0, hc⟩ := HL.out.below hb rfl (List.ne_nil_of_length_pos (by omega))
      obtain ⟨x0, x1⟩ := hc k hlt
      obtain ⟨i1, i2⟩ := HI.out k hlt
      have HOLD := Lib.hid hold
      have HOWN := Lib.hid hown
      have HB := Lib.hid hb
      have YC : Hid (∀ W, Below wr.heap.size wr W → W.cell? ⟨bb, oo + k * 2, none⟩ = some (.int .i64 l[k].1) ∧ W.cell? ⟨bb, oo + k * 2 + 1, none⟩ = some (.int .i64 l[k].2)) := Lib.hid fun W h => ⟨(h.cell (p := ⟨bb, oo + k * 2, none⟩) (World.block_lt_of_cell? wr _ x0)).trans x0, (h.cell (p := ⟨bb, oo + k * 2 + 1, none⟩) (World.block_lt_of_cell? wr _ x1)).trans x1⟩
      have PT : Hid (∀ W, Own w1.heap.size W (.slice Ab (bytA (keptA (l.take k))).length cb) (bytA (keptA (l.take k))) → w1.heap.size ≤ W.heap.size → Calls Try.prog 10 #[.slice Ab (bytA (keptA (l.take k))).length cb, .int .i64 l[k].2, .int .i64 l[k].1] W fun e w' => ∃ A' c', e = .returned (.tuple #[.slice A' (put (bytA (keptA (l.take k))) l[k].2 l[k].1).length c', .bool (fitB l[k].2 l[k].1)]) ∧ Own w1.heap.size w' (.slice A' (put (bytA (keptA (l.take k))) l[k].2 l[k].1).length c') (put (bytA (keptA (l.take k))) l[k].2 l[k].1) ∧ Below W.heap.size W w') := Lib.hid fun W h hWs => by
        refine (put_at _ _ l[k].2 l[k].1 W i2 i1 (own_by h).rd (by omega)).mono ?_
        rintro e w' ⟨v', rfl, ho, hbb⟩
        obtain ⟨A', c', rfl⟩ := own_len ho
        exact ⟨A', c', rfl, own_mono ho hWs, hbb⟩
      have KL : Hid ((keptA (l.take k)).length < 8000000000000) := Lib.hid (by have := kept_len (l.take k); rw [List.length_take] at this; omega)
      have c0 := (YC.out _ (below_drew wr)).1
      have c1 := (YC.out _ (below_drew wr)).2
      by_cases hf : fitB l[k].2 l[k].1 = true
      · have hsz := fit_sz (fit_iff.1 hf)
        have RN : Hid (∀ A' c' v' W', Own w1.heap.size W' (.slice A' (put (bytA (keptA (l.take k))) l[k].2 l[k].1).length c') (put (bytA (keptA (l.take k))) l[k].2 l[k].1) → W'.ownsRow w1.heap.size 32 2 v' (keptA (l.take k) ++ [(l[k].1, l[k].2)]).length (acs (keptA (l.take k) ++ [(l[k].1, l[k].2)])) → Below w1.heap.size w1 W' → PHead l w1 (.slice A' (put (bytA (keptA (l.take k))) l[k].2 l[k].1).length c') v' (.int .i64 ((k : Int) + 1)) W') := Lib.hid fun A' c' v' W' h1 h2 h3 => by
          have e1 := kept_take_yes l k hlt hf
          have e2 : bytA (keptA (l.take (k + 1))) = put (bytA (keptA (l.take k))) l[k].2 l[k].1 := by rw [e1, byt_snoc, put_yes hf]
          exact ⟨k + 1, A', c', v', by omega, rfl, by rw [e2], rfl, by rw [e2]; exact h1, by rw [e1]; exact h2, h3⟩
        have tl : (((put (bytA (keptA (l.take k))) l[k].2 l[k].1).length : Nat) : Int) = ((bytA (keptA (l.take k))).length : Int) + l[k].1 := by
          rw [put_yes hf, List.length_append, lay_len]; unfold Sz at hsz; omega
        obtain ⟨d1, d2⟩ : 1 ≤ l[k].1 ∧ l[k].1 ≤ 8 := by unfold Sz at hsz; omega
        rw [hf] at PT
        clear hold hown hb hsz hf x0 x1 hc hb0 HI HL
        generalize (put (bytA (keptA (l.take k))) l[k].2 l[k].1) = P1 at *
        generalize (bytA (keptA (l.take k))) = P0 at *
        generalize keptA (l.take k) = K0 at *
        generalize hd : l[k].1 = d at *
        generalize hnn : l[k].2 = n at *
        clear hd hnn
        have t1 : (((P1.length : Nat) : Int) != ((P0.length : Nat) : Int) + d) = false := by simp; omega
        generalize P1.length = M1 at *
        have TL := Lib.hid tl
        clear tl
        go_wp2
        go_region_with (go_at_call 10; (with_reducible refine (PT.out _ (own_kept HOLD.out (below_drew wr)) (Nat.le_trans HB.out.size (below_drew wr).size)).mono ?_); rintro e w2 ⟨A2, c2, rfl, y2, hb2⟩; have Y2 := Lib.hid y2; have B2 := Lib.hid (btr (below_drew wr) hb2); have c3 := (YC.out _ B2.out).1; have c4 := (YC.out _ B2.out).2; clear y2 hb2)
        all_goals
          go_wp2_with (at_builtin; refine app_act rfl _ _ rfl w1.heap.size w2 v K0 d n rfl rfl (row_kept HOWN.out B2.out) KL.out (Nat.le_trans HB.out.size B2.out.size) ?_; intro v5 w5 ho5 hg5; have HO5 := Lib.hid ho5; have HG5 := Lib.hid hg5; clear ho5 hg5)
          exact ⟨RN.out _ _ _ _ (own_apart Y2.out (row_kept HOWN.out B2.out) HG5.out) HO5.out ((btr HB.out B2.out).grown HG5.out (Nat.le_trans HB.out.size B2.out.size) fun k hk => ((row_kept HOWN.out B2.out).lt k hk).1), by simp [intOf]; omega⟩
      · have hf' : fitB l[k].2 l[k].1 = false := by simpa using hf
        have RN : Hid (∀ W', Own w1.heap.size W' (.slice Ab (bytA (keptA (l.take k))).length cb) (bytA (keptA (l.take k))) → W'.ownsRow w1.heap.size 32 2 v (keptA (l.take k)).length (acs (keptA (l.take k))) → Below w1.heap.size w1 W' → PHead l w1 (.slice Ab (bytA (keptA (l.take k))).length cb) v (.int .i64 ((k : Int) + 1)) W') := Lib.hid fun W' h1 h2 h3 => by
          have e1 := kept_take_no l k hlt hf'
          exact ⟨k + 1, Ab, cb, v, by omega, rfl, by rw [e1], rfl, by rw [e1]; exact h1, by rw [e1]; exact h2, h3⟩
        rw [hf', put_no hf'] at PT
        clear hold hown hb hf hf' x0 x1 hc hb0 HI HL
        have CS := Lib.hid (fun W v (h : Own w1.heap.size W v (bytA (keptA (l.take k)))) => str_of (own_by h).rd)
        generalize strN (bytA (keptA (l.take k))) = s0 at *
        generalize (bytA (keptA (l.take k))) = P0 at *
        generalize keptA (l.take k) = K0 at *
        generalize hd : l[k].1 = d at *
        generalize hnn : l[k].2 = n at *
        clear hd hnn
        go_wp2
        go_region_with (go_at_call 10; (with_reducible refine (PT.out _ (own_kept HOLD.out (below_drew wr)) (Nat.le_trans HB.out.size (below_drew wr).size)).mono ?_); rintro e w2 ⟨A2, c2, rfl, y2, hb2⟩; have Y2 := Lib.hid y2; have B2 := Lib.hid (btr (below_drew wr) hb2); have c3 := (YC.out _ B2.out).1; have c4 := (YC.out _ B2.out).2; have q1 := CS.out _ _ y2; have q2 := CS.out _ _ (own_kept HOLD.out B2.out); clear y2 hb2)
        all_goals
          go_wp2
          exact ⟨RN.out _ (own_kept HOLD.out B2.out) (row_kept HOWN.out B2.out) (btr HB.out B2.out), by simp [intOf]; omega⟩
    · obtain rfl : k = l.length := by omega
      rw [List.take_length] at hown hold hb8 ⊢
      have OP := Lib.hid (open_at _ _ wr (own_by hold).rd (by omega))
      obtain ⟨As, cs, ev, hac⟩ := acB_own hown
      subst ev
      have HAC := Lib.hid hac
      have HB := Lib.hid hb
      have ML : Hid (∀ a ∈ keptA l, fitB a.2 a.1 = true) := Lib.hid fun a ha => kept_fit ha
      have MB : Hid (∀ a ∈ keptA l, I64 a.1 ∧ I64 a.2) := Lib.hid (kept_bd HI.out)
      have MN : (keptA l).length ≤ 100 := by have := kept_len l; omega
      clear hac hown hold hb HI HL
      generalize keptA l = m at *
      have HB8 := Lib.hid hb8
      clear hb8
      go_wp2_with (go_at_call 12; (with_reducible refine OP.out.mono ?_); rintro e w2 ⟨g, rfl, r2, hb2⟩; have R2 := Lib.hid r2; have B2 := Lib.hid (btr HB.out hb2); have A2 := Lib.hid (HAC.out.below hb2); have G2 := Lib.hid (Nat.le_trans HB.out.size r2.1); clear r2 hb2 OP HAC)
      generalize hlo : wr.heap.size = lo at *
      generalize hhi : w2.heap.size = hi at *
      have HLO := Lib.hid hlo
      have HHI := Lib.hid hhi
      clear hlo hhi
      go_loopw [10] (fun i W => QHead m lo hi g As w1 i W) (fun i _ => m.length - (intOf i).toNat)
      case atStart => exact ⟨0, Nat.zero_le _, rfl, R2.out, A2.out, B2.out⟩
      case round =>
        obtain ⟨j, hj, rfl, hr, hac, hb⟩ := hrel
        by_cases hlt : j < m.length
        · have em : m.drop j = m[j] :: m.drop (j + 1) := List.drop_eq_getElem_cons hlt
          have hf := ML.out _ (List.getElem_mem hlt)
          obtain ⟨i1, i2⟩ := MB.out _ (List.getElem_mem hlt)
          obtain ⟨e1, e2, e3⟩ := read_one m[j] (bytA (m.drop (j + 1))) hf i2
          have hbl := byt_len (m.drop (j + 1)) (fun a ha => ML.out a (List.mem_of_mem_drop ha))
          have hln : (lay m[j].2 m[j].1.toNat ++ bytA (m.drop (j + 1))).length ≤ 1000 := by
            have hs := fit_sz (fit_iff.1 hf)
            unfold Sz at hs
            rw [List.length_drop] at hbl
            rw [List.length_append, lay_len]
            omega
          rw [em, byt_cons] at hr
          have hbys : Bys (lay m[j].2 m[j].1.toNat ++ bytA (m.drop (j + 1))) := (lay_bys _ _).app (byt_bys _)
          obtain ⟨bb, oo, ea, hb0, hc⟩ := hac (List.ne_nil_of_length_pos (by omega))
          subst ea
          obtain ⟨x0, x1⟩ := hc j hlt
          have NU := Lib.hid (show Calls Try.prog 14 #[.pointer (some ⟨g, 0, none⟩), .int .i64 m[j].1] wr.drew fun e w' => e = .returned (.int .i64 m[j].2) ∧ Rdr 44 lo hi w' g (bytA (m.drop (j + 1))) false ∧ Keep g wr.drew w' by
            have := num_at lo hi wr.drew g _ false m[j].1 (hr.below (below_drew wr)) i1 (by omega) hbys
            unfold NumTold at this
            rw [e2, e3, fl_yes e1] at this
            exact this)
          have OK : Hid (∀ W, Rdr 44 lo hi W g (bytA (m.drop (j + 1))) false → Calls Try.prog 20 #[.pointer (some ⟨g, 0, none⟩)] W fun e w' => e = .returned (.bool true) ∧ W = w') := Lib.hid fun W h => ok_at lo hi W g _ false h
          have RN : Hid (∀ W, Rdr 44 lo hi W g (bytA (m.drop (j + 1))) false → Keep g wr.drew W → QHead m lo hi g (some ⟨bb, oo, none⟩) w1 (.int .i64 ((j : Int) + 1)) W) := Lib.hid fun W h hk => by
            have hd := below_drew wr
            exact ⟨j + 1, by omega, rfl, h, (hac.below hd).keep hk h.1, hk.to_below (btr hb hd) (Nat.le_trans G2.out (Nat.le_refl _)) (Nat.le_trans hb.size hd.size)⟩
          have YC : Hid (∀ W, Keep g wr.drew W → W.cell? ⟨bb, oo + j * 2, none⟩ = some (.int .i64 m[j].1) ∧ W.cell? ⟨bb, oo + j * 2 + 1, none⟩ = some (.int .i64 m[j].2)) := Lib.hid fun W hk => by
            have hg := hr.1
            exact ⟨hk.cell (p := ⟨bb, oo + j * 2, none⟩) (by simp; omega) x0, hk.cell (p := ⟨bb, oo + j * 2 + 1, none⟩) (by simp; omega) x1⟩
          have c0 : wr.drew.cell? ⟨bb, oo + j * 2, none⟩ = some (.int .i64 m[j].1) := x0
          have c1 : wr.drew.cell? ⟨bb, oo + j * 2 + 1, none⟩ = some (.int .i64 m[j].2) := x1
          clear em hf i1 i2 e1 e2 e3 hbl hln hbys hc hac hb hr hb0 HB8
          generalize hd : m[j].1 = d at *
          generalize hnn : m[j].2 = n at *
          clear hd hnn
          generalize bytA (m.drop (j + 1)) = P0 at *
          go_wp2
          go_region_with (first
            | (go_at_call 14; (with_reducible refine NU.out.mono ?_); rintro e w3 ⟨rfl, r3, k3⟩; have R3 := Lib.hid r3; have K3 := Lib.hid k3; have c3 := (YC.out _ k3).1; have c4 := (YC.out _ k3).2; clear r3 k3)
            | (go_at_call 20; (with_reducible refine (OK.out _ R3.out).mono ?_); rintro e w4 ⟨rfl, rfl⟩))
          all_goals
            go_wp2
            exact ⟨RN.out _ R3.out K3.out, by simp [intOf]; omega⟩
        · obtain rfl : j = m.length := by omega
          rw [List.drop_length] at hr
          have L1 := Lib.hid (left_at lo hi _ g [] false hr)
          have O1 := Lib.hid (ok_at lo hi _ g [] false hr)
          have HBB := Lib.hid hb
          clear hr hac hb
          go_wp2_with (first
            | (go_at_call 20; (with_reducible refine O1.out.mono ?_); rintro e w7 ⟨rfl, rfl⟩)
            | (go_at_call 18; (with_reducible refine L1.out.mono ?_); rintro e w7 ⟨rfl, rfl⟩))
          go_ret
          exact ⟨by first | rfl | (simp; done), btr H1.out HBB.out⟩

set_option maxRecDepth 100000 in
theorem lifted (os : Os) (started : os.Started) (H : Type) (enc : TypeId × Value → H) :
    ReturnsInHanded {} Try.checked os 4 .any (Rows.octetBackSpec.pre6 enc Try.prog Try.f4 Rows.octetBackRow.domain false) (Rows.octetBackSpec.post enc Try.prog Try.f4 false true false false) := by
  refine returnsInHanded_of_change (C := Try.checked) law.own started (by kernel_rfl) Try.func4
    (ChangeSpec.witness6 (enc := enc) (C := Try.checked) false ⟨#[], #[.slice none 0 0], []⟩ 8 (by kernel_rfl) (by kernel_rfl) (by kernel_rfl) (by kernel_rfl)) ?_
  intro W base args ds gs before hval0 hW hcnd _
  have hval : ∀ (j : Nat) t v, Try.f4.params[j]? = some t → args[j]? = some v → Value.okWide Try.prog W .any base t v := hval0
  have hW' := hW
  obtain ⟨p, q, hA0, hV, rfl, hfz, hnd⟩ := hW
  have hA : DataW.TrodAll enc Try.prog W 0 (fun _ => true) true Try.f4.params.toList args.toList ds p := hA0
  rw [Try.params4] at hA hval
  obtain ⟨v0, vs0, d0, ds0, p0, q0, hargs, rfl, rfl, h0, r0⟩ := trodAll_cons hA
  obtain ⟨rfl, rfl, rfl⟩ := trodAll_nil r0
  obtain rfl : args = #[v0] := by cases args; simp_all
  obtain ⟨rfl, rfl⟩ := trodVars_none hV
  clear hA0 hval0
  obtain ⟨A0_, k0_, l0_, rfl, q0_, n0_, b0_⟩ := oct.open_acts (hval 0 23 v0 rfl rfl) h0
  refine (Calls.mono (R := fun e w' => e = .returned (.bool true) ∧ Below W.heap.size W w') ?_ fun e W' ⟨he, hb⟩ => ?_)
  · exact walk W l0_ A0_ k0_ q0_ n0_ b0_
  · subst he
    exact ⟨_, rfl, law.post law.laidOut (by kernel_rfl) rfl rfl Try.underlying4 rfl hW' hb⟩

theorem over : Rows.octetBackRow.holds Try.pinned (OpenSpec.ofChange Rows.octetBackSpec) :=
  OpenClaim.holds_of_wide 4 Try.f4 rfl rfl rfl rfl rfl rfl rfl ⟨rfl, rfl, rfl, rfl, rfl⟩ rfl rfl rfl rfl rfl (by kernel_rfl) Try.func4 (by kernel_rfl)
    (of_decide_eq_true (by kernel_rfl)) (by unfold Func.isWrapper; first | (rw [if_pos (by decide +kernel)]; kernel_rfl) | (rw [if_neg (by decide +kernel)]; exact ⟨rfl, rfl⟩))
    (fun os started H enc _ => lifted os started H enc)

theorem proved : Rows.OctetBackSaid := over
end Go.Proofs.Ytoclafnnbaddeaa.octetBack
