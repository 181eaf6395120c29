/-
  The walk of BlockMarks, over the small case. No condition beside it.
-/
import Derived.Test.YtkdmecpelfcbmaaBlkMarksMath
import Derived.Test.YtkdmecpelfcbmaaBlkZeros
import Derived.Test.YtkdmecpelfcbmaaBlkSmall
import Derived.Deep.RegionHeld3
namespace Go.Proofs.Ytkdmecpelfcbmaa.blockMarks
open Go.ChangeShapes Go.WideShapes Go.ChangeAt Go.RowKit
open om mem oct bk blk
set_option linter.unusedVariables false
set_option maxRecDepth 100000

/-- what a store at a place of a row of the call's own, behind a call, keeps. -/
theorem zr_keepg {g M : Nat} {W W' : World} {A B C : Option Addr} {z : Zn} (h : Nw M W A B C z) (hk : Keep g W W') (hg : g < M) : Nw M W' A B C z :=
  ⟨⟨h.1.ty.keep hk.size fun b o p e hlt => World.cell?_of_block (a := ⟨b, p, none⟩) (hk.block b hlt (by have := h.2.1 b o e; omega)), h.1.tr.keep hk.size fun b o p e hlt => World.cell?_of_block (a := ⟨b, p, none⟩) (hk.block b hlt (by have := h.2.2.1 b o e; omega)), h.1.lp.keep hk.size fun b o p e hlt => World.cell?_of_block (a := ⟨b, p, none⟩) (hk.block b hlt (by have := h.2.2.2 b o e; omega))⟩, h.2⟩
theorem head77 {W : World} {g : Nat} {x0 x1 x2 x3 x4 x5 x6 : Int} (h : W.heap[g]? = some (.cells #[.int .i64 x0, .int .i64 x1, .int .i64 x2, .int .i64 x3, .int .i64 x4, .int .i64 x5, .int .i64 x6] 28)) : W.cell? ⟨g, 0, none⟩ = some (.int .i64 x0) ∧ W.cell? ⟨g, 1, none⟩ = some (.int .i64 x1) ∧ W.cell? ⟨g, 2, none⟩ = some (.int .i64 x2) ∧ W.cell? ⟨g, 3, none⟩ = some (.int .i64 x3) ∧ W.cell? ⟨g, 4, none⟩ = some (.int .i64 x4) ∧ W.cell? ⟨g, 5, none⟩ = some (.int .i64 x5) ∧ W.cell? ⟨g, 6, none⟩ = some (.int .i64 x6) :=
  ⟨row_cell h 0, row_cell h 1, row_cell h 2, row_cell h 3, row_cell h 4, row_cell h 5, row_cell h 6⟩
theorem hkeep {g k : Nat} {W W' : World} {o : Obj} (hk : Keep g W W') (h : W.heap[k]? = some o) (hne : k ≠ g) : W'.heap[k]? = some o := by rw [hk.block k (hp_lt h) hne]; exact h
/-- a builtin whose run is known to be, its second argument of another type, as a step of a region that draws. -/
theorem step_any2 {P : Program} {ops : Array Oper} {o : Oper} {a : Act} {W : World} {K : Act → World → Prop} {Q : Exit → Act → World → Prop} {E : Prop} (hgd : o.guard = none) (s x : Operand) (t t2 : TypeId)
    (ho : o.op = .call { callee := .builtin .append, args := #[s, x], argTypes := #[t, t2] }) (va vx : Value) (hs : a.eval s = va) (hx : a.eval x = vx) (R : Value → World → Prop)
    (run : ∃ v' w', (Builtin.append_ #[t, t2] o.type #[va, vx]).run P W = .ok v' w' ∧ R v' w') (h : ∀ v' w', R v' w' → K (a.put o.dst v') w') :
    if Region.wanted o (yielded ops a.tmps) = true then Oper.wp P o a W K Q else E := by
  obtain ⟨v', w', run, hR⟩ := run
  have hw : Region.wanted o (yielded ops a.tmps) = true := by simp [Region.wanted, hgd]
  rw [if_pos hw]
  unfold Oper.wp execOp
  simp only [ho, resolve, invoke, builtin, Sem.run_bind, Sem.run_pure, Result.andThen_ok, List.map_toArray, List.map_cons, List.map_nil, hs, hx, run]
  exact h v' w' hR
set_option maxHeartbeats 16000000 in
theorem walk0 (SM0 : ∀ W, lines.ML W → Calls Try.prog 8 #[] W fun e w' => e = .returned (.bool true) ∧ Below W.heap.size W w') (w : World) (A : Option Addr) (a : Nat) (B : Option Addr) (b : Nat) (C : Option Addr) (c : Nat) (z : Zn) (hz : Zr w A B C z) (bd : Bd z) (s : Int) (hs : -9223372036854775808 ≤ s ∧ s ≤ 9223372036854775807) (k : Int) (hk : -9223372036854775808 ≤ k ∧ k ≤ 9223372036854775807) (TM : lines.ML w) : Calls Try.prog 7 #[(.agg #[.slice A z.ty.length a, .slice B z.tr.length b, .slice C z.lp.length c, .string z.ft, .int .i64 z.v]), .int .i64 s, .int .i64 k] w fun e w' => e = .returned (.bool true) ∧ Below w.heap.size w w' := by
  have hw0 := Lib.hid (bal (Below.refl w.heap.size w) (.cells #[.slice A z.ty.length a, .slice B z.tr.length b, .slice C z.lp.length c, .string z.ft, .int .i64 z.v] 26))
  have SM := Lib.hid (fun W (hb : Below (w.alloc (.cells #[.slice A z.ty.length a, .slice B z.tr.length b, .slice C z.lp.length c, .string z.ft, .int .i64 z.v] 26)).heap.size (w.alloc (.cells #[.slice A z.ty.length a, .slice B z.tr.length b, .slice C z.lp.length c, .string z.ft, .int .i64 z.v] 26)) W) => SM0 W (TM.below (btr hw0.out hb)))
  have ML := Lib.hid (fun W (hb : Below (w.alloc (.cells #[.slice A z.ty.length a, .slice B z.tr.length b, .slice C z.lp.length c, .string z.ft, .int .i64 z.v] 26)).heap.size (w.alloc (.cells #[.slice A z.ty.length a, .slice B z.tr.length b, .slice C z.lp.length c, .string z.ft, .int .i64 z.v] 26)) W) => TM.below (btr hw0.out hb))
  have FE := Lib.hid (fun W (hb : Below (w.alloc (.cells #[.slice A z.ty.length a, .slice B z.tr.length b, .slice C z.lp.length c, .string z.ft, .int .i64 z.v] 26)).heap.size (w.alloc (.cells #[.slice A z.ty.length a, .slice B z.tr.length b, .slice C z.lp.length c, .string z.ft, .int .i64 z.v] 26)) W) => few_at A a B b C c z W (hz.ty.below (btr hw0.out hb)))
  have T := Lib.hid (fun W hb => zbx A a B b C c z w W hb)
  have EX : Hid (∀ W, Below (w.alloc (.cells #[.slice A z.ty.length a, .slice B z.tr.length b, .slice C z.lp.length c, .string z.ft, .int .i64 z.v] 26)).heap.size (w.alloc (.cells #[.slice A z.ty.length a, .slice B z.tr.length b, .slice C z.lp.length c, .string z.ft, .int .i64 z.v] 26)) W → Below w.heap.size w W) := Lib.hid fun W hb => btr hw0.out hb
  have hr0 : Below (w.alloc (.cells #[.slice A z.ty.length a, .slice B z.tr.length b, .slice C z.lp.length c, .string z.ft, .int .i64 z.v] 26)).heap.size (w.alloc (.cells #[.slice A z.ty.length a, .slice B z.tr.length b, .slice C z.lp.length c, .string z.ft, .int .i64 z.v] 26)) (w.alloc (.cells #[.slice A z.ty.length a, .slice B z.tr.length b, .slice C z.lp.length c, .string z.ft, .int .i64 z.v] 26)) := Below.refl _ _
  have HR0 := Lib.hid hr0
  clear hr0 SM0
  by_cases hf : fewB z = true
  · obtain ⟨f1, f2, f3⟩ := few_len hf
    have EN := Lib.hid (fun W (hb : Below (w.alloc (.cells #[.slice A z.ty.length a, .slice B z.tr.length b, .slice C z.lp.length c, .string z.ft, .int .i64 z.v] 26)).heap.size (w.alloc (.cells #[.slice A z.ty.length a, .slice B z.tr.length b, .slice C z.lp.length c, .string z.ft, .int .i64 z.v] 26)) W) => enc_use A a B b C c z s W (hz.below (btr hw0.out hb)) (by omega) bd)
    have CO := Lib.hid (fun W (hb : Below (w.alloc (.cells #[.slice A z.ty.length a, .slice B z.tr.length b, .slice C z.lp.length c, .string z.ft, .int .i64 z.v] 26)).heap.size (w.alloc (.cells #[.slice A z.ty.length a, .slice B z.tr.length b, .slice C z.lp.length c, .string z.ft, .int .i64 z.v] 26)) W) => count_use A a B b C c z W (hz.ty.below (btr hw0.out hb)) (by omega) bd)
    rw [hf] at FE
    by_cases he : ev z s = true
    · have hok := (ev_iff he).1
      have hcv : cv z = cnt z := cv_yes hok
      rw [hok, hcv] at CO
      rw [he] at EN
      by_cases hkr : 0 ≤ k ∧ k < z.ty.length
      · obtain ⟨hk0, hk1⟩ := hkr
        obtain ⟨K, rfl⟩ : ∃ n : Nat, k = n := ⟨k.toNat, by omega⟩
        have hK : K < z.ty.length := by omega
        obtain ⟨L1, L2⟩ := enc_len bd he
        have hDn : enc z s ≠ [] := by
          obtain ⟨n, e, h0, _⟩ := sz_bd (X := cv z) (s := s) (by rw [cv_yes hok]; exact hok) (ev_iff he).2.1
          rw [← L2] at e
          exact List.length_pos_iff.1 (by omega)
        have hn1 : z.ty.length ≤ 100 := f1
        have yes : ∀ r, r.length = 2 * z.ty.length → amB (r.take z.ty.length) (r.drop z.ty.length) = true → Bys r → Hid (∀ W v, RdW W v (enc z s ++ r) → lines.ML W → Calls Try.prog 14 #[.agg #[.int .i64 z.v, .int .i64 z.ty.length, .int .i64 z.ty.length, .int .i64 z.lp.length, .int .i64 z.tr.length, .int .i64 z.ty.length, .int .i64 (ab.pT (nmL z.ty)).length], v, .int .i64 s] W fun e w' => ∃ A a B b C c, e = .returned (.tuple #[.agg #[.slice A z.ty.length a, .slice B z.tr.length b, .slice C z.lp.length c, .string ⟨#[]⟩, .int .i64 z.v], .bool true]) ∧ Nw W.heap.size w' A B C (noFt z) ∧ Below W.heap.size W w') := fun r hr ha hbr => Lib.hid fun W v h T => by
          obtain ⟨m1, m2⟩ := marks_dv bd he r hr
          rw [ha] at m1
          exact dec_use (X := mh z) m1 ((if_pos m1).trans m2) v W h ((enc_bys he).app hbr) (by rw [List.length_append]; omega) T
        have no : ∀ r, r.length = 2 * z.ty.length → amB (r.take z.ty.length) (r.drop z.ty.length) = false → Bys r → Hid (∀ W v, RdW W v (enc z s ++ r) → lines.ML W → Calls Try.prog 14 #[.agg #[.int .i64 z.v, .int .i64 z.ty.length, .int .i64 z.ty.length, .int .i64 z.lp.length, .int .i64 z.tr.length, .int .i64 z.ty.length, .int .i64 (ab.pT (nmL z.ty)).length], v, .int .i64 s] W fun e w' => ∃ A a B b C c, e = .returned (.tuple #[.agg #[.slice A 0 a, .slice B 0 b, .slice C 0 c, .string ⟨#[]⟩, .int .i64 0], .bool false]) ∧ Below W.heap.size W w') := fun r hr ha hbr => Lib.hid fun W v h T => by
          obtain ⟨m1, m2⟩ := marks_dv bd he r hr
          rw [ha] at m1
          exact (dec_use (X := mh z) (z := zero) m1 (if_neg (by rw [m1]; decide)) v W h ((enc_bys he).app hbr) (by rw [List.length_append]; omega) T).mono fun e w' ⟨A, a, B, b, C, c, h1, _, h3⟩ => ⟨A, a, B, b, C, c, h1, h3⟩
        have b0 : Bys (R0 z.ty.length) := fun x hx => by rw [List.eq_of_mem_replicate hx]; omega
        have b1 : Bys (R1 z.ty.length K) := fun x hx => (List.mem_or_eq_of_mem_set hx).elim (b0 x) (fun e => by omega)
        have b2 : Bys (R2 z.ty.length K) := fun x hx => (List.mem_or_eq_of_mem_set hx).elim (b1 x) (fun e => by omega)
        have b3 : Bys (R3 z.ty.length K) := fun x hx => (List.mem_or_eq_of_mem_set hx).elim (b2 x) (fun e => by omega)
        have D0 := yes _ (len0 _) (m0 _) b0
        have DD1 := no _ (len1 _ _) (m1 hK) b1
        have DD2 := yes _ (len2 _ _) (m2 hK) b2
        have DD3 := no _ (len3 _ _) (m3 hK) b3
        have S1 : enc z s ++ R1 z.ty.length K = (enc z s ++ R0 z.ty.length).set ((enc z s).length + z.ty.length + K) 1 := by
          rw [List.set_append_right _ _ (by omega)]
          unfold R1
          congr 2
          omega
        have S2 : enc z s ++ R2 z.ty.length K = (enc z s ++ R1 z.ty.length K).set ((enc z s).length + K) 1 := by
          rw [List.set_append_right _ _ (by omega)]
          unfold R2
          congr 2
          omega
        have S3 : enc z s ++ R3 z.ty.length K = (enc z s ++ R2 z.ty.length K).set ((enc z s).length + K) 2 := by
          rw [List.set_append_right _ _ (by omega)]
          unfold R3
          congr 2
          omega
        have lr0 := len0 z.ty.length
        have lr1 := len1 z.ty.length K
        have lr2 := len2 z.ty.length K
        have R0e : R0 z.ty.length = List.replicate (2 * z.ty.length) 0 := rfl
        have SA := Lib.hid (fun W A' a' B' b' C' c' (hb : Below w.heap.size w W) (g : Zr W A' B' C' (noFt z)) => same_at A' a' B' b' C' c' A a B b C c (noFt z) W g (have q := hz.below hb; ⟨q.ty, q.tr, q.lp⟩) (show z.ty.length ≤ 1000000 ∧ z.tr.length ≤ 1000000 ∧ z.lp.length ≤ 1000000 by omega))
        have e1 : (noFt z).ty = z.ty := rfl
        have e2 : (noFt z).tr = z.tr := rfl
        have e3 : (noFt z).lp = z.lp := rfl
        have e4 : (noFt z).ft = ⟨#[]⟩ := rfl
        have e5 : (noFt z).v = z.v := rfl
        simp only [e1, e2, e3, e4, e5] at SA
        unfold cnt at CO
        simp only at CO
        clear e1 e2 e3 e4 e5 hf he hok hcv bd hz TM hw0 f1 f2 f3 L2 b0 b1 b2 b3 yes no
        generalize (ab.pT (nmL z.ty)).length = P at *
        generalize enc z s = D at *
        generalize noFt z = Z0 at *
        obtain ⟨ty, tr, lp, ft, v⟩ := z
        simp only at *
        generalize R0 ty.length = r0 at *
        generalize R1 ty.length K = r1 at *
        generalize R2 ty.length K = r2 at *
        generalize R3 ty.length K = r3 at *
        generalize ty.length = n at *
        go_enter Try.func7, Try.ntmps7
        go_wp2_with (first
        | (go_at_call 8; (with_reducible refine (SM.out _ HR0.out).mono ?_); rintro e w1 ⟨rfl, hb1⟩; have HA1 := Lib.hid hb1; obtain ⟨x0, x1, x2, x3, x4, xs⟩ := T.out _ HA1.out; clear hb1)
        | (go_at_call 9; (with_reducible refine (FE.out _ HA1.out).mono ?_); rintro e w2 ⟨rfl, hb2⟩; have HA2 := Lib.hid (btr HA1.out hb2); clear x0 x1 x2 x3 x4 xs; obtain ⟨x0, x1, x2, x3, x4, xs⟩ := T.out _ HA2.out; clear hb2)
        | (go_at_call 12; (with_reducible refine (EN.out _ HA2.out).mono ?_); rintro e w3 ⟨A1, c1, rfl, o3, hb3⟩; have HA3 := Lib.hid (btr HA2.out hb3); have O3 := Lib.hid o3; clear x0 x1 x2 x3 x4 xs; obtain ⟨x0, x1, x2, x3, x4, xs⟩ := T.out _ HA3.out; clear hb3 o3)
        | (go_at_call 10; (with_reducible refine (CO.out _ HA3.out).mono ?_); rintro e w4 ⟨rfl, hb4⟩; have HA4 := Lib.hid (btr HA3.out hb4); have O4 := Lib.hid (own_kept O3.out hb4); clear x0 x1 x2 x3 x4 xs hb4))
        obtain ⟨gb, rfl, -, gb1, gb2⟩ := own_some O4.out hDn
        have q4 : Hid ((w4.alloc (.cells #[.int .i64 v, .int .i64 (n : Nat), .int .i64 (n : Nat), .int .i64 lp.length, .int .i64 tr.length, .int .i64 (n : Nat), .int .i64 (P : Nat)] 28)).heap[w4.heap.size]? = some (.cells #[.int .i64 v, .int .i64 (n : Nat), .int .i64 (n : Nat), .int .i64 lp.length, .int .i64 tr.length, .int .i64 (n : Nat), .int .i64 (P : Nat)] 28)) := Lib.hid (hp_new w4 _)
        have hs4 : (w4.alloc (.cells #[.int .i64 v, .int .i64 (n : Nat), .int .i64 (n : Nat), .int .i64 lp.length, .int .i64 tr.length, .int .i64 (n : Nat), .int .i64 (P : Nat)] 28)).heap.size = w4.heap.size + 1 := by simp
        have OE : Hid (Own (w4.heap.size + 1) ((w4.alloc (.cells #[.int .i64 v, .int .i64 (n : Nat), .int .i64 (n : Nat), .int .i64 lp.length, .int .i64 tr.length, .int .i64 (n : Nat), .int .i64 (P : Nat)] 28)).alloc (.cells #[] 5)) (.slice (some ⟨w4.heap.size + 1, 0, none⟩) 0 0) []) := Lib.hid (by have q := own_lit (w4.heap.size + 1) (w4.alloc (.cells #[.int .i64 v, .int .i64 (n : Nat), .int .i64 (n : Nat), .int .i64 lp.length, .int .i64 tr.length, .int .i64 (n : Nat), .int .i64 (P : Nat)] 28)) #[] [] (by omega) rfl (by simp); rw [hs4] at q; exact q)
        have B5 : Hid (Below w4.heap.size w4 ((w4.alloc (.cells #[.int .i64 v, .int .i64 (n : Nat), .int .i64 (n : Nat), .int .i64 lp.length, .int .i64 tr.length, .int .i64 (n : Nat), .int .i64 (P : Nat)] 28)).alloc (.cells #[] 5)).drew) := Lib.hid (bel_drewN (bal (bal (Below.refl w4.heap.size w4) (.cells #[.int .i64 v, .int .i64 (n : Nat), .int .i64 (n : Nat), .int .i64 lp.length, .int .i64 tr.length, .int .i64 (n : Nat), .int .i64 (P : Nat)] 28)) (.cells #[] 5)) 1)
        have HA5 : Hid (Below (w.alloc (.cells #[.slice A n a, .slice B tr.length b, .slice C lp.length c, .string ft, .int .i64 v] 26)).heap.size (w.alloc (.cells #[.slice A n a, .slice B tr.length b, .slice C lp.length c, .string ft, .int .i64 v] 26)) ((w4.alloc (.cells #[.int .i64 v, .int .i64 (n : Nat), .int .i64 (n : Nat), .int .i64 lp.length, .int .i64 tr.length, .int .i64 (n : Nat), .int .i64 (P : Nat)] 28)).alloc (.cells #[] 5)).drew) := Lib.hid (btr HA4.out B5.out)
        have s5 : w4.heap.size + 1 ≤ ((w4.alloc (.cells #[.int .i64 v, .int .i64 (n : Nat), .int .i64 (n : Nat), .int .i64 lp.length, .int .i64 tr.length, .int .i64 (n : Nat), .int .i64 (P : Nat)] 28)).alloc (.cells #[] 5)).heap.size := by simp only [World.size_alloc]; omega
        have hz4 : Hid ((w.alloc (.cells #[.slice A n a, .slice B tr.length b, .slice C lp.length c, .string ft, .int .i64 v] 26)).heap.size ≤ w4.heap.size) := Lib.hid HA4.out.size
        have AP1 := Lib.hid (app_ex (w4.heap.size + 1) ((w4.alloc (.cells #[.int .i64 v, .int .i64 (n : Nat), .int .i64 (n : Nat), .int .i64 lp.length, .int .i64 tr.length, .int .i64 (n : Nat), .int .i64 (P : Nat)] 28)).alloc (.cells #[] 5)).drew (.slice (some ⟨w4.heap.size + 1, 0, none⟩) 0 0) gb 0 D.length c1 [] D (own_kept OE.out (bel_drewN (Below.refl _ _) 1)) ((own_by O4.out).rd.below B5.out) hDn (by simp; omega) s5)
        have hwr1 : IntKind.i64.wrap (2 * (n : Int)) = 2 * (n : Int) := by rw [IntKind.wrap_i64]; omega
        have hwr2 : wrap64 (2 * (n : Int)) = 2 * (n : Int) := by unfold wrap64; omega
        have Y0 : Hid ((w4.alloc (.cells #[.int .i64 v, .int .i64 (n : Nat), .int .i64 (n : Nat), .int .i64 lp.length, .int .i64 tr.length, .int .i64 (n : Nat), .int .i64 (P : Nat)] 28)).drew.cell? ⟨w4.heap.size, 5, none⟩ = some (.int .i64 (n : Nat))) := Lib.hid (row_cell q4.out 5)
        have Y1 : Hid (((w4.alloc (.cells #[.int .i64 v, .int .i64 (n : Nat), .int .i64 (n : Nat), .int .i64 lp.length, .int .i64 tr.length, .int .i64 (n : Nat), .int .i64 (P : Nat)] 28)).alloc (.cells #[] 5)).drew.cell? ⟨w4.heap.size, 5, none⟩ = some (.int .i64 (n : Nat))) := Lib.hid (row_cell (hp_old q4.out (.cells #[] 5)) 5)
        have ZX : Hid (∀ w10 gc c2, Own (w4.heap.size + 1) w10 (.slice (some ⟨gc, 0, none⟩) D.length c2) D → w4.heap.size + 1 ≤ w10.heap.size → ∃ v' w', (Builtin.append_ #[29, 3] 29 #[.slice (some ⟨gc, 0, none⟩) D.length c2, .int .i64 (2 * (n : Int))]).run Try.prog w10 = .ok v' w' ∧ Own (w4.heap.size + 1) w' v' (D ++ r0) ∧ w10.grownBy w' (some gc)) := Lib.hid fun w10 gc c2 ho hs => by
          have := zeros_ex (w4.heap.size + 1) w10 gc D.length c2 (2 * n) D ho (by omega) (by omega) (by omega) hs
          rw [show ((2 * n : Nat) : Int) = 2 * (n : Int) by omega, ← R0e] at this
          exact this
        go_region_held3 (fun w' => w'.cell? ⟨w4.heap.size, 5, none⟩ = some (.int .i64 (n : Nat)))
          (first | with_reducible exact Y0.out | with_reducible exact Y1.out | with_reducible exact Y10.out | with_reducible exact Y11.out)
          (first
          | ((with_reducible refine step_any (W := ((w4.alloc (.cells #[.int .i64 v, .int .i64 (n : Nat), .int .i64 (n : Nat), .int .i64 lp.length, .int .i64 tr.length, .int .i64 (n : Nat), .int .i64 (P : Nat)] 28)).alloc (.cells #[] 5)).drew) ?_ (.tmp 58) (.tmp 59) 29 ?_ (.slice (some ⟨w4.heap.size + 1, 0, none⟩) 0 0) (.slice (some ⟨gb, 0, none⟩) D.length c1) ?_ ?_ _ AP1.out ?_); (next => exact rfl); (next => exact rfl); (next => exact rfl); (next => exact rfl); rintro v10 w10 ⟨o10, g10, -⟩; rw [List.nil_append] at o10; obtain ⟨A2, c2, rfl⟩ := own_len o10; obtain ⟨gc, rfl, -, gc1, gc2⟩ := own_some o10 hDn; have q10 := Lib.hid (grown_at (W := ((w4.alloc (.cells #[.int .i64 v, .int .i64 (n : Nat), .int .i64 (n : Nat), .int .i64 lp.length, .int .i64 tr.length, .int .i64 (n : Nat), .int .i64 (P : Nat)] 28)).alloc (.cells #[] 5)).drew) (hp_old q4.out (.cells #[] 5)) (Nat.ne_of_lt (Nat.lt_succ_self _)) g10); have HA10 := Lib.hid (HA5.out.grown g10 (Nat.le_trans hz4.out (Nat.le_trans (Nat.le_succ _) s5)) (fun k hk => by cases hk; exact Nat.le_succ_of_le hz4.out)); have hz10 := Lib.hid (Nat.le_trans s5 g10.size); have O10 := Lib.hid o10; have Y10 := Lib.hid (show w10.cell? ⟨w4.heap.size, 5, none⟩ = some (.int .i64 (n : Nat)) from row_cell q10.out 5); clear g10 o10)
          | ((with_reducible refine step_any2 (W := w10) ?_ (.tmp 60) (.tmp 63) 29 3 ?_ (.slice (some ⟨gc, 0, none⟩) D.length c2) (.int .i64 (2 * (n : Int))) ?_ ?_ _ (ZX.out _ _ _ O10.out hz10.out) ?_); (next => exact rfl); (next => exact rfl); (next => exact rfl); (next => exact rfl); rintro v11 w11 ⟨o11, g11⟩; obtain ⟨A3, c3, rfl⟩ := own_len o11; obtain ⟨gd, rfl, -, gd1, gd2⟩ := own_some o11 (by simp [hDn]); have q11 := Lib.hid (grown_at (n := 0) (c := 0) q10.out (by omega) g11); have HA11 := Lib.hid (HA10.out.grown g11 (Nat.le_trans hz4.out (Nat.le_trans (Nat.le_succ _) hz10.out)) (fun k hk => by cases hk; exact Nat.le_trans hz4.out (Nat.le_trans (Nat.le_succ _) gc1))); have O11 := Lib.hid o11; have Y11 := Lib.hid (show w11.cell? ⟨w4.heap.size, 5, none⟩ = some (.int .i64 (n : Nat)) from row_cell q11.out 5); clear g11 o11))
        have hgl : (D ++ r0).length = D.length + 2 * n := by rw [List.length_append]; omega
        have O11' : Own (w4.heap.size + 1) w11 (.slice (some ⟨gd, 0, none⟩) (D.length + 2 * n) c3) (D ++ r0) := by rw [← hgl]; exact O11.out
        have hne4 : Hid (w4.heap.size ≠ gd) := Lib.hid (Nat.ne_of_lt gd1)
        have hzd : Hid ((w.alloc (.cells #[.slice A n a, .slice B tr.length b, .slice C lp.length c, .string ft, .int .i64 v] 26)).heap.size ≤ gd) := Lib.hid (Nat.le_trans hz4.out (Nat.le_of_lt gd1))
        have hzl : Hid (w.heap.size < w11.heap.size) := Lib.hid (by have h := HA11.out.size; simp only [World.size_alloc] at h; omega)
        have hgs : Hid (gd < w11.heap.size) := Lib.hid gd2
        obtain ⟨d0, d1, d2, d3, d4, d5, d6⟩ := head77 q11.out
        clear hk hk0 hk1 hs
        clear hgl AP1 ZX OE B5 HA5 Y0 Y1 Y10 Y11 O10 O11 q10 HA10 hz10 hwr1 hwr2 O4 HA4 q4 R0e
        go_wp2_with (first
          | (go_at_call 14; first
            | ((with_reducible refine (D0.out _ _ (own_by O11').rd (ML.out _ HA11.out)).mono ?_); rintro e w12 ⟨A5, a5, B5, b5, C5, c5, rfl, nw, hb⟩; have NW5 := Lib.hid nw; have HA12 := Lib.hid (btr HA11.out hb); have O12 := own_kept O11' (bal hb (.cells #[.slice A5 n a5, .slice B5 tr.length b5, .slice C5 lp.length c5, .string ⟨#[]⟩, .int .i64 v] 26)); have K13 := Lib.hid (((Keep.refl gd w12).below (bal (Below.refl _ _) (.cells #[.slice A5 n a5, .slice B5 tr.length b5, .slice C5 lp.length c5, .string ⟨#[]⟩, .int .i64 v] 26))).setCell (D.length + n + K) (.int .u8 1)); have hs12 := hb.size; have Q13 := Lib.hid (cs1 (hp_old (kept q11.out hb) (.cells #[.slice A5 n a5, .slice B5 tr.length b5, .slice C5 lp.length c5, .string ⟨#[]⟩, .int .i64 v] 26)) hne4.out (D.length + n + K) (.int .u8 1)); have Y13 := Lib.hid (cs1 (hp_new w12 (.cells #[.slice A5 n a5, .slice B5 tr.length b5, .slice C5 lp.length c5, .string ⟨#[]⟩, .int .i64 v] 26)) (by omega : w12.heap.size ≠ gd) (D.length + n + K) (.int .u8 1)); have O13 : Hid (Own (w4.heap.size + 1) ((w12.alloc (.cells #[.slice A5 n a5, .slice B5 tr.length b5, .slice C5 lp.length c5, .string ⟨#[]⟩, .int .i64 v] 26)).setCell ⟨gd, (D.length + n + K), none⟩ (.int .u8 1)) (.slice (some ⟨gd, 0, none⟩) (D.length + 2 * n) c3) (D ++ r1)) := Lib.hid (by have q := own_set O12 (D.length + n + K) (by rw [List.length_append]; omega) 1; rw [← S1] at q; exact q); have HA13 := Lib.hid ((bal HA12.out (.cells #[.slice A5 n a5, .slice B5 tr.length b5, .slice C5 lp.length c5, .string ⟨#[]⟩, .int .i64 v] 26)).setCell (p := ⟨gd, (D.length + n + K), none⟩) hzd.out (.int .u8 1)); obtain ⟨k0, k1⟩ := own_cellF O12 (D.length + n + K) (by rw [List.length_append]; omega); clear d0 d1 d2 d3 d4 d5 d6; have d5 := row_cell (hp_old (kept q11.out hb) (.cells #[.slice A5 n a5, .slice B5 tr.length b5, .slice C5 lp.length c5, .string ⟨#[]⟩, .int .i64 v] 26)) 5; obtain ⟨e0, e1, e2, e3, e4, e5, e6⟩ := head77 Q13.out; clear nw hb O12)
            | ((with_reducible refine (DD1.out _ _ (own_by O13.out).rd (ML.out _ HA13.out)).mono ?_); rintro e w14 ⟨A6, a6, B6, b6, C6, c6, rfl, hb⟩; have HA14 := Lib.hid (btr HA13.out hb); have O14 := own_kept O13.out (bal hb (.cells #[.slice A6 0 a6, .slice B6 0 b6, .slice C6 0 c6, .string ⟨#[]⟩, .int .i64 0] 26)); have K15 := Lib.hid ((K13.out.below (bal hb (.cells #[.slice A6 0 a6, .slice B6 0 b6, .slice C6 0 c6, .string ⟨#[]⟩, .int .i64 0] 26))).setCell (D.length + K) (.int .u8 1)); have Q15 := Lib.hid (cs1 (hp_old (kept Q13.out hb) (.cells #[.slice A6 0 a6, .slice B6 0 b6, .slice C6 0 c6, .string ⟨#[]⟩, .int .i64 0] 26)) hne4.out (D.length + K) (.int .u8 1)); have O15 : Hid (Own (w4.heap.size + 1) ((w14.alloc (.cells #[.slice A6 0 a6, .slice B6 0 b6, .slice C6 0 c6, .string ⟨#[]⟩, .int .i64 0] 26)).setCell ⟨gd, (D.length + K), none⟩ (.int .u8 1)) (.slice (some ⟨gd, 0, none⟩) (D.length + 2 * n) c3) (D ++ r2)) := Lib.hid (by have q := own_set O14 (D.length + K) (by rw [List.length_append]; omega) 1; rw [← S2] at q; exact q); have HA15 := Lib.hid ((bal HA14.out (.cells #[.slice A6 0 a6, .slice B6 0 b6, .slice C6 0 c6, .string ⟨#[]⟩, .int .i64 0] 26)).setCell (p := ⟨gd, (D.length + K), none⟩) hzd.out (.int .u8 1)); have Y15 := Lib.hid (cs1 (hp_old (kept Y13.out hb) (.cells #[.slice A6 0 a6, .slice B6 0 b6, .slice C6 0 c6, .string ⟨#[]⟩, .int .i64 0] 26)) (by omega : w12.heap.size ≠ gd) (D.length + K) (.int .u8 1)); obtain ⟨l0, l1⟩ := own_cellF O14 (D.length + K) (by rw [List.length_append]; omega); clear d5 e0 e1 e2 e3 e4 e5 e6 k0 k1; obtain ⟨e0, e1, e2, e3, e4, e5, e6⟩ := head77 Q15.out; clear hb O14)
            | ((with_reducible refine (DD2.out _ _ (own_by O15.out).rd (ML.out _ HA15.out)).mono ?_); rintro e w16 ⟨A7, a7, B7, b7, C7, c7, rfl, nw, hb⟩; have NW7 := Lib.hid nw; have HA16 := Lib.hid (btr HA15.out hb); have O16 := own_kept O15.out (bal hb (.cells #[.slice A7 n a7, .slice B7 tr.length b7, .slice C7 lp.length c7, .string ⟨#[]⟩, .int .i64 v] 26)); have K17 := Lib.hid ((K15.out.below (bal hb (.cells #[.slice A7 n a7, .slice B7 tr.length b7, .slice C7 lp.length c7, .string ⟨#[]⟩, .int .i64 v] 26))).setCell (D.length + K) (.int .u8 2)); have J17 := Lib.hid (((Keep.refl gd w16).below (bal (Below.refl _ _) (.cells #[.slice A7 n a7, .slice B7 tr.length b7, .slice C7 lp.length c7, .string ⟨#[]⟩, .int .i64 v] 26))).setCell (D.length + K) (.int .u8 2)); have hs16 := hb.size; have Q17 := Lib.hid (cs1 (hp_old (kept Q15.out hb) (.cells #[.slice A7 n a7, .slice B7 tr.length b7, .slice C7 lp.length c7, .string ⟨#[]⟩, .int .i64 v] 26)) hne4.out (D.length + K) (.int .u8 2)); have O17 : Hid (Own (w4.heap.size + 1) ((w16.alloc (.cells #[.slice A7 n a7, .slice B7 tr.length b7, .slice C7 lp.length c7, .string ⟨#[]⟩, .int .i64 v] 26)).setCell ⟨gd, (D.length + K), none⟩ (.int .u8 2)) (.slice (some ⟨gd, 0, none⟩) (D.length + 2 * n) c3) (D ++ r3)) := Lib.hid (by have q := own_set O16 (D.length + K) (by rw [List.length_append]; omega) 2; rw [← S3] at q; exact q); have HA17 := Lib.hid ((bal HA16.out (.cells #[.slice A7 n a7, .slice B7 tr.length b7, .slice C7 lp.length c7, .string ⟨#[]⟩, .int .i64 v] 26)).setCell (p := ⟨gd, (D.length + K), none⟩) hzd.out (.int .u8 2)); have Y17 := Lib.hid (cs1 (hp_old (kept Y15.out hb) (.cells #[.slice A7 n a7, .slice B7 tr.length b7, .slice C7 lp.length c7, .string ⟨#[]⟩, .int .i64 v] 26)) (by omega : w12.heap.size ≠ gd) (D.length + K) (.int .u8 2)); have V17 := Lib.hid (cs1 (hp_new w16 (.cells #[.slice A7 n a7, .slice B7 tr.length b7, .slice C7 lp.length c7, .string ⟨#[]⟩, .int .i64 v] 26)) (by have := hgs.out; have := K15.out.size; omega : w16.heap.size ≠ gd) (D.length + K) (.int .u8 2)); obtain ⟨m0, m1⟩ := own_cellF O16 (D.length + K) (by rw [List.length_append]; omega); clear e0 e1 e2 e3 e4 e5 e6 l0 l1; obtain ⟨e0, e1, e2, e3, e4, e5, e6⟩ := head77 Q17.out; clear nw hb O16)
            | ((with_reducible refine (DD3.out _ _ (own_by O17.out).rd (ML.out _ HA17.out)).mono ?_); rintro e w18 ⟨A8, a8, B8, b8, C8, c8, rfl, hb⟩; have HA18 := Lib.hid (btr HA17.out hb); have Z18 := hp_old (kept (hp_new w (.cells #[.slice A n a, .slice B tr.length b, .slice C lp.length c, .string ft, .int .i64 v] 26)) HA18.out) (.cells #[.slice A8 0 a8, .slice B8 0 b8, .slice C8 0 c8, .string ⟨#[]⟩, .int .i64 0] 26); obtain ⟨z0, z1, z2, z3, z4⟩ := zone5 Z18; have zf := fz Z18 3; have HQ19 := Lib.hid ((bal (EX.out _ HA18.out) (.cells #[.slice A8 0 a8, .slice B8 0 b8, .slice C8 0 c8, .string ⟨#[]⟩, .int .i64 0] 26)).setCell (p := ⟨w.heap.size, 3, none⟩) (Nat.le_refl _) (.string ⟨#[]⟩)); have KZ := Lib.hid (((Keep.refl w.heap.size ((w16.alloc (.cells #[.slice A7 n a7, .slice B7 tr.length b7, .slice C7 lp.length c7, .string ⟨#[]⟩, .int .i64 v] 26)).setCell ⟨gd, (D.length + K), none⟩ (.int .u8 2))).below (bal hb (.cells #[.slice A8 0 a8, .slice B8 0 b8, .slice C8 0 c8, .string ⟨#[]⟩, .int .i64 0] 26))).setCell 3 (.string ⟨#[]⟩)); have N5 := Lib.hid (zr_keepg (zr_keepg NW5.out K17.out hgs.out) KZ.out hzl.out).1; have N7 := Lib.hid (zr_keepg (zr_keepg NW7.out J17.out (by have := hgs.out; have := K15.out.size; omega)) KZ.out (by have := hzl.out; have := K15.out.size; omega)).1; have U19 := cs1 (hp_old (kept Y17.out hb) (.cells #[.slice A8 0 a8, .slice B8 0 b8, .slice C8 0 c8, .string ⟨#[]⟩, .int .i64 0] 26)) (by have := hzl.out; omega : w12.heap.size ≠ w.heap.size) 3 (.string ⟨#[]⟩); have V19 := Lib.hid (cs1 (hp_old (kept V17.out hb) (.cells #[.slice A8 0 a8, .slice B8 0 b8, .slice C8 0 c8, .string ⟨#[]⟩, .int .i64 0] 26)) (by have := hzl.out; have := K15.out.size; omega : w16.heap.size ≠ w.heap.size) 3 (.string ⟨#[]⟩)); have Z19 : Hid (((w18.alloc (.cells #[.slice A8 0 a8, .slice B8 0 b8, .slice C8 0 c8, .string ⟨#[]⟩, .int .i64 0] 26)).setCell ⟨w.heap.size, 3, none⟩ (.string ⟨#[]⟩)).heap[w.heap.size]? = some (.cells #[.slice A n a, .slice B tr.length b, .slice C lp.length c, .string ⟨#[]⟩, .int .i64 v] 26)) := Lib.hid (heap_setCell_same _ w.heap.size 3 _ _ _ Z18); clear e0 e1 e2 e3 e4 e5 e6 m0 m1; obtain ⟨u0, u1, u2, u3, u4⟩ := zone5 U19; obtain ⟨y0, y1, y2, y3, y4⟩ := zone5 Z19.out; clear hb Z18 U19)
            )
          | (go_at_call 16; first
            | ((with_reducible refine (SA.out _ A5 a5 B5 b5 C5 c5 HQ19.out N5.out).mono ?_); rintro e w20 ⟨rfl, hb⟩; have HQ20 := Lib.hid (btr HQ19.out hb); have N8 := Lib.hid (N7.out.below hb); have V20 := kept V19.out hb; have Z20 := kept Z19.out hb; clear z0 z1 z2 z3 z4 zf u0 u1 u2 u3 u4 y0 y1 y2 y3 y4; obtain ⟨u0, u1, u2, u3, u4⟩ := zone5 V20; obtain ⟨y0, y1, y2, y3, y4⟩ := zone5 Z20; clear hb V20 Z20)
            | ((with_reducible refine (SA.out _ A7 a7 B7 b7 C7 c7 HQ20.out N8.out).mono ?_); rintro e w21 ⟨rfl, hb⟩; have HQ21 := Lib.hid (btr HQ20.out hb); clear hb)))
        go_ret
        exact ⟨rfl, HQ21.out⟩
      · have h1 : (k < 0) = ¬ (0 ≤ k) := by simp
        unfold cnt at CO
        simp only at CO
        generalize (ab.pT (nmL z.ty)).length = P at *
        clear hf he hok hcv bd hz TM hw0 f1 f2 f3 h1
        generalize enc z s = D at *
        obtain ⟨ty, tr, lp, ft, v⟩ := z
        simp only at *
        by_cases hk0 : k < 0
        · clear hkr
          go_enter Try.func7, Try.ntmps7
          go_wp2_with (first
        | (go_at_call 8; (with_reducible refine (SM.out _ HR0.out).mono ?_); rintro e w1 ⟨rfl, hb1⟩; have HA1 := Lib.hid hb1; obtain ⟨x0, x1, x2, x3, x4, xs⟩ := T.out _ HA1.out; clear hb1)
        | (go_at_call 9; (with_reducible refine (FE.out _ HA1.out).mono ?_); rintro e w2 ⟨rfl, hb2⟩; have HA2 := Lib.hid (btr HA1.out hb2); clear x0 x1 x2 x3 x4 xs; obtain ⟨x0, x1, x2, x3, x4, xs⟩ := T.out _ HA2.out; clear hb2)
        | (go_at_call 12; (with_reducible refine (EN.out _ HA2.out).mono ?_); rintro e w3 ⟨A1, c1, rfl, o3, hb3⟩; have HA3 := Lib.hid (btr HA2.out hb3); have O3 := Lib.hid o3; clear x0 x1 x2 x3 x4 xs; obtain ⟨x0, x1, x2, x3, x4, xs⟩ := T.out _ HA3.out; clear hb3 o3)
        | (go_at_call 10; (with_reducible refine (CO.out _ HA3.out).mono ?_); rintro e w4 ⟨rfl, hb4⟩; have HA4 := Lib.hid (btr HA3.out hb4); have O4 := Lib.hid (own_kept O3.out hb4); clear x0 x1 x2 x3 x4 xs hb4))
          go_ret
          exact ⟨rfl, EX.out _ (bal HA4.out _)⟩
        · have hk1 : (ty.length : Int) ≤ k := by omega
          clear hkr
          go_enter Try.func7, Try.ntmps7
          go_wp2_with (first
        | (go_at_call 8; (with_reducible refine (SM.out _ HR0.out).mono ?_); rintro e w1 ⟨rfl, hb1⟩; have HA1 := Lib.hid hb1; obtain ⟨x0, x1, x2, x3, x4, xs⟩ := T.out _ HA1.out; clear hb1)
        | (go_at_call 9; (with_reducible refine (FE.out _ HA1.out).mono ?_); rintro e w2 ⟨rfl, hb2⟩; have HA2 := Lib.hid (btr HA1.out hb2); clear x0 x1 x2 x3 x4 xs; obtain ⟨x0, x1, x2, x3, x4, xs⟩ := T.out _ HA2.out; clear hb2)
        | (go_at_call 12; (with_reducible refine (EN.out _ HA2.out).mono ?_); rintro e w3 ⟨A1, c1, rfl, o3, hb3⟩; have HA3 := Lib.hid (btr HA2.out hb3); have O3 := Lib.hid o3; clear x0 x1 x2 x3 x4 xs; obtain ⟨x0, x1, x2, x3, x4, xs⟩ := T.out _ HA3.out; clear hb3 o3)
        | (go_at_call 10; (with_reducible refine (CO.out _ HA3.out).mono ?_); rintro e w4 ⟨rfl, hb4⟩; have HA4 := Lib.hid (btr HA3.out hb4); have O4 := Lib.hid (own_kept O3.out hb4); clear x0 x1 x2 x3 x4 xs hb4))
          go_ret
          exact ⟨rfl, EX.out _ (bal HA4.out _)⟩
    · have he' : ev z s = false := by simpa using he
      rw [he', enc_no he'] at EN
      clear hf he he' bd hz TM hw0 f1 f2 f3
      generalize okC z = ok at *
      generalize cv z = X at *
      obtain ⟨ty, tr, lp, ft, v⟩ := z
      simp only at *
      go_enter Try.func7, Try.ntmps7
      go_wp2_with (first
        | (go_at_call 8; (with_reducible refine (SM.out _ HR0.out).mono ?_); rintro e w1 ⟨rfl, hb1⟩; have HA1 := Lib.hid hb1; obtain ⟨x0, x1, x2, x3, x4, xs⟩ := T.out _ HA1.out; clear hb1)
        | (go_at_call 9; (with_reducible refine (FE.out _ HA1.out).mono ?_); rintro e w2 ⟨rfl, hb2⟩; have HA2 := Lib.hid (btr HA1.out hb2); clear x0 x1 x2 x3 x4 xs; obtain ⟨x0, x1, x2, x3, x4, xs⟩ := T.out _ HA2.out; clear hb2)
        | (go_at_call 12; (with_reducible refine (EN.out _ HA2.out).mono ?_); rintro e w3 ⟨A1, c1, rfl, o3, hb3⟩; have HA3 := Lib.hid (btr HA2.out hb3); have O3 := Lib.hid o3; clear x0 x1 x2 x3 x4 xs; obtain ⟨x0, x1, x2, x3, x4, xs⟩ := T.out _ HA3.out; clear hb3 o3)
        | (go_at_call 10; (with_reducible refine (CO.out _ HA3.out).mono ?_); rintro e w4 ⟨rfl, hb4⟩; have HA4 := Lib.hid (btr HA3.out hb4); have O4 := Lib.hid (own_kept O3.out hb4); clear x0 x1 x2 x3 x4 xs hb4))
      go_ret
      exact ⟨rfl, EX.out _ (bal HA4.out _)⟩
  · have hf' : fewB z = false := by simpa using hf
    rw [hf'] at FE
    clear hf hf' bd hz TM hw0
    obtain ⟨ty, tr, lp, ft, v⟩ := z
    simp only at *
    go_enter Try.func7, Try.ntmps7
    go_wp2_with (first
      | (go_at_call 8; (with_reducible refine (SM.out _ HR0.out).mono ?_); rintro e w1 ⟨rfl, hb1⟩; have HA1 := Lib.hid hb1; obtain ⟨x0, x1, x2, x3, x4, xs⟩ := T.out _ HA1.out; clear hb1)
      | (go_at_call 9; (with_reducible refine (FE.out _ HA1.out).mono ?_); rintro e w2 ⟨rfl, hb2⟩; have HA2 := Lib.hid (btr HA1.out hb2); clear x0 x1 x2 x3 x4 xs hb2))
    go_ret
    exact ⟨rfl, EX.out _ HA2.out⟩
end Go.Proofs.Ytkdmecpelfcbmaa.blockMarks
