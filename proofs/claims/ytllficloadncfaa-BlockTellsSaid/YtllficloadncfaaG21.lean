/-
  What the document's own Encode of layer 16 answers. Conditions: the zone is read, and has no more than a hundred kinds.
-/
import Derived.Test.YtllficloadncfaaG20
import Derived.Test.YtllficloadncfaaG17
import Derived.Lib.ConvBytes
namespace Go.Proofs.Ytllficloadncfaa.ref16
open Go.ChangeShapes Go.WideShapes Go.ChangeAt Go.RowKit
open om mem oct bk blk
set_option linter.unusedVariables false
set_option maxRecDepth 100000

theorem put_app (l : List Nat) (n z : Int) : put l n z = l ++ nb n z := by
  rcases e : fitB n z with _ | _
  · rw [put_no e, nb_no e, List.append_nil]
  · rw [put_yes e, nb_yes e]
/-- Put onto a row of the call's own. -/
theorem put_own (base : Nat) (W : World) (A : Option Addr) (k c : Nat) (l : List Nat) (n z : Int) (hn : oct.I64 n) (hz : oct.I64 z) (ho : Own base W (.slice A k c) l) (hl : l.length < 1000000000) (hbs : base ≤ W.heap.size) :
    Calls Try.prog 23 #[.slice A k c, .int .i64 n, .int .i64 z] W fun e w' => ∃ A c, e = .returned (.tuple #[.slice A (l ++ nb n z).length c, .bool (fitB n z)]) ∧ Own base w' (.slice A (l ++ nb n z).length c) (l ++ nb n z) ∧ Below W.heap.size W w' :=
  (ref13.put_at l (.slice A k c) n z W hn hz (own_by ho).rd (by omega)).mono fun e w' ⟨v', h1, h2, h3⟩ => by
    rw [put_app] at h2
    obtain ⟨A', c', rfl⟩ := own_len h2
    exact ⟨A', c', h1, own_mono h2 hbs, h3⟩
/-! a text's bytes in new memory -/
theorem to_bytes (W : World) (X : ByteArray) : (convert 9 29 (.string X)).run Try.prog W = .ok (.slice (some ⟨W.heap.size, 0, none⟩) X.size (grownCap W X.size 0 5)) (Lib.bytesWorld W 5 X) :=
  Lib.run_convert_string_bytes W 9 29 5 X Try.underlying9 Try.underlying29 Try.underlying5
theorem to_rdw (W : World) (p : List UInt8) : RdW (Lib.bytesWorld W 5 (lx.B p)) (.slice (some ⟨W.heap.size, 0, none⟩) (lx.B p).size (grownCap W (lx.B p).size 0 5)) (p.map UInt8.toNat) := by
  refine ⟨some ⟨W.heap.size, 0, none⟩, grownCap W (lx.B p).size 0 5, by rw [List.length_map, lx.B_size], ?_, (fun h => by cases h), fun _ => ⟨_, _, rfl, fun k hk => ?_⟩⟩
  · rw [List.length_map, ← lx.B_size]
    exact grownCap_ge _ _ _ _
  · have hk' : k < p.length := by rw [List.length_map] at hk; exact hk
    have h : (Lib.bytesWorld W 5 (lx.B p)).cell? ⟨W.heap.size, k, none⟩ = some (.int .u8 (lx.bt (lx.B p) k)) := Lib.bytesWorld_cell W 5 (lx.B p) k (by rw [lx.B_size]; exact hk')
    have e : (p.map UInt8.toNat)[k] = lx.bt (lx.B p) k := by
      unfold lx.bt
      rw [lx.L_B]
      simp [List.getElem?_eq_getElem hk']
    rw [Nat.zero_add, h, e]
theorem below_bytes (W : World) (X : ByteArray) : Below W.heap.size W (Lib.bytesWorld W 5 X) := by
  refine ⟨rfl, rfl, rfl, ?_, fun j hj => Lib.bytesWorld_at_old W _ X j hj⟩
  have := Lib.bytesWorld_size W 5 X
  omega
/-- at the head of a round that lays. -/
def GHead {α : Type} (f : α → List Nat) (k : α → Bool) (l : List α) (base : Nat) (W0 : World) (m : List Nat) (b : Bool) (o a s i : Value) (W : World) : Prop :=
  ∃ (j : Nat) (v : Value) (x q : Bool), j ≤ l.length ∧ v = o ∧ a = .bool q ∧ s = .bool x ∧ i = .int .i64 (j : Nat) ∧ q = (b && (l.take j).all k) ∧ Own base W v (m ++ (l.take j).flatMap f) ∧ Below W0.heap.size W0 W
theorem ghead_step {α : Type} {f : α → List Nat} {k : α → Bool} {l : List α} {base : Nat} {W0 W' : World} {m m' : List Nat} {b q0 q : Bool} {j : Nat} {v : Value} {x : Bool} (hj : j < l.length) (h0 : q0 = (b && (l.take j).all k)) (hq : q = (q0 && k l[j])) (ho : Own base W' v m') (hm : m' = m ++ (l.take j).flatMap f ++ f l[j]) (hb : Below W0.heap.size W0 W') :
    GHead f k l base W0 m b v (.bool q) (.bool x) (.int .i64 ((j : Int) + 1)) W' :=
  ⟨j + 1, v, x, q, hj, rfl, rfl, rfl, rfl, by rw [hq, h0, all_take _ _ _ hj, Bool.and_assoc], by rw [flat_take _ _ _ hj, ← List.append_assoc, ← hm]; exact ho, hb⟩
theorem flat_le_take {α : Type} (f : α → List Nat) (c : Nat) (h : ∀ x, (f x).length ≤ c) (l : List α) (j : Nat) : ((l.take j).flatMap f).length ≤ c * l.length := by
  have h1 := flat_le f c h (l.take j)
  have h2 : c * (l.take j).length ≤ c * l.length := Nat.mul_le_mul_left c (by rw [List.length_take]; omega)
  omega
theorem fit_b01 (b : Bool) : fitB (b01 b) 1 = true := by cases b <;> rfl
def E16 (z : Zn) (s : Int) (w : World) (e : Ending) (w' : World) : Prop := ∃ A c, e = .returned (.tuple #[.slice A (enc z s).length c, .bool (ev z s)]) ∧ Own w.heap.size w' (.slice A (enc z s).length c) (enc z s) ∧ Below w.heap.size w w'
theorem e16_no {z : Zn} {s : Int} {w w' : World} (h : ev z s = false) (hb : Below w.heap.size w w') : E16 z s w (.returned (.tuple #[.slice none 0 0, .bool false])) w' :=
  ⟨none, 0, by rw [enc_no h, h]; rfl, by rw [enc_no h]; exact own_none _ _, hb⟩
theorem dat_left (z : Zn) (s : Nat) : z.tr.flatMap (trA s) ++ z.tr.flatMap trB ++ z.ty.flatMap (tyD (nmL z.ty)) ++ poolN z.ty ++ z.lp.flatMap (lpD s) = dat z s := by
  unfold dat
  simp only [List.append_assoc]
/-- lengths, as far as is laid. -/
theorem far {z : Zn} (s : Nat) (h : okC z = true) (j : Nat) : ((z.tr.take j).flatMap (trA s)).length ≤ 100000 ∧ (z.tr.flatMap (trA s) ++ (z.tr.take j).flatMap trB).length ≤ 200000 ∧ (z.tr.flatMap (trA s) ++ z.tr.flatMap trB ++ (z.ty.take j).flatMap (tyD (nmL z.ty))).length ≤ 300000 ∧ (z.tr.flatMap (trA s) ++ z.tr.flatMap trB ++ z.ty.flatMap (tyD (nmL z.ty)) ++ poolN z.ty ++ (z.lp.take j).flatMap (lpD s)).length ≤ 400000 := by
  have h1 := flat_le (trA s) 8 (fun _ => nb_len _ _) z.tr
  have h2 := flat_le trB 8 (fun _ => nb_len _ _) z.tr
  have h3 := flat_le (tyD (nmL z.ty)) 24 (tyD_len _) z.ty
  have g1 := flat_le_take (trA s) 8 (fun _ => nb_len _ _) z.tr j
  have g2 := flat_le_take trB 8 (fun _ => nb_len _ _) z.tr j
  have g3 := flat_le_take (tyD (nmL z.ty)) 24 (tyD_len _) z.ty j
  have g4 := flat_le_take (lpD s) 16 (lpD_len s) z.lp j
  have h4 := pool_len z.ty
  have h5 := ((ab.ok_iff _).1 (okC_names h)).2
  obtain ⟨h8, h6, h7⟩ := few_lp h
  simp only [List.length_append]
  omega
theorem ints_at {W : World} {A : Option Addr} {l : List Int} (h : abr.Ints W A l) (k : Nat) (hk : k < l.length) : ∃ b o, A = some ⟨b, o, none⟩ ∧ W.cell? ⟨b, o + k, none⟩ = some (.int .i64 l[k]) := by
  obtain ⟨b, o, e, _, hc⟩ := h (fun e => by rw [e] at hk; simp at hk)
  exact ⟨b, o, e, hc k hk⟩
set_option maxHeartbeats 16000000 in
theorem encode_at (A : Option Addr) (a : Nat) (B : Option Addr) (b : Nat) (C : Option Addr) (c : Nat) (z : Zn) (s : Int) (w : World) (h : Zr w A B C z) (hn : z.ty.length ≤ 100) (bd : Bd z) : Calls Try.prog 9 #[(.agg #[.slice A z.ty.length a, .slice B z.tr.length b, .slice C z.lp.length c, .string z.ft, .int .i64 z.v]), .int .i64 s] w (E16 z s w) := by
  have T := zbox A a B b C c z w
  have CO : Hid (∀ W, Below w.heap.size w W → Calls Try.prog 7 #[(.agg #[.slice A z.ty.length a, .slice B z.tr.length b, .slice C z.lp.length c, .string z.ft, .int .i64 z.v])] W fun e w' => e = .returned (.tuple #[(.agg #[.int .i64 (cv z).v, .int .i64 (cv z).ut, .int .i64 (cv z).sd, .int .i64 (cv z).lp, .int .i64 (cv z).tm, .int .i64 (cv z).ty, .int .i64 (cv z).ch]), .bool (okC z)]) ∧ Below W.heap.size W w') := Lib.hid fun W hb => count_at A a B b C c z W (h.ty.below hb) hn bd
  have NM : Hid (∀ W, Below w.heap.size w W → Calls Try.prog 17 #[(.agg #[.slice A z.ty.length a, .slice B z.tr.length b, .slice C z.lp.length c, .string z.ft, .int .i64 z.v])] W (NTold z.ty W)) := Lib.hid fun W hb => names_at A a B b C c z W (h.ty.below hb) (by omega)
  have hw0 : Hid (Below w.heap.size w (w.alloc (.cells #[.slice A z.ty.length a, .slice B z.tr.length b, .slice C z.lp.length c, .string z.ft, .int .i64 z.v] 26))) := Lib.hid (bal (Below.refl _ _) _)
  by_cases hk : okC z = true
  · by_cases hs : s = 4 ∨ s = 8
    · obtain ⟨n, rfl⟩ : ∃ n : Nat, s = n := ⟨s.toNat, by omega⟩
      have hs' : n = 4 ∨ n = 8 := by omega
      have hev : ev z n = fits z n := by
        unfold ev sz48
        rw [hk, Int.toNat_natCast]
        rcases hs with e | e <;> rw [e] <;> rfl
      have PO : Hid (∀ W A' c', lines.Strs W A' (nm z.ty) → Calls Try.prog 16 #[.slice A' (nm z.ty).length c'] W (fun e w' => ∃ A c, e = .returned (.tuple #[.string (lx.B (ab.pl (ab.dst (nmL z.ty)))), .slice A z.ty.length c, .bool true]) ∧ abr.Ints w' A (z.ty.map (plc (nmL z.ty))) ∧ Below W.heap.size W w')) := Lib.hid fun W A' c' hs =>
        (pool_use z.ty hn bd.ab W A' c' hs).mono fun e w' ⟨A, c, h1, h2, h3⟩ => by
          have e3 : ab.pN (nmL z.ty) = z.ty.map (plc (nmL z.ty)) := by
            refine (okC_places hk).trans ?_
            unfold nmL nm
            rw [List.map_map, List.map_map, List.map_map]
            rfl
          rw [okC_pool hk, okC_names hk, e3, List.length_map] at h1
          rw [e3] at h2
          exact ⟨A, c, h1, h2, h3⟩
      rw [hk] at CO
      have FAR := fun j => far n hk j
      obtain ⟨hl1, hl2, hl3⟩ := few_lp hk
      have hplc := fun t (ht : t ∈ z.ty) => plc_lt ht
      have hpl : (ab.pl (ab.dst (nmL z.ty))).length ≤ 256 := ((ab.ok_iff _).1 (okC_names hk)).2
      have HR : Hid (∀ W, Below w.heap.size w W → Tys W A z.ty ∧ Prs W B z.tr ∧ Prs W C z.lp) := Lib.hid fun W hb => ⟨h.ty.below hb, h.tr.below hb, h.lp.below hb⟩
      have EM := Lib.hid (dat_left z n)
      have EF := Lib.hid (show (true && z.tr.all (fA n) && z.tr.all fB && z.ty.all (fT (nmL z.ty)) && z.lp.all (fL n)) = fits z n by unfold fits; rw [Bool.true_and])
      have EP := Lib.hid (show (ab.pl (ab.dst (nmL z.ty))).map UInt8.toNat = poolN z.ty from rfl)
      have Q : Hid (∀ w' A c, Own w.heap.size w' (.slice A (dat z n).length c) (dat z n) → Below w.heap.size w w' → (fits z n = true → E16 z n w (.returned (.tuple #[.slice A (dat z n).length c, .bool true])) w') ∧ (fits z n = false → E16 z n w (.returned (.tuple #[.slice none 0 0, .bool false])) w')) := Lib.hid fun w' A c ho hb => by
        refine ⟨fun hf => ?_, fun hf => e16_no (by rw [hev, hf]) hb⟩
        have he : ev z n = true := by rw [hev, hf]
        unfold E16
        rw [enc_yes he, he, Int.toNat_natCast]
        exact ⟨A, c, rfl, ho, hb⟩
      have In : oct.I64 (n : Nat) := by unfold oct.I64; omega
      have hb1 := bd.tr
      have hb2 := bd.ty
      have hb3 := bd.lp
      have hsz0 : w.heap.size ≤ (w.alloc (.cells #[.slice A z.ty.length a, .slice B z.tr.length b, .slice C z.lp.length c, .string z.ft, .int .i64 z.v] 26)).heap.size := by simp
      obtain ⟨q, t4, t8⟩ : ∃ q : Bool, (((n : Nat) : Int) != 4) = q ∧ (((n : Nat) : Int) != 8) = !q := by
        rcases hs' with rfl | rfl
        · exact ⟨false, rfl, rfl⟩
        · exact ⟨true, rfl, rfl⟩
      clear h hev bd hn hs hs'
      generalize cv z = X at *
      generalize dat z n = D at *
      generalize fits z n = F at *
      generalize poolN z.ty = PN at *
      obtain ⟨ty, tr, lp, ft, v⟩ := z
      simp only at *
      generalize hNX : nmL ty = NX at *
      generalize ab.pl (ab.dst NX) = P at *
      have ZX : Hid (∀ w3 A3, Below (w.alloc (.cells #[.slice A ty.length a, .slice B tr.length b, .slice C lp.length c, .string ft, .int .i64 v] 26)).heap.size (w.alloc (.cells #[.slice A ty.length a, .slice B tr.length b, .slice C lp.length c, .string ft, .int .i64 v] 26)) w3 → abr.Ints w3 A3 (ty.map (plc NX)) → ∀ W, Below w3.heap.size w3 W → W.cell? ⟨w.heap.size, 0, none⟩ = some (.slice A ty.length a) ∧ W.cell? ⟨w.heap.size, 1, none⟩ = some (.slice B tr.length b) ∧ W.cell? ⟨w.heap.size, 2, none⟩ = some (.slice C lp.length c) ∧ Tys W A ty ∧ Prs W B tr ∧ Prs W C lp ∧ abr.Ints W A3 (ty.map (plc NX)) ∧ Below w.heap.size w W ∧ w.heap.size ≤ W.heap.size) := Lib.hid fun w3 A3 h3 hi W hb => by
        obtain ⟨x0, x1, x2, _, _, hbz, _⟩ := T.out _ (btr h3 hb)
        obtain ⟨r1, r2, r3⟩ := HR.out _ hbz
        exact ⟨x0, x1, x2, r1, r2, r3, hi.below hb, hbz, hbz.size⟩
      have PU := Lib.hid (fun base W A' k' c' l x y hn hz ho hl hbs => put_own base W A' k' c' l x y hn hz ho hl hbs)
      cases q
      all_goals
        simp only [Bool.not_false, Bool.not_true] at t8
        go_enter Try.func9, Try.ntmps9
        go_wp2_with (first
          | (go_at_call 7; (with_reducible refine (CO.out _ hw0.out).mono ?_); rintro e w1 ⟨rfl, hb1⟩; have HA1 := Lib.hid (bal hb1 (.cells #[.int .i64 X.v, .int .i64 X.ut, .int .i64 X.sd, .int .i64 X.lp, .int .i64 X.tm, .int .i64 X.ty, .int .i64 X.ch] 28)); obtain ⟨x0, x1, x2, x3, x4, hbz, hsz⟩ := T.out _ HA1.out; have HZ1 := Lib.hid hbz; clear hb1 hbz)
          | (go_at_call 17; (with_reducible refine (NM.out _ HZ1.out).mono ?_); rintro e w2 ⟨A2, c2, rfl, hs2, hb2⟩; have S2 := Lib.hid hs2; have HA2 := Lib.hid (btr HA1.out hb2); clear hs2 hb2)
          | (go_at_call 16; (with_reducible refine (PO.out _ _ _ S2.out).mono ?_); rintro e w3 ⟨A3, c3, rfl, hi3, hb3⟩; have HA3 := Lib.hid (btr HA2.out hb3); have I3 := Lib.hid hi3; clear x0 x1 x2 x3 x4 hsz hi3 hb3))
        have Z3 := Lib.hid (fun W hb => ZX.out _ _ HA3.out I3.out W hb)
        clear HA3 I3 HA2 HA1 S2 HZ1 ZX HR T CO NM PO hw0
        go_loopw [11, 12, 13, 14] (fun o x s i W => GHead (trA n) (fA n) tr w3.heap.size w3 [] true o x s i W) (fun _ _ _ i _ => tr.length - (intOf i).toNat)
        case atStart => exact ⟨0, _, true, true, Nat.zero_le _, rfl, rfl, rfl, rfl, rfl, own_none _ _, Below.refl _ _⟩
        case round =>
          obtain ⟨j, v1, s1, q1, hj, rfl, rfl, rfl, rfl, hq, ho, hb⟩ := hrel
          have ho : Own w3.heap.size wr v1 ((tr.take j).flatMap (trA n)) := ho
          obtain ⟨z0, z1, z2, r1, r2, r3, r4, hbw, hsw⟩ := Z3.out _ hb
          by_cases hlt : j < tr.length
          · obtain ⟨Ao, co, rfl⟩ := own_len ho
            obtain ⟨b1, o1, rfl, y0, y1⟩ := prs_at r2 j hlt
            have P1 := Lib.hid (PU.out w3.heap.size wr _ _ _ _ tr[j].1 n (hb1 _ (List.getElem_mem hlt)).1 In ho (by have := (FAR j).1; omega) hb.size)
            have R := Lib.hid (fun A' c' W' q x (hq' : q = (q1 && fA n tr[j])) (ho' : Own w3.heap.size W' (.slice A' ((tr.take j).flatMap (trA n) ++ nb tr[j].1 n).length c') ((tr.take j).flatMap (trA n) ++ nb tr[j].1 n)) (hb' : Below wr.heap.size wr W') => ghead_step (f := trA n) (k := fA n) (m := []) (b := true) (x := x) hlt hq hq' ho' rfl (btr hb hb'))
            rw [show fA n tr[j] = fitB tr[j].1 n from rfl] at R
            clear hq ho hb z0 z2 r1 r2 r3 r4 hbw hsw Z3 PU FAR hplc hpl EM EF EP Q hb1 hb2 hb3
            generalize fitB tr[j].1 n = y at *
            generalize (tr.take j).flatMap (trA n) ++ nb tr[j].1 n = L1 at *
            generalize (tr.take j).flatMap (trA n) = L0 at *
            generalize tr[j].1 = n1 at *
            generalize tr[j].2 = n2 at *
            cases q1 <;> cases y
            all_goals
              go_wp2_with (go_at_call 23; (with_reducible refine P1.out.mono ?_); rintro e w4 ⟨A4, c4, rfl, ho4, hb4⟩; have QQ := Lib.hid (fun q x hq => R.out A4 c4 w4 q x hq ho4 hb4); clear ho4 hb4)
              go_roundw
              case rel => first | exact QQ.out true _ rfl | exact QQ.out false _ rfl
              case measure => simp [intOf]; omega
          · obtain rfl : j = tr.length := by omega
            rw [List.take_length] at hq ho
            obtain ⟨Ao, co, rfl⟩ := own_len ho
            have O1 := Lib.hid ho
            have HQ1 := Lib.hid hq
            have HB1 := Lib.hid hb
            clear hq ho hb z0 z2 r1 r2 r3 r4 hbw hsw
            generalize tr.flatMap (trA n) = M1 at *
            generalize tr.all (fA n) = FA at *
            go_wp2
            clear z1
            generalize wr = W1 at *
            go_loopw [11, 12, 13, 15] (fun o x s i W => GHead trB fB tr w3.heap.size w3 M1 q1 o x s i W) (fun _ _ _ i _ => tr.length - (intOf i).toNat)
            case atStart => exact ⟨0, _, s1, q1, Nat.zero_le _, rfl, rfl, rfl, rfl, by simp, by rw [List.take_zero, List.flatMap_nil, List.append_nil]; exact O1.out, HB1.out⟩
            case round =>
              obtain ⟨j, v1, s2, q2, hj, rfl, rfl, rfl, rfl, hq, ho, hb⟩ := hrel
              obtain ⟨z0, z1, z2, r1, r2, r3, r4, hbw, hsw⟩ := Z3.out _ hb
              by_cases hlt : j < tr.length
              · obtain ⟨A2, c2, rfl⟩ := own_len ho
                obtain ⟨b1, o1, rfl, y0, y1⟩ := prs_at r2 j hlt
                have P1 := Lib.hid (PU.out w3.heap.size wr _ _ _ _ tr[j].2 1 (hb1 _ (List.getElem_mem hlt)).2 ⟨by decide, by decide⟩ ho (by have := (FAR j).2.1; omega) hb.size)
                have R := Lib.hid (fun A' c' W' q x (hq' : q = (q2 && fB tr[j])) (ho' : Own w3.heap.size W' (.slice A' (M1 ++ (tr.take j).flatMap trB ++ nb tr[j].2 1).length c') (M1 ++ (tr.take j).flatMap trB ++ nb tr[j].2 1)) (hb' : Below wr.heap.size wr W') => ghead_step (f := trB) (k := fB) (m := M1) (b := q1) (x := x) hlt hq hq' ho' rfl (btr hb hb'))
                rw [show fB tr[j] = fitB tr[j].2 1 from rfl] at R
                clear hq ho hb z0 z2 r1 r2 r3 r4 hbw hsw Z3 PU FAR hplc hpl EM EF EP Q hb1 hb2 hb3 O1 HQ1 HB1
                generalize fitB tr[j].2 1 = y at *
                generalize M1 ++ (tr.take j).flatMap trB ++ nb tr[j].2 1 = L1 at *
                generalize M1 ++ (tr.take j).flatMap trB = L0 at *
                generalize tr[j].1 = n1 at *
                generalize tr[j].2 = n2 at *
                cases q2 <;> cases y
                all_goals
                  go_wp2_with (go_at_call 23; (with_reducible refine P1.out.mono ?_); rintro e w4 ⟨A4, c4, rfl, ho4, hb4⟩; have QQ := Lib.hid (fun q x hq => R.out A4 c4 w4 q x hq ho4 hb4); clear ho4 hb4)
                  go_roundw
                  case rel => first | exact QQ.out true _ rfl | exact QQ.out false _ rfl
                  case measure => simp [intOf]; omega
              · obtain rfl : j = tr.length := by omega
                rw [List.take_length] at hq ho
                obtain ⟨A2, c2, rfl⟩ := own_len ho
                have O2 := Lib.hid ho
                have HQ2 := Lib.hid hq
                have HB2 := Lib.hid hb
                clear hq ho hb z0 z2 r1 r2 r3 r4 hbw hsw O1 HB1
                generalize M1 ++ tr.flatMap trB = M2 at *
                generalize tr.all fB = FB at *
                go_wp2
                clear z1
                generalize wr = W2 at *
                go_loopw [11, 12, 13, 16] (fun o x s i W => GHead (tyD NX) (fT NX) ty w3.heap.size w3 M2 q2 o x s i W) (fun _ _ _ i _ => ty.length - (intOf i).toNat)
                case atStart => exact ⟨0, _, s2, q2, Nat.zero_le _, rfl, rfl, rfl, rfl, by simp, by rw [List.take_zero, List.flatMap_nil, List.append_nil]; exact O2.out, HB2.out⟩
                case round =>
                  obtain ⟨j, v1, s3, q3, hj, rfl, rfl, rfl, rfl, hq, ho, hb⟩ := hrel
                  obtain ⟨z0, z1, z2, r1, r2, r3, r4, hbw, hsw⟩ := Z3.out _ hb
                  by_cases hlt : j < ty.length
                  · obtain ⟨A5, c5, rfl⟩ := own_len ho
                    obtain ⟨b1, o1, rfl, y0, y1, y2⟩ := tys_at r1 j hlt
                    obtain ⟨b2, o2, rfl, -⟩ := ints_at r4 j (by rw [List.length_map]; exact hlt)
                    have hm := List.getElem_mem hlt
                    have hp := hplc _ hm
                    have L0 := (FAR j).2.2.1
                    have P1 := Lib.hid (PU.out w3.heap.size wr _ _ _ _ ty[j].off 4 (hb2 _ hm) ⟨by decide, by decide⟩ ho (by omega) hb.size)
                    have l1 := nb_len ty[j].off 4
                    have l2 := nb_len (b01 ty[j].dst) 1
                    have P2 := Lib.hid (fun W A' c' (ho' : Own w3.heap.size W (.slice A' (M2 ++ (ty.take j).flatMap (tyD NX) ++ nb ty[j].off 4).length c') (M2 ++ (ty.take j).flatMap (tyD NX) ++ nb ty[j].off 4)) (hs' : w3.heap.size ≤ W.heap.size) => PU.out w3.heap.size W _ _ _ _ (b01 ty[j].dst) 1 (b01_bd _) ⟨by decide, by decide⟩ ho' (by rw [List.length_append]; omega) hs')
                    have P3 := Lib.hid (fun W A' c' (ho' : Own w3.heap.size W (.slice A' (M2 ++ (ty.take j).flatMap (tyD NX) ++ nb ty[j].off 4 ++ nb (b01 ty[j].dst) 1).length c') (M2 ++ (ty.take j).flatMap (tyD NX) ++ nb ty[j].off 4 ++ nb (b01 ty[j].dst) 1)) (hs' : w3.heap.size ≤ W.heap.size) => PU.out w3.heap.size W _ _ _ _ (plc NX ty[j]) 1 ⟨by omega, by omega⟩ ⟨by decide, by decide⟩ ho' (by rw [List.length_append, List.length_append]; omega) hs')
                    have YC := Lib.hid (fun W (hb' : Below wr.heap.size wr W) => show W.cell? ⟨b2, o2 + j, none⟩ = some (.int .i64 (plc NX ty[j])) by
                      obtain ⟨b3, o3, e, hc⟩ := ints_at (r4.below hb') j (by rw [List.length_map]; exact hlt)
                      cases e
                      rw [hc, List.getElem_map])
                    have SW := Lib.hid (fun W (hb' : Below wr.heap.size wr W) => Nat.le_trans hb.size hb'.size)
                    have R := Lib.hid (fun A' c' W' q x (hq' : q = (q3 && fT NX ty[j])) (ho' : Own w3.heap.size W' (.slice A' (M2 ++ (ty.take j).flatMap (tyD NX) ++ nb ty[j].off 4 ++ nb (b01 ty[j].dst) 1 ++ nb (plc NX ty[j]) 1).length c') (M2 ++ (ty.take j).flatMap (tyD NX) ++ nb ty[j].off 4 ++ nb (b01 ty[j].dst) 1 ++ nb (plc NX ty[j]) 1)) (hb' : Below wr.heap.size wr W') => ghead_step (f := tyD NX) (k := fT NX) (m := M2) (b := q2) (x := x) hlt hq hq' ho' (by unfold tyD; simp only [List.append_assoc]) (btr hb hb'))
                    rw [show fT NX ty[j] = (fitB ty[j].off 4 && fitB (b01 ty[j].dst) 1 && fitB (plc NX ty[j]) 1) from rfl, fit_b01, Bool.and_true] at R
                    rw [fit_b01] at P2
                    clear hq ho hb z1 z2 r1 r2 r3 r4 hbw hsw Z3 PU FAR hplc hpl EM EF EP Q hb1 hb2 hb3 O2 HQ1 HQ2 HB2 hp L0 l1 l2 hm
                    generalize fitB ty[j].off 4 = ya at *
                    generalize fitB (plc NX ty[j]) 1 = yc at *
                    generalize M2 ++ (ty.take j).flatMap (tyD NX) ++ nb ty[j].off 4 ++ nb (b01 ty[j].dst) 1 ++ nb (plc NX ty[j]) 1 = L3 at *
                    generalize M2 ++ (ty.take j).flatMap (tyD NX) ++ nb ty[j].off 4 ++ nb (b01 ty[j].dst) 1 = L2 at *
                    generalize M2 ++ (ty.take j).flatMap (tyD NX) ++ nb ty[j].off 4 = L1 at *
                    generalize M2 ++ (ty.take j).flatMap (tyD NX) = L0 at *
                    generalize plc NX ty[j] = n3 at *
                    generalize ty[j].off = n1 at *
                    generalize ty[j].dst = d at *
                    generalize ty[j].ab = n2 at *
                    have P2 : Hid (∀ W A' c', Own w3.heap.size W (.slice A' L1.length c') L1 → w3.heap.size ≤ W.heap.size → Calls Try.prog 23 #[.slice A' L1.length c', .int .i64 (if d = true then 1 else 0), .int .i64 1] W fun e w' => ∃ A c, e = .returned (.tuple #[.slice A L2.length c, .bool true]) ∧ Own w3.heap.size w' (.slice A L2.length c) L2 ∧ Below W.heap.size W w') := P2
                    cases d <;> cases q3 <;> cases ya <;> cases yc
                    all_goals
                      simp only [if_true, Bool.false_eq_true, if_false] at P2
                      go_wp2_with (first
                        | (go_at_call 23; (with_reducible refine P1.out.mono ?_); rintro e w4 ⟨A4, c4, rfl, ho4, hb4⟩; have O4 := Lib.hid ho4; have B4 := Lib.hid hb4; clear ho4 hb4 P1)
                        | (go_at_call 23; (with_reducible refine (P2.out _ _ _ O4.out (SW.out _ B4.out)).mono ?_); rintro e w5 ⟨A6, c6, rfl, ho5, hb5⟩; have O5 := Lib.hid ho5; have B5 := Lib.hid (btr B4.out hb5); have yy := YC.out _ B5.out; clear ho5 hb5 P2)
                        | (go_at_call 23; (with_reducible refine (P3.out _ _ _ O5.out (SW.out _ B5.out)).mono ?_); rintro e w6 ⟨A7, c7, rfl, ho6, hb6⟩; have QQ := Lib.hid (fun q x hq => R.out A7 c7 w6 q x hq ho6 (btr B5.out hb6)); clear ho6 hb6 P3 yy))
                      go_roundw
                      case rel => first | exact QQ.out true _ rfl | exact QQ.out false _ rfl
                      case measure => simp [intOf]; omega
                  · obtain rfl : j = ty.length := by omega
                    rw [List.take_length] at hq ho
                    obtain ⟨A5, c5, rfl⟩ := own_len ho
                    have O3 := Lib.hid (own_kept ho (below_bytes wr (lx.B P)))
                    have HQ3 := Lib.hid hq
                    have HB3 := Lib.hid (btr hb (below_bytes wr (lx.B P)))
                    have L3 := (FAR 0).2.2.2
                    have RB := Lib.hid (to_rdw wr P)
                    have kc := to_bytes wr (lx.B P)
                    have HS3 := Lib.hid (Nat.le_trans hb.size (below_bytes wr (lx.B P)).size)
                    have LB : Hid ((M2 ++ ty.flatMap (tyD NX)).length + (P.map UInt8.toNat).length < 8000000000000) := Lib.hid (by
                      have e := EP.out
                      rw [List.take_zero, List.flatMap_nil, List.append_nil, List.length_append, ← e] at L3
                      omega)
                    clear hq ho hb z1 z2 r1 r2 r3 r4 hbw hsw O2 HB2 L3
                    generalize M2 ++ ty.flatMap (tyD NX) = M3 at *
                    generalize ty.all (fT NX) = FT at *
                    generalize Lib.bytesWorld wr 5 (lx.B P) = WB at *
                    generalize grownCap wr (lx.B P).size 0 5 = gc at *
                    generalize (lx.B P).size = ps at *
                    go_wp2_with (at_builtin; refine app_any rfl _ _ rfl w3.heap.size WB (.slice A5 M3.length c5) (.slice (some ⟨wr.heap.size, 0, none⟩) ps gc) M3 (P.map UInt8.toNat) rfl rfl O3.out RB.out LB.out HS3.out ?_; intro v5 w5 ho5 hg5; have O4 := Lib.hid ho5; have HB4 := Lib.hid (own_below O3.out HB3.out HS3.out hg5); clear ho5 hg5)
                    clear z0 kc
                    generalize EPg : M3 ++ P.map UInt8.toNat = M4 at *
                    obtain ⟨A6, c6, rfl⟩ := own_len O4.out
                    have EM : Hid (M4 ++ lp.flatMap (lpD n) = D) := Lib.hid (by rw [← EPg, EP.out]; exact EM.out)
                    have FAR := fun j => (FAR j).2.2.2
                    rw [← EP.out, EPg] at FAR
                    clear EPg RB LB O3 HB3 HS3 EP
                    generalize w5 = W5 at *
                    go_loopw [11, 12, 13, 18] (fun o x s i W => GHead (lpD n) (fL n) lp w3.heap.size w3 M4 q3 o x s i W) (fun _ _ _ i _ => lp.length - (intOf i).toNat)
                    case atStart => exact ⟨0, _, s3, q3, Nat.zero_le _, rfl, rfl, rfl, rfl, by simp, by rw [List.take_zero, List.flatMap_nil, List.append_nil]; exact O4.out, HB4.out⟩
                    case round =>
                      obtain ⟨j, v1, s4, q4, hj, rfl, rfl, rfl, rfl, hq, ho, hb⟩ := hrel
                      obtain ⟨z0, z1, z2, r1, r2, r3, r4, hbw, hsw⟩ := Z3.out _ hb
                      by_cases hlt : j < lp.length
                      · obtain ⟨A8, c8, rfl⟩ := own_len ho
                        obtain ⟨b1, o1, rfl, y0, y1⟩ := prs_at r3 j hlt
                        have hm := List.getElem_mem hlt
                        have L0 := FAR j
                        have P1 := Lib.hid (PU.out w3.heap.size wr _ _ _ _ lp[j].1 n (hb3 _ hm).1 In ho (by omega) hb.size)
                        have l1 := nb_len lp[j].1 n
                        have P2 := Lib.hid (fun W A' c' (ho' : Own w3.heap.size W (.slice A' (M4 ++ (lp.take j).flatMap (lpD n) ++ nb lp[j].1 n).length c') (M4 ++ (lp.take j).flatMap (lpD n) ++ nb lp[j].1 n)) (hs' : w3.heap.size ≤ W.heap.size) => PU.out w3.heap.size W _ _ _ _ lp[j].2 4 (hb3 _ hm).2 ⟨by decide, by decide⟩ ho' (by rw [List.length_append]; omega) hs')
                        have YC := Lib.hid (fun W (hb' : Below wr.heap.size wr W) => show W.cell? ⟨w.heap.size, 2, none⟩ = some (.slice (some ⟨b1, o1, none⟩) lp.length c) ∧ W.cell? ⟨b1, o1 + j * 2 + 1, none⟩ = some (.int .i64 lp[j].2) by
                          obtain ⟨b3, o3, e, hc⟩ := prs_at (r3.below hb') j hlt
                          cases e
                          exact ⟨(Z3.out _ (btr hb hb')).2.2.1, hc.2⟩)
                        have SW := Lib.hid (fun W (hb' : Below wr.heap.size wr W) => Nat.le_trans hb.size hb'.size)
                        have R := Lib.hid (fun A' c' W' q x (hq' : q = (q4 && fL n lp[j])) (ho' : Own w3.heap.size W' (.slice A' (M4 ++ (lp.take j).flatMap (lpD n) ++ nb lp[j].1 n ++ nb lp[j].2 4).length c') (M4 ++ (lp.take j).flatMap (lpD n) ++ nb lp[j].1 n ++ nb lp[j].2 4)) (hb' : Below wr.heap.size wr W') => ghead_step (f := lpD n) (k := fL n) (m := M4) (b := q3) (x := x) hlt hq hq' ho' (by unfold lpD; simp only [List.append_assoc]) (btr hb hb'))
                        rw [show fL n lp[j] = (fitB lp[j].1 n && fitB lp[j].2 4) from rfl] at R
                        clear hq ho hb z0 z1 r1 r2 r3 r4 hbw hsw Z3 PU FAR hplc hpl EM EF Q hb1 hb2 hb3 O4 HQ1 HQ2 HQ3 HB4 L0 l1 hm
                        generalize fitB lp[j].1 n = ya at *
                        generalize fitB lp[j].2 4 = yc at *
                        generalize M4 ++ (lp.take j).flatMap (lpD n) ++ nb lp[j].1 n ++ nb lp[j].2 4 = L2 at *
                        generalize M4 ++ (lp.take j).flatMap (lpD n) ++ nb lp[j].1 n = L1 at *
                        generalize M4 ++ (lp.take j).flatMap (lpD n) = L0 at *
                        generalize lp[j].1 = n1 at *
                        generalize lp[j].2 = n2 at *
                        cases q4 <;> cases ya <;> cases yc
                        all_goals
                          go_wp2_with (first
                            | (go_at_call 23; (with_reducible refine P1.out.mono ?_); rintro e w6 ⟨A9, c9, rfl, ho4, hb4⟩; have O5 := Lib.hid ho4; have B5 := Lib.hid hb4; clear z2 y0 y1; obtain ⟨z2, y1⟩ := YC.out _ hb4; clear ho4 hb4 P1)
                            | (go_at_call 23; (with_reducible refine (P2.out _ _ _ O5.out (SW.out _ B5.out)).mono ?_); rintro e w7 ⟨A10, c10, rfl, ho6, hb6⟩; have QQ := Lib.hid (fun q x hq => R.out A10 c10 w7 q x hq ho6 (btr B5.out hb6)); clear ho6 hb6 P2))
                          go_roundw
                          case rel => first | exact QQ.out true _ rfl | exact QQ.out false _ rfl
                          case measure => simp [intOf]; omega
                      · obtain rfl : j = lp.length := by omega
                        rw [List.take_length] at hq ho
                        rw [EM.out] at ho
                        obtain ⟨A8, c8, rfl⟩ := own_len ho
                        have hqF : q4 = F := by rw [hq, HQ3.out, HQ2.out, HQ1.out]; exact EF.out
                        obtain ⟨qy, qn⟩ := Q.out wr A8 c8 (own_mono ho (Z3.out _ (Below.refl _ _)).2.2.2.2.2.2.2.2) hbw
                        have QY := Lib.hid qy
                        have QN := Lib.hid qn
                        clear hq ho hb z0 z1 r1 r2 r3 r4 hbw hsw O4 HB4 EM EF HQ1 HQ2 HQ3 qy qn Q
                        subst hqF
                        cases q4
                        · go_wp2
                          go_ret2
                          exact QN.out (by first | rfl | trivial)
                        · go_wp2
                          go_ret2
                          exact QY.out (by first | rfl | trivial)
    · have t4 : (s != 4) = true := by simp; omega
      have t8 : (s != 8) = true := by simp; omega
      have he : ev z s = false := by
        rw [Bool.eq_false_iff]
        intro e
        exact hs (ev_iff e).2.1
      have Q := Lib.hid (fun w' (hb : Below w.heap.size w w') => e16_no he hb)
      rw [hk] at CO
      clear h bd hn hs he hk
      generalize cv z = X at *
      obtain ⟨ty, tr, lp, ft, v⟩ := z
      simp only at *
      go_enter Try.func9, Try.ntmps9
      go_wp2_with (go_at_call 7; (with_reducible refine (CO.out _ hw0.out).mono ?_); rintro e w1 ⟨rfl, hb1⟩; have HA1 := Lib.hid (btr hw0.out (bal hb1 (.cells #[.int .i64 X.v, .int .i64 X.ut, .int .i64 X.sd, .int .i64 X.lp, .int .i64 X.tm, .int .i64 X.ty, .int .i64 X.ch] 28))); clear hb1)
      go_ret2
      exact Q.out _ HA1.out
  · have hk' : okC z = false := by simpa using hk
    have he : ev z s = false := by
      rw [Bool.eq_false_iff]
      intro e
      exact hk (ev_iff e).1
    have Q := Lib.hid (fun w' (hb : Below w.heap.size w w') => e16_no he hb)
    rw [hk'] at CO
    clear h bd hn he hk hk'
    generalize cv z = X at *
    obtain ⟨ty, tr, lp, ft, v⟩ := z
    simp only at *
    go_enter Try.func9, Try.ntmps9
    go_wp2_with (go_at_call 7; (with_reducible refine (CO.out _ hw0.out).mono ?_); rintro e w1 ⟨rfl, hb1⟩; have HA1 := Lib.hid (btr hw0.out (bal hb1 (.cells #[.int .i64 X.v, .int .i64 X.ut, .int .i64 X.sd, .int .i64 X.lp, .int .i64 X.tm, .int .i64 X.ty, .int .i64 X.ch] 28))); clear hb1)
    go_ret2
    exact Q.out _ HA1.out
end Go.Proofs.Ytllficloadncfaa.ref16
