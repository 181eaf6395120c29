/-
  The small case of layer 13's statements comes out true. No condition.
-/
import Derived.Test.YtoclafnnbaddeaaOctUse
import Derived.Lib.SmallJoins
namespace Go.Proofs.Ytoclafnnbaddeaa.oct
open Go.ChangeShapes Go.WideShapes Go.ChangeAt Go.RowKit
open om mem
set_option linter.unusedVariables false
set_option maxRecDepth 100000

/-- bytes that lie in a world's blocks. -/
def Old (W : World) (v : Value) (l : List Nat) : Prop := By (fun b => b < W.heap.size) W v l
theorem Old.below {W W' : World} {v : Value} {l : List Nat} (h : Old W v l) (hb : Below W.heap.size W W') : Old W' v l :=
  By.imp (By.below h hb) (fun b hb' => Nat.lt_of_lt_of_le hb' hb.size) fun _ _ _ _ h => h
theorem Old.keep {W W' : World} {v : Value} {l : List Nat} (h : Old W v l) {g : Nat} (hk : Keep g W W') (hg : W.heap.size ≤ g) : Old W' v l :=
  By.imp (By.keep h hk (fun b hb => by omega)) (fun b hb' => Nat.lt_of_lt_of_le hb' hk.size) fun _ _ _ _ h => h
theorem own_old {base : Nat} {W : World} {v : Value} {l : List Nat} (h : Own base W v l) : Old W v l :=
  By.imp (own_by h) (fun b hb => hb.2) fun _ _ _ _ h => h
theorem lit_rd (W : World) (cs : Array Value) (l : List Nat) (n : Nat) (hn' : n = l.length) (h : cs.toList = bc l) (hn : l.length < 1000) : RdW (W.alloc (.cells cs 5)) (.slice (some ⟨W.heap.size, 0, none⟩) n n) l := by
  subst hn'; exact (own_by (own_lit W.heap.size W cs l (Nat.le_refl _) h hn)).rd
theorem lit_rd2 (W : World) (cs : Array Value) (l : List Nat) (n : Nat) (fr : Nat × Nat) (hn' : n = l.length) (h : cs.toList = bc l) : RdW (W.alloc (.cells cs 5 fr)) (.slice (some ⟨W.heap.size, 0, none⟩) n n) l := by
  subst hn'
  refine ⟨_, _, rfl, Nat.le_refl _, (fun h => by cases h), fun _ => ⟨W.heap.size, 0, rfl, fun k hk => ?_⟩⟩
  rw [Nat.zero_add, row_cell (hp_new W (.cells cs 5 fr)) k, ← Array.getElem?_toList, h]
  simp [bc, hk]
theorem bys_lit {l : List Nat} (h : l.all (fun x => decide (x < 256)) = true) : Bys l := fun x hx => by simpa using List.all_eq_true.1 h x hx
/-- bytes that lie below a place. -/
def Lo (M : Nat) (W : World) (v : Value) (l : List Nat) : Prop := By (fun b => b < M) W v l
theorem Lo.below {M : Nat} {W W' : World} {v : Value} {l : List Nat} (h : Lo M W v l) (hb : Below W.heap.size W W') : Lo M W' v l := By.below h hb
theorem Lo.keep {M : Nat} {W W' : World} {v : Value} {l : List Nat} (h : Lo M W v l) {g : Nat} (hk : Keep g W W') (hg : M ≤ g) : Lo M W' v l := By.keep h hk (fun b hb => by omega)
set_option maxHeartbeats 4000000 in
set_option maxRecDepth 100000 in
theorem small_at (w : World) : Calls Try.prog 9 #[] w fun e w' => e = .returned (.bool true) ∧ Below w.heap.size w w' := by
  have P1 : Hid (∀ W, Calls Try.prog 10 #[.slice (some ⟨W.heap.size, 0, none⟩) 1 1, .int .i64 (-2), .int .i64 4] (W.alloc (.cells #[.int .u8 120] 5 (1, 2))) fun e w' => ∃ v', e = .returned (.tuple #[v', .bool true]) ∧ Old w' v' [120, 255, 255, 255, 254] ∧ Below W.heap.size W w') := Lib.hid fun W => by
    refine (put_at [120] _ (-2) 4 _ ⟨by decide, by decide⟩ ⟨by decide, by decide⟩ (lit_rd2 W #[.int .u8 120] [120] 1 (1, 2) rfl rfl) (by decide)).mono ?_
    rintro e w' ⟨v', rfl, ho, hb⟩
    exact ⟨v', rfl, own_old ho, btr (bal (Below.refl _ _) _) hb⟩
  have P2 : Hid (∀ W, Calls Try.prog 10 #[.slice none 0 0, .int .i64 (-9223372036854775808), .int .i64 8] W fun e w' => ∃ v', e = .returned (.tuple #[v', .bool true]) ∧ Old w' v' [128, 0, 0, 0, 0, 0, 0, 0] ∧ Below W.heap.size W w') := Lib.hid fun W => by
    refine (put_at [] _ (-9223372036854775808) 8 _ ⟨by decide, by decide⟩ ⟨by decide, by decide⟩ (rd_none W) (by decide)).mono ?_
    rintro e w' ⟨v', rfl, ho, hb⟩
    exact ⟨v', rfl, own_old ho, hb⟩
  have P3 : Hid (∀ W, Calls Try.prog 10 #[.slice (some ⟨W.heap.size, 0, none⟩) 1 1, .int .i64 256, .int .i64 1] (W.alloc (.cells #[.int .u8 120] 5 (1, 2))) fun e w' => ∃ v', e = .returned (.tuple #[v', .bool false]) ∧ Old w' v' [120] ∧ Below W.heap.size W w') := Lib.hid fun W => by
    refine (put_at [120] _ 256 1 _ ⟨by decide, by decide⟩ ⟨by decide, by decide⟩ (lit_rd2 W #[.int .u8 120] [120] 1 (1, 2) rfl rfl) (by decide)).mono ?_
    rintro e w' ⟨v', rfl, ho, hb⟩
    exact ⟨v', rfl, own_old ho, btr (bal (Below.refl _ _) _) hb⟩
  have P4 : Hid (∀ W, Calls Try.prog 10 #[.slice none 0 0, .int .i64 2147483648, .int .i64 4] W fun e w' => ∃ v', e = .returned (.tuple #[v', .bool false]) ∧ Below W.heap.size W w') := Lib.hid fun W => by
    refine (put_at [] _ 2147483648 4 _ ⟨by decide, by decide⟩ ⟨by decide, by decide⟩ (rd_none W) (by decide)).mono ?_
    rintro e w' ⟨v', rfl, ho, hb⟩
    exact ⟨v', rfl, hb⟩
  have P5 : Hid (∀ W, Calls Try.prog 10 #[.slice none 0 0, .int .i64 1, .int .i64 2] W fun e w' => ∃ v', e = .returned (.tuple #[v', .bool false]) ∧ Below W.heap.size W w') := Lib.hid fun W => by
    refine (put_at [] _ 1 2 _ ⟨by decide, by decide⟩ ⟨by decide, by decide⟩ (rd_none W) (by decide)).mono ?_
    rintro e w' ⟨v', rfl, ho, hb⟩
    exact ⟨v', rfl, hb⟩
  have OP : Hid (∀ W, Calls Try.prog 12 #[.slice (some ⟨W.heap.size, 0, none⟩) 7 7] (W.alloc (.cells #[.int .u8 255, .int .u8 255, .int .u8 255, .int .u8 254, .int .u8 9, .int .u8 1, .int .u8 2] 5)) fun e w' => ∃ g, e = .returned (.pointer (some ⟨g, 0, none⟩)) ∧ Rdr 44 W.heap.size w'.heap.size w' g [255, 255, 255, 254, 9, 1, 2] false ∧ Below W.heap.size W w') := Lib.hid fun W => by
    have hb0 := bal (Below.refl W.heap.size W) (.cells #[.int .u8 255, .int .u8 255, .int .u8 255, .int .u8 254, .int .u8 9, .int .u8 1, .int .u8 2] 5)
    refine (open_at [255, 255, 255, 254, 9, 1, 2] _ _ (lit_rd W #[.int .u8 255, .int .u8 255, .int .u8 255, .int .u8 254, .int .u8 9, .int .u8 1, .int .u8 2] [255, 255, 255, 254, 9, 1, 2] 7 rfl rfl (by decide)) (by decide)).mono ?_
    rintro e w' ⟨g, rfl, ⟨h1, h2, v, h3, h4⟩, hb⟩
    exact ⟨g, rfl, ⟨Nat.le_trans hb0.size h1, h2, v, h3, h4.imp (fun b hb => ⟨Nat.le_trans hb0.size hb.1, hb.2⟩) fun _ _ _ _ h => h⟩, btr hb0 hb⟩
  have N1 : Hid (∀ lo hi W g, Rdr 44 lo hi W g [255, 255, 255, 254, 9, 1, 2] false → Calls Try.prog 14 #[.pointer (some ⟨g, 0, none⟩), .int .i64 4] W fun e w' => e = .returned (.int .i64 (-2)) ∧ Rdr 44 lo hi w' g [9, 1, 2] false ∧ Keep g W w') := Lib.hid fun lo hi W g h =>
    num_at lo hi W g _ _ 4 h ⟨by decide, by decide⟩ (by decide) (bys_lit (by decide))
  have N2 : Hid (∀ lo hi W g, Rdr 44 lo hi W g [9, 1, 2] false → Calls Try.prog 14 #[.pointer (some ⟨g, 0, none⟩), .int .i64 1] W fun e w' => e = .returned (.int .i64 9) ∧ Rdr 44 lo hi w' g [1, 2] false ∧ Keep g W w') := Lib.hid fun lo hi W g h =>
    num_at lo hi W g _ _ 1 h ⟨by decide, by decide⟩ (by decide) (bys_lit (by decide))
  have N3 : Hid (∀ lo hi W g, Rdr 44 lo hi W g [1, 2] false → Calls Try.prog 14 #[.pointer (some ⟨g, 0, none⟩), .int .i64 4] W fun e w' => e = .returned (.int .i64 0) ∧ Rdr 44 lo hi w' g [] true ∧ Keep g W w') := Lib.hid fun lo hi W g h =>
    num_at lo hi W g _ _ 4 h ⟨by decide, by decide⟩ (by decide) (bys_lit (by decide))
  have L1 : Hid (∀ lo hi W g, Rdr 44 lo hi W g [1, 2] false → Calls Try.prog 18 #[.pointer (some ⟨g, 0, none⟩)] W fun e w' => e = .returned (.int .i64 2) ∧ W = w') := Lib.hid fun lo hi W g h => left_at lo hi W g _ _ h
  have L2 : Hid (∀ lo hi W g, Rdr 44 lo hi W g [] true → Calls Try.prog 18 #[.pointer (some ⟨g, 0, none⟩)] W fun e w' => e = .returned (.int .i64 0) ∧ W = w') := Lib.hid fun lo hi W g h => left_at lo hi W g _ _ h
  have K1 : Hid (∀ lo hi W g, Rdr 44 lo hi W g [] true → Calls Try.prog 20 #[.pointer (some ⟨g, 0, none⟩)] W fun e w' => e = .returned (.bool false) ∧ W = w') := Lib.hid fun lo hi W g h => ok_at lo hi W g _ _ h
  have FIN : Hid (∀ M W v l (s : ByteArray), Lo M W v l → strN l = s → (convert 22 9 v).run Try.prog W = .ok (.string s) W) := Lib.hid fun M W v l s h e => by rw [← e]; exact str_of (By.rd h)
  have kc := fun (w : World) (C : Array Value) (n c g : Nat) (hg : g = w.heap.size) => Joins.run_convert_bytes_const_at (P := Try.prog) w 22 5 C n c g hg Try.underlying22 Try.underlying5
  go_enter Try.func9, Try.ntmps9
  go_wp2_with (first
    | (go_at_call 10; (with_reducible refine (P1.out _).mono ?_); rintro e w1 ⟨v1, rfl, y1, hb1⟩; have HA := Lib.hid hb1; have Y1 := Lib.hid y1; clear hb1 y1)
    | (go_at_call 10; (with_reducible refine (P2.out _).mono ?_); rintro e w2 ⟨v2, rfl, y2, hb2⟩; have HB := Lib.hid (btr HA.out hb2); have Z1 := Lib.hid (Y1.out.below hb2); have Y2 := Lib.hid y2; clear hb2 y2 HA Y1)
    | (go_at_call 10; (with_reducible refine (P3.out _).mono ?_); rintro e w3 ⟨v3, rfl, y3, hb3⟩; have HC := Lib.hid (btr HB.out hb3); have X1 := Lib.hid (Z1.out.below hb3); have X2 := Lib.hid (Y2.out.below hb3); have X3 := Lib.hid y3; clear hb3 y3 HB Z1 Y2)
    | (go_at_call 10; (with_reducible refine (P4.out _).mono ?_); rintro e w4 ⟨v4, rfl, hb4⟩; have HD := Lib.hid (btr HC.out hb4); have W1 := Lib.hid (X1.out.below hb4); have W2 := Lib.hid (X2.out.below hb4); have W3 := Lib.hid (X3.out.below hb4); clear hb4 HC X1 X2 X3)
    | (go_at_call 10; (with_reducible refine (P5.out _).mono ?_); rintro e w5 ⟨v5, rfl, hb5⟩; have HE := Lib.hid (btr HD.out hb5); have V1 := Lib.hid (W1.out.below hb5); have V2 := Lib.hid (W2.out.below hb5); have V3 := Lib.hid (W3.out.below hb5); clear hb5 HD W1 W2 W3)
    | (go_at_call 12; (with_reducible refine (OP.out _).mono ?_); rintro e w6 ⟨g, rfl, r6, hb6⟩; have HF := Lib.hid (btr HE.out hb6); have SF := Lib.hid HE.out.size; have GR := Lib.hid r6.1; have R6 := Lib.hid r6; have U1 : Hid (Lo w5.heap.size w6 v1 _) := Lib.hid (By.below V1.out hb6); have U2 : Hid (Lo w5.heap.size w6 v2 _) := Lib.hid (By.below V2.out hb6); have U3 : Hid (Lo w5.heap.size w6 v3 _) := Lib.hid (By.below V3.out hb6); clear hb6 r6 HE V1 V2 V3)
    | (go_at_call 14; (with_reducible refine (N1.out _ _ _ _ R6.out).mono ?_); rintro e w7 ⟨rfl, r7, hk7⟩; have HG := Lib.hid (hk7.to_below HF.out (Nat.le_trans SF.out GR.out) HF.out.size); have T1 := Lib.hid (U1.out.keep hk7 GR.out); have T2 := Lib.hid (U2.out.keep hk7 GR.out); have T3 := Lib.hid (U3.out.keep hk7 GR.out); have R7 := Lib.hid r7; clear hk7 r7 HF U1 U2 U3 R6)
    | (go_at_call 14; (with_reducible refine (N2.out _ _ _ _ R7.out).mono ?_); rintro e w8 ⟨rfl, r8, hk8⟩; have HH := Lib.hid (hk8.to_below HG.out (Nat.le_trans SF.out GR.out) HG.out.size); have S1 := Lib.hid (T1.out.keep hk8 GR.out); have S2 := Lib.hid (T2.out.keep hk8 GR.out); have S3 := Lib.hid (T3.out.keep hk8 GR.out); have R8 := Lib.hid r8; clear hk8 r8 HG T1 T2 T3 R7)
    | (go_at_call 18; (with_reducible refine (L1.out _ _ _ _ R8.out).mono ?_); rintro e w9 ⟨rfl, rfl⟩)
    | (go_at_call 14; (with_reducible refine (N3.out _ _ _ _ R8.out).mono ?_); rintro e w9 ⟨rfl, r9, hk9⟩; have HI := Lib.hid (hk9.to_below HH.out (Nat.le_trans SF.out GR.out) HH.out.size); have q1 := FIN.out _ w9 v1 _ ⟨#[120, 255, 255, 255, 254]⟩ (S1.out.keep hk9 GR.out) rfl; have q2 := FIN.out _ w9 v2 _ ⟨#[128, 0, 0, 0, 0, 0, 0, 0]⟩ (S2.out.keep hk9 GR.out) rfl; have q3 := FIN.out _ w9 v3 _ ⟨#[120]⟩ (S3.out.keep hk9 GR.out) rfl; have R9 := Lib.hid r9; clear hk9 r9 HH S1 S2 S3 R8)
    | (go_at_call 18; (with_reducible refine (L2.out _ _ _ _ R9.out).mono ?_); rintro e w9 ⟨rfl, rfl⟩)
    | (go_at_call 20; (with_reducible refine (K1.out _ _ _ _ R9.out).mono ?_); rintro e w9 ⟨rfl, rfl⟩))
  go_ret
  exact ⟨by first | rfl | (simp; done), HI.out⟩
end Go.Proofs.Ytoclafnnbaddeaa.oct
