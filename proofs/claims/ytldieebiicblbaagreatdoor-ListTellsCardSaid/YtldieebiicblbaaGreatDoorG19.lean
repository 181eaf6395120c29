/-
  What take of a list's reading answers, and leaves: one more line. Conditions: the tables of package day hold what their initialisers lay; the library's variable MaxLen holds some number; the line has fewer than 2^32 - 15 bytes; the box holds how far the list is read, and the map where each kind stands.
-/
import Derived.Test.YtldieebiicblbaaGreatDoorG18
namespace Go.Proofs.YtldieebiicblbaaGreatDoor.list
open Go.ChangeShapes Go.WideShapes Go.ChangeAt Go.RowKit
open lx ls mem
open Go.Maps (Keyed string_keyed)
open lm (Lp ce)
set_option linter.unusedVariables false
set_option maxRecDepth 100000

theorem zeroI (w : World) : (zeroValue 3).run Tryz.prog w = .ok (.int .i64 0) w := by kernel_rfl
abbrev num (c : Int) : DataW Unit := .lit (.int .i64 c)
def Mark (i : Nat) : Prop := i = 1 ∨ i = 2 ∨ i = 3 ∨ i = 5
abbrev Pm (m n : Nat) (D : DataW Unit) (W : World) : Prop := W.ownsMap Tryz.prog 9 (plainElem Tryz.prog 3) m n D
/-- the map holds where each kind stands first. -/
def MP (m n : Nat) (s : S) (W : World) : Prop :=
  ∃ (D : DataW Unit) (q : Nat → Nat), Pm m n D W ∧ (∀ i, i ≤ 5 → D.atKey (kl i) (num 0) = num (q i : Nat)) ∧ ∀ i, Mark i → q i = s.p i
theorem pm_map {m n : Nat} {D : DataW Unit} {W : World} (h : Pm m n D W) : Maps.IsMap D := by
  obtain ⟨es, clock, h1, h2, h3, h4⟩ := h
  exact ⟨_, h4⟩
theorem pm_below {m n : Nat} {D : DataW Unit} {W W' : World} (h : Pm m n D W) (hb : Below W.heap.size W W') : Pm m n D W' := World.ownsMap.kept h (grown_of hb) (by simp)
theorem pm_keep {b m n : Nat} {D : DataW Unit} {W W' : World} (h : Pm m n D W) (hb : sha.Keep b W W') (hne : m ≠ b) : Pm m n D W' :=
  World.ownsMap.kept h (row := some b) ⟨hb.os, hb.tape, hb.output, hb.size, fun k h1 h2 => hb.block k h1 (fun e => h2 (by rw [e]))⟩ (by simpa using hne)
theorem mp_of {m n n' : Nat} {D : DataW Unit} {q : Nat → Nat} {s : S} {W : World} (h : Pm m n D W) (hn : n ≤ n') (hq : ∀ i, i ≤ 5 → D.atKey (kl i) (num 0) = num (q i : Nat)) (hs : ∀ i, Mark i → q i = s.p i) : MP m n' s W := ⟨D, q, World.ownsMap.mono h hn, hq, hs⟩
theorem mp_put {m n K a : Nat} {D : DataW Unit} {q : Nat → Nat} {s : S} {W : World} (hD : Maps.IsMap D) (hK : K ≤ 5) (h : Pm m n (D.put (kl K) (num (a : Nat))) W) (hq : ∀ i, i ≤ 5 → D.atKey (kl i) (num 0) = num (q i : Nat)) (hs : ∀ i, Mark i → (if i = K then a else q i) = s.p i) : MP m n s W := by
  refine ⟨_, fun i => if i = K then a else q i, h, fun i hi => ?_, hs⟩
  by_cases e : i = K
  · subst e
    rw [Maps.atKey_put_same hD (show WideAt.IsKeyLit (kl i) from trivial)]
    simp
  · rw [Maps.atKey_put_other (kl_ne hi hK e), hq i hi]
    simp [e]
theorem rs_grown {b m : Nat} {s : S} {W W' : World} (h : RS b m s W) (hg : W.grownBy W' (some m)) (hne : b ≠ m) : RS b m s W' := by
  have hl := rs_lt h
  obtain ⟨A, c, h1, h2, h3, h4⟩ := h
  exact ⟨A, c, (hg.block b hl (by simpa using hne)).trans h1, lps_but h2 (But.of_grown hg) (fun g o e => (h4 g o e).1), h3, h4⟩
theorem rs_same {b m : Nat} {s s' : S} {W : World} (h : RS b m s W) (h1 : s'.lv = s.lv) (h2 : s'.ct = s.ct) (h3 : s'.ex = s.ex) (h4 : s'.h = s.h) : RS b m s' W := by
  obtain ⟨A, c, g1, g2, g3, g4⟩ := h
  refine ⟨A, c, ?_, by rw [h1]; exact g2, by rw [h1]; exact g3, g4⟩
  rw [g1]
  unfold rc
  rw [h1, h2, h3, h4]
/-- what take leaves. -/
def TL (b m n a : Nat) (l : List UInt8) (s : S) (W : World) (e : Ending) (w' : World) : Prop :=
  e = .returned (.int .i64 (stE l s)) ∧ But b m W w' ∧ (stE l s = 0 → RS b m (stS l a s) w' ∧ MP m (n + 1) (stS l a s) w')
theorem stE_skip {l : List UInt8} {s : S} (h : kd l = 0 ∨ kd l = 4) : stE l s = 0 := by unfold stE; rw [if_pos h]
theorem stS_skip {l : List UInt8} {s : S} {a : Nat} (h : kd l = 0 ∨ kd l = 4) : (stS l a s).p = s.p ∧ (stS l a s).lv = s.lv ∧ (stS l a s).ct = s.ct ∧ (stS l a s).ex = s.ex ∧ (stS l a s).h = s.h := by
  rcases h with h | h <;> simp [stS, h]
theorem stE_mark {l : List UInt8} {s : S} {k : Nat} (hk : kd l = k) (h : k = 1 ∨ k = 2 ∨ k = 3) : stE l s = if s.p k = 0 ∧ ok l = true then 0 else 2 := by
  unfold stE
  rw [hk, if_neg (by omega), if_neg (by omega)]
theorem stS_mark {l : List UInt8} {s : S} {a k : Nat} (hk : kd l = k) (h : k = 1 ∨ k = 2 ∨ k = 3) : (stS l a s).p = put s.p k a ∧ (stS l a s).lv = (mS l s).lv ∧ (stS l a s).ct = (mS l s).ct ∧ (stS l a s).ex = (mS l s).ex ∧ (stS l a s).h = (mS l s).h := by
  rcases h with rfl | rfl | rfl <;> simp [stS, mS, hk]
theorem stE_data {l : List UInt8} {s : S} (hk : kd l = 5) : stE l s = dE l s := by
  unfold stE
  rw [hk, if_neg (by omega), if_pos rfl]
theorem stS_data {l : List UInt8} {s : S} {a : Nat} (hk : kd l = 5) : (stS l a s).p = put s.p 5 a ∧ (stS l a s).lv = (dS l s).lv ∧ (stS l a s).ct = (dS l s).ct ∧ (stS l a s).ex = (dS l s).ex ∧ (stS l a s).h = (dS l s).h := by
  by_cases h : s.p 5 = 0 <;> simp [stS, dS, hk, h]
theorem wf_nat {a : Nat} (h : a ≤ 9000000000) : (Lit.int .i64 (a : Nat)).wf = true := WalkArith.wf_i64 (by omega)

/-- what take needs to know, kind by kind. -/
theorem kind_lit {x : ByteArray} {k : Nat} (hk : kd (L x) = k) (hx : x.size < 4294967281) (W : World) : Calls Tryz.prog 34 #[.string x] W fun e w' => e = .returned (.string (kS k)) ∧ Below W.heap.size W w' := by
  have := kind_at x W hx
  rw [hk] at this
  exact this
theorem q_is {D : DataW Unit} {q : Nat → Nat} (hq : ∀ i, i ≤ 5 → D.atKey (kl i) (num 0) = num (q i : Nat)) {i : Nat} (hi : i ≤ 5) (c : Int) (h : D.atKey (kl i) (num 0) = num c) : c = (q i : Nat) := by
  rw [hq i hi] at h
  injection h with h
  injection h with _ h
  exact h.symm
set_option maxHeartbeats 2000000 in
theorem take0 (b m n a : Nat) (s : S) (x : ByteArray) (w0 W : World) (T : day.Tabs w0) (TM : lines.ML w0) (hw0 : Below w0.heap.size w0 W) (hb0 : w0.heap.size ≤ b) (hm0 : w0.heap.size ≤ m) (hbm : b ≠ m) (h : RS b m s W) (hp : MP m n s W) (hn : n ≤ 1000000000) (ha : a ≤ 9000000000) (hlen : s.lv.length ≤ 1000000) (hct : 0 ≤ s.ct ∧ s.ct ≤ 9223372036854775807) (hk : kd (L x) = 0) (hx : x.size < 4294967281) :
    Calls Tryz.prog 15 #[.pointer (some ⟨b, 0, none⟩), .string x, .int .i64 (a : Nat)] W (TL b m n a (L x) s W) := by
  obtain ⟨D, q, ho, hq, hs⟩ := hp
  have KI : Hid (Calls Tryz.prog 34 #[.string x] W fun e w' => e = .returned (.string ⟨#[101, 109, 112, 116, 121]⟩) ∧ Below W.heap.size W w') := kind_lit hk hx W
  have HK : Hid (keyOf Tryz.prog 9 (.string ⟨#[101, 109, 112, 116, 121]⟩) = some (kl 0)) := key_is 0
  have HQ := Lib.hid (q_is hq (show 0 ≤ 5 by decide))
  have HO := Lib.hid ho
  have CB := Lib.hid (fun W' (hb : Below W.heap.size W W') => rs_cells (rs_below h hb))
  have hn1 : n < maxLen := by unfold maxLen; omega
  have hml : m < W.heap.size := World.ownsMap.lt ho
  have hE := stE_skip (s := s) (show kd (L x) = 0 ∨ kd (L x) = 4 from .inl hk)
  obtain ⟨p1, p2, p3, p4, p5⟩ := stS_skip (s := s) (a := a) (show kd (L x) = 0 ∨ kd (L x) = 4 from .inl hk)
  have R1 : Hid (∀ w1 w2, Below W.heap.size W w1 → Pm m (n + 1) (D.put (kl 0) (num (a : Nat))) w2 → w1.grownBy w2 (some m) → TL b m n a (L x) s W (.returned (.int .i64 0)) w2) := fun w1 w2 hb1 ho2 hg2 => by
    refine ⟨by rw [hE], (But.of_below hb1).trans (But.of_grown hg2), fun _ => ⟨rs_same (rs_grown (rs_below h hb1) hg2 hbm) p2 p3 p4 p5, mp_put (pm_map ho) (by decide) ho2 hq (fun i hi => ?_)⟩⟩
    rw [p1, if_neg (by unfold Mark at hi; omega), hs i hi]
  have R2 : Hid (∀ w1, Below W.heap.size W w1 → TL b m n a (L x) s W (.returned (.int .i64 0)) w1) := fun w1 hb1 =>
    ⟨by rw [hE], But.of_below hb1, fun _ => ⟨rs_same (rs_below h hb1) p2 p3 p4 p5, mp_of (pm_below ho hb1) (by omega) hq (fun i hi => by rw [p1, hs i hi])⟩⟩
  by_cases hq0 : q 0 = 0
  · have t0 : (((q 0 : Nat) : Int) == 0) = true := by rw [hq0]; rfl
    clear h ho hq hs hE p1 p2 p3 p4 p5 hq0 T TM R2 hk
    go_enter Tryz.func15, Tryz.ntmps15
    go_wp2_with (first
      | (go_at_call 34; with_reducible refine KI.out.mono ?_; rintro e w1 ⟨rfl, hb1⟩; have HO1 := Lib.hid (pm_below HO.out hb1); obtain ⟨c0, c4, c5, fz⟩ := CB.out _ hb1)
      | (at_lookup; refine wpList_lookup_own_int w1 rfl _ _ 41 rfl 9 3 .i64 lawS Tryz.underlying41 Tryz.underlying3 (zeroI _) m n D rfl HO1.out _ (kl 0) rfl HK.out ?_; intro c hat hwc; obtain rfl := HQ.out c hat; clear hat hwc)
      | (at_mapUpdate; refine wpList_mapUpdate_own w1 rfl _ _ _ 41 rfl 9 3 lawS Tryz.underlying41 (plainElem Tryz.prog 3) m n D rfl HO1.out hn1 _ _ (kl 0) rfl rfl HK.out _ [] (plainElem_int Tryz.underlying3 (wf_nat ha)) ?_; intro w2 ho2 hg2; have HO2 := Lib.hid ho2; have HG2 := Lib.hid hg2; clear ho2 hg2))
    go_ret
    exact R1.out _ _ hb1 HO2.out HG2.out
  · have t0 : (((q 0 : Nat) : Int) == 0) = false := by simp; omega
    clear h ho hq hs hE p1 p2 p3 p4 p5 hq0 T TM R1 hk
    go_enter Tryz.func15, Tryz.ntmps15
    go_wp2_with (first
      | (go_at_call 34; with_reducible refine KI.out.mono ?_; rintro e w1 ⟨rfl, hb1⟩; have HO1 := Lib.hid (pm_below HO.out hb1); obtain ⟨c0, c4, c5, fz⟩ := CB.out _ hb1)
      | (at_lookup; refine wpList_lookup_own_int w1 rfl _ _ 41 rfl 9 3 .i64 lawS Tryz.underlying41 Tryz.underlying3 (zeroI _) m n D rfl HO1.out _ (kl 0) rfl HK.out ?_; intro c hat hwc; obtain rfl := HQ.out c hat; clear hat hwc))
    go_ret
    exact R2.out _ hb1
set_option maxHeartbeats 2000000 in
theorem take1 (b m n a : Nat) (s : S) (x : ByteArray) (w0 W : World) (T : day.Tabs w0) (TM : lines.ML w0) (hw0 : Below w0.heap.size w0 W) (hb0 : w0.heap.size ≤ b) (hm0 : w0.heap.size ≤ m) (hbm : b ≠ m) (h : RS b m s W) (hp : MP m n s W) (hn : n ≤ 1000000000) (ha : a ≤ 9000000000) (hlen : s.lv.length ≤ 1000000) (hct : 0 ≤ s.ct ∧ s.ct ≤ 9223372036854775807) (hk : kd (L x) = 1) (hx : x.size < 4294967281) :
    Calls Tryz.prog 15 #[.pointer (some ⟨b, 0, none⟩), .string x, .int .i64 (a : Nat)] W (TL b m n a (L x) s W) := by
  obtain ⟨D, q, ho, hq, hs⟩ := hp
  have KI : Hid (Calls Tryz.prog 34 #[.string x] W fun e w' => e = .returned (.string ⟨#[35, 36]⟩) ∧ Below W.heap.size W w') := kind_lit hk hx W
  have HK : Hid (keyOf Tryz.prog 9 (.string ⟨#[35, 36]⟩) = some (kl 1)) := key_is 1
  have HQ := Lib.hid (q_is hq (show 1 ≤ 5 by decide))
  have HO := Lib.hid ho
  have CB := Lib.hid (fun W' (hb : Below W.heap.size W W') => rs_cells (rs_below h hb))
  have hn1 : n < maxLen := by unfold maxLen; omega
  have hml : m < W.heap.size := World.ownsMap.lt ho
  have hE := stE_mark (s := s) hk (by decide)
  obtain ⟨p1, p2, p3, p4, p5⟩ := stS_mark (s := s) (a := a) hk (by decide)
  have hqp : q 1 = s.p 1 := hs 1 (by unfold Mark; decide)
  by_cases hq0 : q 1 = 0
  · have t0 : (((q 1 : Nat) : Int) == 0) = true := by rw [hq0]; rfl
    have TK : Hid (∀ w1 w2, Below W.heap.size W w1 → w1.grownBy w2 (some m) → Calls Tryz.prog 41 #[.pointer (some ⟨b, 0, none⟩), .string ⟨#[35, 36]⟩, .string x] w2 (Marked b m w2 (ok (L x)) (mS (L x) s))) := fun w1 w2 hb1 hg2 =>
      takeMark_at b m s 1 x w2 (TM.below (((But.of_below (b := b) hb1).trans (But.of_grown hg2)).to_below hw0 hb0 hm0 hw0.size)) (rs_grown (rs_below h hb1) hg2 hbm) hk (by decide) hx
    unfold Marked at TK
    cases hok : ok (L x) with
    | true =>
      rw [if_pos ⟨by rw [← hqp]; exact hq0, hok⟩] at hE
      have R1 : Hid (∀ w1 w2 w3, Below W.heap.size W w1 → Pm m (n + 1) (D.put (kl 1) (num (a : Nat))) w2 → w1.grownBy w2 (some m) → sha.Keep b w2 w3 → (true = true → RS b m (mS (L x) s) w3) → TL b m n a (L x) s W (.returned (.int .i64 0)) w3) := fun w1 w2 w3 hb1 ho2 hg2 hk3 hr3 => by
        refine ⟨by rw [hE], ((But.of_below hb1).trans (But.of_grown hg2)).trans (But.of_keep hk3), fun _ => ⟨rs_same (hr3 rfl) p2 p3 p4 p5, mp_put (pm_map ho) (by decide) (pm_keep ho2 hk3 (fun e => hbm e.symm)) hq (fun i hi => ?_)⟩⟩
        rw [p1]
        unfold put
        by_cases e : i = 1
        · rw [if_pos e, if_pos ⟨e, by rw [← hqp]; exact hq0⟩]
        · rw [if_neg e, if_neg (fun g => e g.1), hs i hi]
      rw [hok] at TK
      clear h ho hq hs hE p1 p2 p3 p4 p5 hq0 T TM hk hqp hok
      go_enter Tryz.func15, Tryz.ntmps15
      go_wp2_with (first
        | (go_at_call 34; with_reducible refine KI.out.mono ?_; rintro e w1 ⟨rfl, hb1⟩; have HO1 := Lib.hid (pm_below HO.out hb1); obtain ⟨c0, c4, c5, fz⟩ := CB.out _ hb1)
        | (at_lookup; refine wpList_lookup_own_int w1 rfl _ _ 41 rfl 9 3 .i64 lawS Tryz.underlying41 Tryz.underlying3 (zeroI _) m n D rfl HO1.out _ (kl 1) rfl HK.out ?_; intro c hat hwc; obtain rfl := HQ.out c hat; clear hat hwc)
        | (at_mapUpdate; refine wpList_mapUpdate_own w1 rfl _ _ _ 41 rfl 9 3 lawS Tryz.underlying41 (plainElem Tryz.prog 3) m n D rfl HO1.out hn1 _ _ (kl 1) rfl rfl HK.out _ [] (plainElem_int Tryz.underlying3 (wf_nat ha)) ?_; intro w2 ho2 hg2; have TK2 := Lib.hid (TK.out _ _ hb1 hg2); have HO2 := Lib.hid ho2; have HG2 := Lib.hid hg2; clear ho2 hg2)
        | (go_at_call 41; with_reducible refine TK2.out.mono ?_; rintro e w3 ⟨rfl, hk3, hr3⟩))
      go_ret
      exact R1.out _ _ _ hb1 HO2.out HG2.out hk3 hr3
    | false =>
      rw [if_neg (fun g => by rw [hok] at g; exact absurd g.2 (by decide))] at hE
      have R1 : Hid (∀ w1 w2 w3, Below W.heap.size W w1 → w1.grownBy w2 (some m) → sha.Keep b w2 w3 → TL b m n a (L x) s W (.returned (.int .i64 2)) w3) := fun w1 w2 w3 hb1 hg2 hk3 =>
        ⟨by rw [hE], ((But.of_below hb1).trans (But.of_grown hg2)).trans (But.of_keep hk3), fun h => by rw [hE] at h; exact absurd h (by decide)⟩
      rw [hok] at TK
      clear h ho hq hs hE p1 p2 p3 p4 p5 hq0 T TM hk hqp hok
      go_enter Tryz.func15, Tryz.ntmps15
      go_wp2_with (first
        | (go_at_call 34; with_reducible refine KI.out.mono ?_; rintro e w1 ⟨rfl, hb1⟩; have HO1 := Lib.hid (pm_below HO.out hb1); obtain ⟨c0, c4, c5, fz⟩ := CB.out _ hb1)
        | (at_lookup; refine wpList_lookup_own_int w1 rfl _ _ 41 rfl 9 3 .i64 lawS Tryz.underlying41 Tryz.underlying3 (zeroI _) m n D rfl HO1.out _ (kl 1) rfl HK.out ?_; intro c hat hwc; obtain rfl := HQ.out c hat; clear hat hwc)
        | (at_mapUpdate; refine wpList_mapUpdate_own w1 rfl _ _ _ 41 rfl 9 3 lawS Tryz.underlying41 (plainElem Tryz.prog 3) m n D rfl HO1.out hn1 _ _ (kl 1) rfl rfl HK.out _ [] (plainElem_int Tryz.underlying3 (wf_nat ha)) ?_; intro w2 ho2 hg2; have TK2 := Lib.hid (TK.out _ _ hb1 hg2); have HO2 := Lib.hid ho2; have HG2 := Lib.hid hg2; clear ho2 hg2)
        | (go_at_call 41; with_reducible refine TK2.out.mono ?_; rintro e w3 ⟨rfl, hk3, hr3⟩))
      go_ret
      exact R1.out _ _ _ hb1 HG2.out hk3
  · have t0 : (((q 1 : Nat) : Int) == 0) = false := by simp; omega
    rw [if_neg (fun g => hq0 (hqp.trans g.1))] at hE
    have R2 : Hid (∀ w1, Below W.heap.size W w1 → TL b m n a (L x) s W (.returned (.int .i64 2)) w1) := fun w1 hb1 => ⟨by rw [hE], But.of_below hb1, fun h => by rw [hE] at h; exact absurd h (by decide)⟩
    clear h ho hq hs hE p1 p2 p3 p4 p5 hq0 T TM hk hqp
    go_enter Tryz.func15, Tryz.ntmps15
    go_wp2_with (first
      | (go_at_call 34; with_reducible refine KI.out.mono ?_; rintro e w1 ⟨rfl, hb1⟩; have HO1 := Lib.hid (pm_below HO.out hb1); obtain ⟨c0, c4, c5, fz⟩ := CB.out _ hb1)
      | (at_lookup; refine wpList_lookup_own_int w1 rfl _ _ 41 rfl 9 3 .i64 lawS Tryz.underlying41 Tryz.underlying3 (zeroI _) m n D rfl HO1.out _ (kl 1) rfl HK.out ?_; intro c hat hwc; obtain rfl := HQ.out c hat; clear hat hwc))
    go_ret
    exact R2.out _ hb1
set_option maxHeartbeats 2000000 in
theorem take2 (b m n a : Nat) (s : S) (x : ByteArray) (w0 W : World) (T : day.Tabs w0) (TM : lines.ML w0) (hw0 : Below w0.heap.size w0 W) (hb0 : w0.heap.size ≤ b) (hm0 : w0.heap.size ≤ m) (hbm : b ≠ m) (h : RS b m s W) (hp : MP m n s W) (hn : n ≤ 1000000000) (ha : a ≤ 9000000000) (hlen : s.lv.length ≤ 1000000) (hct : 0 ≤ s.ct ∧ s.ct ≤ 9223372036854775807) (hk : kd (L x) = 2) (hx : x.size < 4294967281) :
    Calls Tryz.prog 15 #[.pointer (some ⟨b, 0, none⟩), .string x, .int .i64 (a : Nat)] W (TL b m n a (L x) s W) := by
  obtain ⟨D, q, ho, hq, hs⟩ := hp
  have KI : Hid (Calls Tryz.prog 34 #[.string x] W fun e w' => e = .returned (.string ⟨#[35, 64]⟩) ∧ Below W.heap.size W w') := kind_lit hk hx W
  have HK : Hid (keyOf Tryz.prog 9 (.string ⟨#[35, 64]⟩) = some (kl 2)) := key_is 2
  have HQ := Lib.hid (q_is hq (show 2 ≤ 5 by decide))
  have HO := Lib.hid ho
  have CB := Lib.hid (fun W' (hb : Below W.heap.size W W') => rs_cells (rs_below h hb))
  have hn1 : n < maxLen := by unfold maxLen; omega
  have hml : m < W.heap.size := World.ownsMap.lt ho
  have hE := stE_mark (s := s) hk (by decide)
  obtain ⟨p1, p2, p3, p4, p5⟩ := stS_mark (s := s) (a := a) hk (by decide)
  have hqp : q 2 = s.p 2 := hs 2 (by unfold Mark; decide)
  by_cases hq0 : q 2 = 0
  · have t0 : (((q 2 : Nat) : Int) == 0) = true := by rw [hq0]; rfl
    have TK : Hid (∀ w1 w2, Below W.heap.size W w1 → w1.grownBy w2 (some m) → Calls Tryz.prog 41 #[.pointer (some ⟨b, 0, none⟩), .string ⟨#[35, 64]⟩, .string x] w2 (Marked b m w2 (ok (L x)) (mS (L x) s))) := fun w1 w2 hb1 hg2 =>
      takeMark_at b m s 2 x w2 (TM.below (((But.of_below (b := b) hb1).trans (But.of_grown hg2)).to_below hw0 hb0 hm0 hw0.size)) (rs_grown (rs_below h hb1) hg2 hbm) hk (by decide) hx
    unfold Marked at TK
    cases hok : ok (L x) with
    | true =>
      rw [if_pos ⟨by rw [← hqp]; exact hq0, hok⟩] at hE
      have R1 : Hid (∀ w1 w2 w3, Below W.heap.size W w1 → Pm m (n + 1) (D.put (kl 2) (num (a : Nat))) w2 → w1.grownBy w2 (some m) → sha.Keep b w2 w3 → (true = true → RS b m (mS (L x) s) w3) → TL b m n a (L x) s W (.returned (.int .i64 0)) w3) := fun w1 w2 w3 hb1 ho2 hg2 hk3 hr3 => by
        refine ⟨by rw [hE], ((But.of_below hb1).trans (But.of_grown hg2)).trans (But.of_keep hk3), fun _ => ⟨rs_same (hr3 rfl) p2 p3 p4 p5, mp_put (pm_map ho) (by decide) (pm_keep ho2 hk3 (fun e => hbm e.symm)) hq (fun i hi => ?_)⟩⟩
        rw [p1]
        unfold put
        by_cases e : i = 2
        · rw [if_pos e, if_pos ⟨e, by rw [← hqp]; exact hq0⟩]
        · rw [if_neg e, if_neg (fun g => e g.1), hs i hi]
      rw [hok] at TK
      clear h ho hq hs hE p1 p2 p3 p4 p5 hq0 T TM hk hqp hok
      go_enter Tryz.func15, Tryz.ntmps15
      go_wp2_with (first
        | (go_at_call 34; with_reducible refine KI.out.mono ?_; rintro e w1 ⟨rfl, hb1⟩; have HO1 := Lib.hid (pm_below HO.out hb1); obtain ⟨c0, c4, c5, fz⟩ := CB.out _ hb1)
        | (at_lookup; refine wpList_lookup_own_int w1 rfl _ _ 41 rfl 9 3 .i64 lawS Tryz.underlying41 Tryz.underlying3 (zeroI _) m n D rfl HO1.out _ (kl 2) rfl HK.out ?_; intro c hat hwc; obtain rfl := HQ.out c hat; clear hat hwc)
        | (at_mapUpdate; refine wpList_mapUpdate_own w1 rfl _ _ _ 41 rfl 9 3 lawS Tryz.underlying41 (plainElem Tryz.prog 3) m n D rfl HO1.out hn1 _ _ (kl 2) rfl rfl HK.out _ [] (plainElem_int Tryz.underlying3 (wf_nat ha)) ?_; intro w2 ho2 hg2; have TK2 := Lib.hid (TK.out _ _ hb1 hg2); have HO2 := Lib.hid ho2; have HG2 := Lib.hid hg2; clear ho2 hg2)
        | (go_at_call 41; with_reducible refine TK2.out.mono ?_; rintro e w3 ⟨rfl, hk3, hr3⟩))
      go_ret
      exact R1.out _ _ _ hb1 HO2.out HG2.out hk3 hr3
    | false =>
      rw [if_neg (fun g => by rw [hok] at g; exact absurd g.2 (by decide))] at hE
      have R1 : Hid (∀ w1 w2 w3, Below W.heap.size W w1 → w1.grownBy w2 (some m) → sha.Keep b w2 w3 → TL b m n a (L x) s W (.returned (.int .i64 2)) w3) := fun w1 w2 w3 hb1 hg2 hk3 =>
        ⟨by rw [hE], ((But.of_below hb1).trans (But.of_grown hg2)).trans (But.of_keep hk3), fun h => by rw [hE] at h; exact absurd h (by decide)⟩
      rw [hok] at TK
      clear h ho hq hs hE p1 p2 p3 p4 p5 hq0 T TM hk hqp hok
      go_enter Tryz.func15, Tryz.ntmps15
      go_wp2_with (first
        | (go_at_call 34; with_reducible refine KI.out.mono ?_; rintro e w1 ⟨rfl, hb1⟩; have HO1 := Lib.hid (pm_below HO.out hb1); obtain ⟨c0, c4, c5, fz⟩ := CB.out _ hb1)
        | (at_lookup; refine wpList_lookup_own_int w1 rfl _ _ 41 rfl 9 3 .i64 lawS Tryz.underlying41 Tryz.underlying3 (zeroI _) m n D rfl HO1.out _ (kl 2) rfl HK.out ?_; intro c hat hwc; obtain rfl := HQ.out c hat; clear hat hwc)
        | (at_mapUpdate; refine wpList_mapUpdate_own w1 rfl _ _ _ 41 rfl 9 3 lawS Tryz.underlying41 (plainElem Tryz.prog 3) m n D rfl HO1.out hn1 _ _ (kl 2) rfl rfl HK.out _ [] (plainElem_int Tryz.underlying3 (wf_nat ha)) ?_; intro w2 ho2 hg2; have TK2 := Lib.hid (TK.out _ _ hb1 hg2); have HO2 := Lib.hid ho2; have HG2 := Lib.hid hg2; clear ho2 hg2)
        | (go_at_call 41; with_reducible refine TK2.out.mono ?_; rintro e w3 ⟨rfl, hk3, hr3⟩))
      go_ret
      exact R1.out _ _ _ hb1 HG2.out hk3
  · have t0 : (((q 2 : Nat) : Int) == 0) = false := by simp; omega
    rw [if_neg (fun g => hq0 (hqp.trans g.1))] at hE
    have R2 : Hid (∀ w1, Below W.heap.size W w1 → TL b m n a (L x) s W (.returned (.int .i64 2)) w1) := fun w1 hb1 => ⟨by rw [hE], But.of_below hb1, fun h => by rw [hE] at h; exact absurd h (by decide)⟩
    clear h ho hq hs hE p1 p2 p3 p4 p5 hq0 T TM hk hqp
    go_enter Tryz.func15, Tryz.ntmps15
    go_wp2_with (first
      | (go_at_call 34; with_reducible refine KI.out.mono ?_; rintro e w1 ⟨rfl, hb1⟩; have HO1 := Lib.hid (pm_below HO.out hb1); obtain ⟨c0, c4, c5, fz⟩ := CB.out _ hb1)
      | (at_lookup; refine wpList_lookup_own_int w1 rfl _ _ 41 rfl 9 3 .i64 lawS Tryz.underlying41 Tryz.underlying3 (zeroI _) m n D rfl HO1.out _ (kl 2) rfl HK.out ?_; intro c hat hwc; obtain rfl := HQ.out c hat; clear hat hwc))
    go_ret
    exact R2.out _ hb1
set_option maxHeartbeats 2000000 in
theorem take3 (b m n a : Nat) (s : S) (x : ByteArray) (w0 W : World) (T : day.Tabs w0) (TM : lines.ML w0) (hw0 : Below w0.heap.size w0 W) (hb0 : w0.heap.size ≤ b) (hm0 : w0.heap.size ≤ m) (hbm : b ≠ m) (h : RS b m s W) (hp : MP m n s W) (hn : n ≤ 1000000000) (ha : a ≤ 9000000000) (hlen : s.lv.length ≤ 1000000) (hct : 0 ≤ s.ct ∧ s.ct ≤ 9223372036854775807) (hk : kd (L x) = 3) (hx : x.size < 4294967281) :
    Calls Tryz.prog 15 #[.pointer (some ⟨b, 0, none⟩), .string x, .int .i64 (a : Nat)] W (TL b m n a (L x) s W) := by
  obtain ⟨D, q, ho, hq, hs⟩ := hp
  have KI : Hid (Calls Tryz.prog 34 #[.string x] W fun e w' => e = .returned (.string ⟨#[35, 104]⟩) ∧ Below W.heap.size W w') := kind_lit hk hx W
  have HK : Hid (keyOf Tryz.prog 9 (.string ⟨#[35, 104]⟩) = some (kl 3)) := key_is 3
  have HQ := Lib.hid (q_is hq (show 3 ≤ 5 by decide))
  have HO := Lib.hid ho
  have CB := Lib.hid (fun W' (hb : Below W.heap.size W W') => rs_cells (rs_below h hb))
  have hn1 : n < maxLen := by unfold maxLen; omega
  have hml : m < W.heap.size := World.ownsMap.lt ho
  have hE := stE_mark (s := s) hk (by decide)
  obtain ⟨p1, p2, p3, p4, p5⟩ := stS_mark (s := s) (a := a) hk (by decide)
  have hqp : q 3 = s.p 3 := hs 3 (by unfold Mark; decide)
  by_cases hq0 : q 3 = 0
  · have t0 : (((q 3 : Nat) : Int) == 0) = true := by rw [hq0]; rfl
    have TK : Hid (∀ w1 w2, Below W.heap.size W w1 → w1.grownBy w2 (some m) → Calls Tryz.prog 41 #[.pointer (some ⟨b, 0, none⟩), .string ⟨#[35, 104]⟩, .string x] w2 (Marked b m w2 (ok (L x)) (mS (L x) s))) := fun w1 w2 hb1 hg2 =>
      takeMark_at b m s 3 x w2 (TM.below (((But.of_below (b := b) hb1).trans (But.of_grown hg2)).to_below hw0 hb0 hm0 hw0.size)) (rs_grown (rs_below h hb1) hg2 hbm) hk (by decide) hx
    unfold Marked at TK
    cases hok : ok (L x) with
    | true =>
      rw [if_pos ⟨by rw [← hqp]; exact hq0, hok⟩] at hE
      have R1 : Hid (∀ w1 w2 w3, Below W.heap.size W w1 → Pm m (n + 1) (D.put (kl 3) (num (a : Nat))) w2 → w1.grownBy w2 (some m) → sha.Keep b w2 w3 → (true = true → RS b m (mS (L x) s) w3) → TL b m n a (L x) s W (.returned (.int .i64 0)) w3) := fun w1 w2 w3 hb1 ho2 hg2 hk3 hr3 => by
        refine ⟨by rw [hE], ((But.of_below hb1).trans (But.of_grown hg2)).trans (But.of_keep hk3), fun _ => ⟨rs_same (hr3 rfl) p2 p3 p4 p5, mp_put (pm_map ho) (by decide) (pm_keep ho2 hk3 (fun e => hbm e.symm)) hq (fun i hi => ?_)⟩⟩
        rw [p1]
        unfold put
        by_cases e : i = 3
        · rw [if_pos e, if_pos ⟨e, by rw [← hqp]; exact hq0⟩]
        · rw [if_neg e, if_neg (fun g => e g.1), hs i hi]
      rw [hok] at TK
      clear h ho hq hs hE p1 p2 p3 p4 p5 hq0 T TM hk hqp hok
      go_enter Tryz.func15, Tryz.ntmps15
      go_wp2_with (first
        | (go_at_call 34; with_reducible refine KI.out.mono ?_; rintro e w1 ⟨rfl, hb1⟩; have HO1 := Lib.hid (pm_below HO.out hb1); obtain ⟨c0, c4, c5, fz⟩ := CB.out _ hb1)
        | (at_lookup; refine wpList_lookup_own_int w1 rfl _ _ 41 rfl 9 3 .i64 lawS Tryz.underlying41 Tryz.underlying3 (zeroI _) m n D rfl HO1.out _ (kl 3) rfl HK.out ?_; intro c hat hwc; obtain rfl := HQ.out c hat; clear hat hwc)
        | (at_mapUpdate; refine wpList_mapUpdate_own w1 rfl _ _ _ 41 rfl 9 3 lawS Tryz.underlying41 (plainElem Tryz.prog 3) m n D rfl HO1.out hn1 _ _ (kl 3) rfl rfl HK.out _ [] (plainElem_int Tryz.underlying3 (wf_nat ha)) ?_; intro w2 ho2 hg2; have TK2 := Lib.hid (TK.out _ _ hb1 hg2); have HO2 := Lib.hid ho2; have HG2 := Lib.hid hg2; clear ho2 hg2)
        | (go_at_call 41; with_reducible refine TK2.out.mono ?_; rintro e w3 ⟨rfl, hk3, hr3⟩))
      go_ret
      exact R1.out _ _ _ hb1 HO2.out HG2.out hk3 hr3
    | false =>
      rw [if_neg (fun g => by rw [hok] at g; exact absurd g.2 (by decide))] at hE
      have R1 : Hid (∀ w1 w2 w3, Below W.heap.size W w1 → w1.grownBy w2 (some m) → sha.Keep b w2 w3 → TL b m n a (L x) s W (.returned (.int .i64 2)) w3) := fun w1 w2 w3 hb1 hg2 hk3 =>
        ⟨by rw [hE], ((But.of_below hb1).trans (But.of_grown hg2)).trans (But.of_keep hk3), fun h => by rw [hE] at h; exact absurd h (by decide)⟩
      rw [hok] at TK
      clear h ho hq hs hE p1 p2 p3 p4 p5 hq0 T TM hk hqp hok
      go_enter Tryz.func15, Tryz.ntmps15
      go_wp2_with (first
        | (go_at_call 34; with_reducible refine KI.out.mono ?_; rintro e w1 ⟨rfl, hb1⟩; have HO1 := Lib.hid (pm_below HO.out hb1); obtain ⟨c0, c4, c5, fz⟩ := CB.out _ hb1)
        | (at_lookup; refine wpList_lookup_own_int w1 rfl _ _ 41 rfl 9 3 .i64 lawS Tryz.underlying41 Tryz.underlying3 (zeroI _) m n D rfl HO1.out _ (kl 3) rfl HK.out ?_; intro c hat hwc; obtain rfl := HQ.out c hat; clear hat hwc)
        | (at_mapUpdate; refine wpList_mapUpdate_own w1 rfl _ _ _ 41 rfl 9 3 lawS Tryz.underlying41 (plainElem Tryz.prog 3) m n D rfl HO1.out hn1 _ _ (kl 3) rfl rfl HK.out _ [] (plainElem_int Tryz.underlying3 (wf_nat ha)) ?_; intro w2 ho2 hg2; have TK2 := Lib.hid (TK.out _ _ hb1 hg2); have HO2 := Lib.hid ho2; have HG2 := Lib.hid hg2; clear ho2 hg2)
        | (go_at_call 41; with_reducible refine TK2.out.mono ?_; rintro e w3 ⟨rfl, hk3, hr3⟩))
      go_ret
      exact R1.out _ _ _ hb1 HG2.out hk3
  · have t0 : (((q 3 : Nat) : Int) == 0) = false := by simp; omega
    rw [if_neg (fun g => hq0 (hqp.trans g.1))] at hE
    have R2 : Hid (∀ w1, Below W.heap.size W w1 → TL b m n a (L x) s W (.returned (.int .i64 2)) w1) := fun w1 hb1 => ⟨by rw [hE], But.of_below hb1, fun h => by rw [hE] at h; exact absurd h (by decide)⟩
    clear h ho hq hs hE p1 p2 p3 p4 p5 hq0 T TM hk hqp
    go_enter Tryz.func15, Tryz.ntmps15
    go_wp2_with (first
      | (go_at_call 34; with_reducible refine KI.out.mono ?_; rintro e w1 ⟨rfl, hb1⟩; have HO1 := Lib.hid (pm_below HO.out hb1); obtain ⟨c0, c4, c5, fz⟩ := CB.out _ hb1)
      | (at_lookup; refine wpList_lookup_own_int w1 rfl _ _ 41 rfl 9 3 .i64 lawS Tryz.underlying41 Tryz.underlying3 (zeroI _) m n D rfl HO1.out _ (kl 3) rfl HK.out ?_; intro c hat hwc; obtain rfl := HQ.out c hat; clear hat hwc))
    go_ret
    exact R2.out _ hb1
set_option maxHeartbeats 2000000 in
theorem take4 (b m n a : Nat) (s : S) (x : ByteArray) (w0 W : World) (T : day.Tabs w0) (TM : lines.ML w0) (hw0 : Below w0.heap.size w0 W) (hb0 : w0.heap.size ≤ b) (hm0 : w0.heap.size ≤ m) (hbm : b ≠ m) (h : RS b m s W) (hp : MP m n s W) (hn : n ≤ 1000000000) (ha : a ≤ 9000000000) (hlen : s.lv.length ≤ 1000000) (hct : 0 ≤ s.ct ∧ s.ct ≤ 9223372036854775807) (hk : kd (L x) = 4) (hx : x.size < 4294967281) :
    Calls Tryz.prog 15 #[.pointer (some ⟨b, 0, none⟩), .string x, .int .i64 (a : Nat)] W (TL b m n a (L x) s W) := by
  obtain ⟨D, q, ho, hq, hs⟩ := hp
  have KI : Hid (Calls Tryz.prog 34 #[.string x] W fun e w' => e = .returned (.string ⟨#[35]⟩) ∧ Below W.heap.size W w') := kind_lit hk hx W
  have HK : Hid (keyOf Tryz.prog 9 (.string ⟨#[35]⟩) = some (kl 4)) := key_is 4
  have HQ := Lib.hid (q_is hq (show 4 ≤ 5 by decide))
  have HO := Lib.hid ho
  have CB := Lib.hid (fun W' (hb : Below W.heap.size W W') => rs_cells (rs_below h hb))
  have hn1 : n < maxLen := by unfold maxLen; omega
  have hml : m < W.heap.size := World.ownsMap.lt ho
  have hE := stE_skip (s := s) (show kd (L x) = 0 ∨ kd (L x) = 4 from .inr hk)
  obtain ⟨p1, p2, p3, p4, p5⟩ := stS_skip (s := s) (a := a) (show kd (L x) = 0 ∨ kd (L x) = 4 from .inr hk)
  have R1 : Hid (∀ w1 w2, Below W.heap.size W w1 → Pm m (n + 1) (D.put (kl 4) (num (a : Nat))) w2 → w1.grownBy w2 (some m) → TL b m n a (L x) s W (.returned (.int .i64 0)) w2) := fun w1 w2 hb1 ho2 hg2 => by
    refine ⟨by rw [hE], (But.of_below hb1).trans (But.of_grown hg2), fun _ => ⟨rs_same (rs_grown (rs_below h hb1) hg2 hbm) p2 p3 p4 p5, mp_put (pm_map ho) (by decide) ho2 hq (fun i hi => ?_)⟩⟩
    rw [p1, if_neg (by unfold Mark at hi; omega), hs i hi]
  have R2 : Hid (∀ w1, Below W.heap.size W w1 → TL b m n a (L x) s W (.returned (.int .i64 0)) w1) := fun w1 hb1 =>
    ⟨by rw [hE], But.of_below hb1, fun _ => ⟨rs_same (rs_below h hb1) p2 p3 p4 p5, mp_of (pm_below ho hb1) (by omega) hq (fun i hi => by rw [p1, hs i hi])⟩⟩
  by_cases hq0 : q 4 = 0
  · have t0 : (((q 4 : Nat) : Int) == 0) = true := by rw [hq0]; rfl
    clear h ho hq hs hE p1 p2 p3 p4 p5 hq0 T TM R2 hk
    go_enter Tryz.func15, Tryz.ntmps15
    go_wp2_with (first
      | (go_at_call 34; with_reducible refine KI.out.mono ?_; rintro e w1 ⟨rfl, hb1⟩; have HO1 := Lib.hid (pm_below HO.out hb1); obtain ⟨c0, c4, c5, fz⟩ := CB.out _ hb1)
      | (at_lookup; refine wpList_lookup_own_int w1 rfl _ _ 41 rfl 9 3 .i64 lawS Tryz.underlying41 Tryz.underlying3 (zeroI _) m n D rfl HO1.out _ (kl 4) rfl HK.out ?_; intro c hat hwc; obtain rfl := HQ.out c hat; clear hat hwc)
      | (at_mapUpdate; refine wpList_mapUpdate_own w1 rfl _ _ _ 41 rfl 9 3 lawS Tryz.underlying41 (plainElem Tryz.prog 3) m n D rfl HO1.out hn1 _ _ (kl 4) rfl rfl HK.out _ [] (plainElem_int Tryz.underlying3 (wf_nat ha)) ?_; intro w2 ho2 hg2; have HO2 := Lib.hid ho2; have HG2 := Lib.hid hg2; clear ho2 hg2))
    go_ret
    exact R1.out _ _ hb1 HO2.out HG2.out
  · have t0 : (((q 4 : Nat) : Int) == 0) = false := by simp; omega
    clear h ho hq hs hE p1 p2 p3 p4 p5 hq0 T TM R1 hk
    go_enter Tryz.func15, Tryz.ntmps15
    go_wp2_with (first
      | (go_at_call 34; with_reducible refine KI.out.mono ?_; rintro e w1 ⟨rfl, hb1⟩; have HO1 := Lib.hid (pm_below HO.out hb1); obtain ⟨c0, c4, c5, fz⟩ := CB.out _ hb1)
      | (at_lookup; refine wpList_lookup_own_int w1 rfl _ _ 41 rfl 9 3 .i64 lawS Tryz.underlying41 Tryz.underlying3 (zeroI _) m n D rfl HO1.out _ (kl 4) rfl HK.out ?_; intro c hat hwc; obtain rfl := HQ.out c hat; clear hat hwc))
    go_ret
    exact R2.out _ hb1
set_option maxHeartbeats 2000000 in
theorem take5 (b m n a : Nat) (s : S) (x : ByteArray) (w0 W : World) (T : day.Tabs w0) (TM : lines.ML w0) (hw0 : Below w0.heap.size w0 W) (hb0 : w0.heap.size ≤ b) (hm0 : w0.heap.size ≤ m) (hbm : b ≠ m) (h : RS b m s W) (hp : MP m n s W) (hn : n ≤ 1000000000) (ha : a ≤ 9000000000) (hlen : s.lv.length ≤ 1000000) (hct : 0 ≤ s.ct ∧ s.ct ≤ 9223372036854775807) (hk : kd (L x) = 5) (hx : x.size < 4294967281) :
    Calls Tryz.prog 15 #[.pointer (some ⟨b, 0, none⟩), .string x, .int .i64 (a : Nat)] W (TL b m n a (L x) s W) := by
  obtain ⟨D, q, ho, hq, hs⟩ := hp
  have KI : Hid (Calls Tryz.prog 34 #[.string x] W fun e w' => e = .returned (.string ⟨#[100, 97, 116, 97]⟩) ∧ Below W.heap.size W w') := kind_lit hk hx W
  have HK : Hid (keyOf Tryz.prog 9 (.string ⟨#[100, 97, 116, 97]⟩) = some (kl 5)) := key_is 5
  have HQ := Lib.hid (q_is hq (show 5 ≤ 5 by decide))
  have HO := Lib.hid ho
  have CB := Lib.hid (fun W' (hb : Below W.heap.size W W') => rs_cells (rs_below h hb))
  have hn1 : n < maxLen := by unfold maxLen; omega
  have hml : m < W.heap.size := World.ownsMap.lt ho
  have hE := stE_data (s := s) hk
  obtain ⟨p1, p2, p3, p4, p5⟩ := stS_data (s := s) (a := a) hk
  have hqp : q 5 = s.p 5 := hs 5 (by unfold Mark; decide)
  have TK : Hid (∀ w2, But b m W w2 → RS b m s w2 → m < w2.heap.size → Calls Tryz.prog 42 #[.pointer (some ⟨b, 0, none⟩), .string x, .bool (decide (s.p 5 = 0))] w2 (Took b m w2 (dE (L x) s) (dS (L x) s))) := fun w2 hb2 hr2 hm2 =>
    takeData_at b m s x w0 w2 T TM (hb2.to_below hw0 hb0 hm0 hw0.size) hb0 hr2 hm2 hlen hct hk hx
  unfold Took at TK
  by_cases hq0 : q 5 = 0
  · have t0 : (((q 5 : Nat) : Int) == 0) = true := by rw [hq0]; rfl
    rw [decide_eq_true (hqp.symm.trans hq0)] at TK
    have R1 : Hid (∀ w1 w2 w3, Below W.heap.size W w1 → Pm m (n + 1) (D.put (kl 5) (num (a : Nat))) w2 → w1.grownBy w2 (some m) → sha.Keep b w2 w3 → (dE (L x) s = 0 → RS b m (dS (L x) s) w3) → TL b m n a (L x) s W (.returned (.int .i64 (dE (L x) s))) w3) := fun w1 w2 w3 hb1 ho2 hg2 hk3 hr3 => by
      refine ⟨by rw [hE], ((But.of_below hb1).trans (But.of_grown hg2)).trans (But.of_keep hk3), fun h0 => ⟨rs_same (hr3 (hE.symm.trans h0)) p2 p3 p4 p5, mp_put (pm_map ho) (by decide) (pm_keep ho2 hk3 (fun e => hbm e.symm)) hq (fun i hi => ?_)⟩⟩
      rw [p1]
      unfold put
      by_cases e : i = 5
      · rw [if_pos e, if_pos ⟨e, by rw [← hqp]; exact hq0⟩]
      · rw [if_neg e, if_neg (fun g => e g.1), hs i hi]
    have TK1 := Lib.hid (fun w1 w2 (hb1 : Below W.heap.size W w1) (hg2 : w1.grownBy w2 (some m)) => TK.out w2 ((But.of_below hb1).trans (But.of_grown hg2)) (rs_grown (rs_below h hb1) hg2 hbm) (Nat.lt_of_lt_of_le hml (Nat.le_trans hb1.size hg2.size)))
    clear TK h ho hq hs hE p1 p2 p3 p4 p5 hq0 T TM hk hqp
    generalize hdE : dE (L x) s = E at *
    clear hdE
    go_enter Tryz.func15, Tryz.ntmps15
    go_wp2_with (first
      | (go_at_call 34; with_reducible refine KI.out.mono ?_; rintro e w1 ⟨rfl, hb1⟩; have HO1 := Lib.hid (pm_below HO.out hb1); obtain ⟨c0, c4, c5, fz⟩ := CB.out _ hb1)
      | (at_lookup; refine wpList_lookup_own_int w1 rfl _ _ 41 rfl 9 3 .i64 lawS Tryz.underlying41 Tryz.underlying3 (zeroI _) m n D rfl HO1.out _ (kl 5) rfl HK.out ?_; intro c hat hwc; obtain rfl := HQ.out c hat; clear hat hwc)
      | (at_mapUpdate; refine wpList_mapUpdate_own w1 rfl _ _ _ 41 rfl 9 3 lawS Tryz.underlying41 (plainElem Tryz.prog 3) m n D rfl HO1.out hn1 _ _ (kl 5) rfl rfl HK.out _ [] (plainElem_int Tryz.underlying3 (wf_nat ha)) ?_; intro w2 ho2 hg2; have TK2 := Lib.hid (TK1.out _ _ hb1 hg2); have HO2 := Lib.hid ho2; have HG2 := Lib.hid hg2; clear ho2 hg2)
      | (go_at_call 42; with_reducible refine TK2.out.mono ?_; rintro e w3 ⟨rfl, hk3, hr3⟩))
    go_ret
    exact R1.out _ _ _ hb1 HO2.out HG2.out hk3 hr3
  · have t0 : (((q 5 : Nat) : Int) == 0) = false := by simp; omega
    rw [decide_eq_false (fun g => hq0 (hqp.trans g))] at TK
    have R1 : Hid (∀ w1 w3, Below W.heap.size W w1 → sha.Keep b w1 w3 → (dE (L x) s = 0 → RS b m (dS (L x) s) w3) → TL b m n a (L x) s W (.returned (.int .i64 (dE (L x) s))) w3) := fun w1 w3 hb1 hk3 hr3 => by
      refine ⟨by rw [hE], (But.of_below hb1).trans (But.of_keep hk3), fun h0 => ⟨rs_same (hr3 (hE.symm.trans h0)) p2 p3 p4 p5, mp_of (pm_keep (pm_below ho hb1) hk3 (fun e => hbm e.symm)) (by omega) hq (fun i hi => ?_)⟩⟩
      rw [p1]
      unfold put
      rw [if_neg (fun g => hq0 (hqp.trans g.2)), hs i hi]
    have TK1 := Lib.hid (fun w1 (hb1 : Below W.heap.size W w1) => TK.out w1 (But.of_below hb1) (rs_below h hb1) (Nat.lt_of_lt_of_le hml hb1.size))
    clear TK h ho hq hs hE p1 p2 p3 p4 p5 hq0 T TM hk hqp
    generalize hdE : dE (L x) s = E at *
    clear hdE
    go_enter Tryz.func15, Tryz.ntmps15
    go_wp2_with (first
      | (go_at_call 34; with_reducible refine KI.out.mono ?_; rintro e w1 ⟨rfl, hb1⟩; have HO1 := Lib.hid (pm_below HO.out hb1); obtain ⟨c0, c4, c5, fz⟩ := CB.out _ hb1)
      | (at_lookup; refine wpList_lookup_own_int w1 rfl _ _ 41 rfl 9 3 .i64 lawS Tryz.underlying41 Tryz.underlying3 (zeroI _) m n D rfl HO1.out _ (kl 5) rfl HK.out ?_; intro c hat hwc; obtain rfl := HQ.out c hat; clear hat hwc)
      | (go_at_call 42; with_reducible refine (TK1.out _ hb1).mono ?_; rintro e w3 ⟨rfl, hk3, hr3⟩))
    go_ret
    exact R1.out _ _ hb1 hk3 hr3

theorem take_at (b m n a : Nat) (s : S) (x : ByteArray) (w0 W : World) (T : day.Tabs w0) (TM : lines.ML w0) (hw0 : Below w0.heap.size w0 W) (hb0 : w0.heap.size ≤ b) (hm0 : w0.heap.size ≤ m) (hbm : b ≠ m) (h : RS b m s W) (hp : MP m n s W) (hn : n ≤ 1000000000) (ha : a ≤ 9000000000) (hlen : s.lv.length ≤ 1000000) (hct : 0 ≤ s.ct ∧ s.ct ≤ 9223372036854775807) (hx : x.size < 4294967281) :
    Calls Tryz.prog 15 #[.pointer (some ⟨b, 0, none⟩), .string x, .int .i64 (a : Nat)] W (TL b m n a (L x) s W) := by
  have hk := kd_le (L x)
  rcases (show kd (L x) = 0 ∨ kd (L x) = 1 ∨ kd (L x) = 2 ∨ kd (L x) = 3 ∨ kd (L x) = 4 ∨ kd (L x) = 5 by omega) with k | k | k | k | k | k
  · exact take0 b m n a s x w0 W T TM hw0 hb0 hm0 hbm h hp hn ha hlen hct k hx
  · exact take1 b m n a s x w0 W T TM hw0 hb0 hm0 hbm h hp hn ha hlen hct k hx
  · exact take2 b m n a s x w0 W T TM hw0 hb0 hm0 hbm h hp hn ha hlen hct k hx
  · exact take3 b m n a s x w0 W T TM hw0 hb0 hm0 hbm h hp hn ha hlen hct k hx
  · exact take4 b m n a s x w0 W T TM hw0 hb0 hm0 hbm h hp hn ha hlen hct k hx
  · exact take5 b m n a s x w0 W T TM hw0 hb0 hm0 hbm h hp hn ha hlen hct k hx
end Go.Proofs.YtldieebiicblbaaGreatDoor.list
