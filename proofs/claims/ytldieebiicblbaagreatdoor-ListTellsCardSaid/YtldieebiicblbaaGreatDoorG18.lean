/-
  What takeData of a list's reading answers, and leaves. Conditions: as takeLeap's; the library's variable MaxLen holds some number; the line is data, of fewer than 2^32 - 15 bytes.
-/
import Derived.Test.YtldieebiicblbaaGreatDoorG17
namespace Go.Proofs.YtldieebiicblbaaGreatDoor.list
open Go.ChangeShapes Go.WideShapes Go.ChangeAt Go.RowKit
open lx ls mem
open lm (Lp ce)
set_option linter.unusedVariables false
set_option maxRecDepth 100000

/-! numbers of texts have 64 bits -/
theorem nmb_bd : ∀ (l : List UInt8) (n v : Int), 0 ≤ n → n ≤ 9223372036854775807 → nmb n l = some v → 0 ≤ v ∧ v ≤ 9223372036854775807
  | [], n, v, h0, h1, h => by
    rw [nmb_nil] at h
    cases h
    exact ⟨h0, h1⟩
  | c :: r, n, v, h0, h1, h => by
    by_cases k : dgB c = true ∧ 10 * n + ((c.toNat : Int) - 48) ≤ 9223372036854775807
    · rw [nmb_yes k.1 k.2] at h
      have := k.1
      unfold dgB at this
      rw [decide_eq_true_eq] at this
      exact nmb_bd r _ v (by omega) k.2 h
    · rw [nmb_no k] at h
      cases h
theorem nmI_bd (l : List UInt8) : 0 ≤ nmI l ∧ nmI l ≤ 9223372036854775807 := by
  unfold nmI nm
  split
  · decide
  · cases h : nmb 0 l with
    | none => decide
    | some v => exact nmb_bd l 0 v (by decide) (by decide) h
theorem g1_bd (l : List UInt8) : 0 ≤ g1 l ∧ g1 l ≤ 9223372036854775807 := nmI_bd _
theorem g2_bd (l : List UInt8) : 0 ≤ g2 l ∧ g2 l ≤ 9223372036854775807 := nmI_bd _

/-! what read answers, by its numbers -/
theorem nums_get (l : List (List UInt8)) (j : Nat) (hj : j < l.length) (h : j < (nums (l.map B)).length) : (nums (l.map B))[j]'h = nmI (l.getD j []) := by
  have : (nums (l.map B))[j]? = some (nmI (l.getD j [])) := by
    unfold nums
    rw [List.getElem?_map, List.getElem?_map, List.getElem?_eq_getElem hj, List.getD_eq_getElem?_getD, List.getElem?_eq_getElem hj]
    simp [L_B]
  rw [List.getElem?_eq_getElem h] at this
  exact Option.some.inj this
theorem read_yes {k : Nat} {l : List UInt8} {w w' : World} {e : Ending} (h : RTold k l w e w') (hK : Kind k) (hr : rk k l = true) : ∃ A c mm g o, e = .returned (.tuple #[.slice A (cn k) c, .slice (some ⟨g, o, none⟩) (cn k) mm, .bool true]) ∧ g < w'.heap.size ∧
    (∀ j, j < cn k → w'.cell? ⟨g, o + j, none⟩ = some (.int .i64 (nmI ((ws k l).getD j [])))) ∧ Below w.heap.size w w' := by
  obtain ⟨hb, h⟩ := h
  rcases h with ⟨_, _, A, c, M, m, rfl, hS, hI, hf⟩ | ⟨hn, _⟩
  · have hl : (wsB k l).length = cn k := by
      unfold rk at hr
      rw [Bool.and_eq_true, decide_eq_true_eq] at hr
      unfold wsB
      rw [List.length_map, hr.1]
    rw [hl]
    have hc : 0 < cn k := by rcases hK.cn with h | h <;> omega
    obtain ⟨g, o, rfl, hlt, hcell⟩ := hI (by intro e; have := congrArg List.length e; rw [nums_len, hl] at this; simp at this; omega)
    refine ⟨A, c, m, g, o, rfl, hlt, fun j hj => ?_, hb⟩
    have hj2 : j < (nums (wsB k l)).length := by rw [nums_len, hl]; exact hj
    rw [hcell j hj2]
    have hj3 : j < (ws k l).length := by unfold wsB at hl; rw [List.length_map] at hl; omega
    exact congrArg (fun z => some (Value.int .i64 z)) (nums_get (ws k l) j hj3 hj2)
  · exact absurd ⟨hK, hr⟩ hn
theorem read_no {k : Nat} {l : List UInt8} {w w' : World} {e : Ending} (h : RTold k l w e w') (hr : rk k l = false) : e = .returned (.tuple #[.slice none 0 0, .slice none 0 0, .bool false]) ∧ Below w.heap.size w w' := by
  obtain ⟨hb, h⟩ := h
  rcases h with ⟨_, h, _⟩ | ⟨hn, he⟩
  · rw [hr] at h; cases h
  · exact ⟨he, hb⟩

/-! a number stored in the box -/
theorem setCell_heap {w : World} {g j : Nat} {c : Array Value} {t : TypeId} {v : Value} (h : w.heap[g]? = some (.cells c t (0, 0))) : (w.setCell ⟨g, j, none⟩ v).heap[g]? = some (.cells (c.setIfInBounds j v) t (0, 0)) := by
  simp [World.setCell, Array.getElem?_modify, h]
theorem rs_keep {b m : Nat} {s s' : S} {W W' : World} {c' : Array Value} (h : RS b m s W) (hk : sha.Keep b W W') (hl : s'.lv = s.lv) (hg : ∀ A c, W.heap[b]? = some (.cells (rc m A s.lv.length c s) 45 (0, 0)) → W'.heap[b]? = some (.cells (rc m A s'.lv.length c s') 45 (0, 0))) : RS b m s' W' := by
  obtain ⟨A, c, h1, h2, h3, h4⟩ := h
  refine ⟨A, c, hg A c h1, ?_, by rw [hl]; exact h3, h4⟩
  rw [hl]
  exact lps_but h2 (But.of_keep (m := m) hk) fun g o e => (h4 g o e).1
theorem rs_cells {b m : Nat} {s : S} {W : World} (h : RS b m s W) : W.cell? ⟨b, 0, none⟩ = some (.map (some m)) ∧ W.cell? ⟨b, 4, none⟩ = some (.int .i64 s.ct) ∧ W.cell? ⟨b, 5, none⟩ = some (.int .i64 s.ex) ∧ ∀ j, W.frozen? ⟨b, j, none⟩ = false := by
  obtain ⟨A, c, h1, _⟩ := h
  obtain ⟨c0, c1, c2, c3, c4, c5, fz⟩ := rc_cells h1
  exact ⟨c0, c4, c5, fz⟩
theorem rs_ct {b m : Nat} {s : S} {W : World} (v : Int) (h : RS b m s W) : RS b m { s with ct := v } (W.setCell ⟨b, 4, none⟩ (.int .i64 v)) :=
  rs_keep (c' := #[]) h ((sha.Keep.refl b W).setCell 4 _) rfl fun A c hg => setCell_heap hg
theorem rs_ex {b m : Nat} {s : S} {W : World} (v : Int) (h : RS b m s W) : RS b m { s with ex := v } (W.setCell ⟨b, 5, none⟩ (.int .i64 v)) :=
  rs_keep (c' := #[]) h ((sha.Keep.refl b W).setCell 5 _) rfl fun A c hg => setCell_heap hg
/-- the reading behind a line of data. -/
def dS (l : List UInt8) (s : S) : S := { s with lv := if s.p 5 ≠ 0 then s.lv ++ [lp (g1 l) (g2 l - s.ct)] else s.lv, ct := g2 l }
set_option maxHeartbeats 2000000 in
theorem takeData_at (b m : Nat) (s : S) (x : ByteArray) (w0 W : World) (T : day.Tabs w0) (TM0 : lines.ML w0) (hw0 : Below w0.heap.size w0 W) (hb0 : w0.heap.size ≤ b) (h : RS b m s W) (hm : m < W.heap.size) (hlen : s.lv.length ≤ 1000000) (hct : 0 ≤ s.ct ∧ s.ct ≤ 9223372036854775807) (hk : kd (L x) = 5) (hx : x.size < 4294967281) :
    Calls Tryz.prog 42 #[.pointer (some ⟨b, 0, none⟩), .string x, .bool (decide (s.p 5 = 0))] W (Took b m W (dE (L x) s) (dS (L x) s)) := by
  have TM := TM0.below hw0
  have RD := read_at 5 x W TM (by decide) (fun h => by omega) hx
  rw [show kS 5 = ⟨#[100, 97, 116, 97]⟩ from rfl] at RD
  have hok : ok (L x) = rk 5 (L x) := by unfold ok; rw [hk]; rfl
  cases hr : rk 5 (L x) with
  | false =>
    have R : Hid (∀ W', Below W.heap.size W W' → Took b m W (dE (L x) s) (dS (L x) s) (.returned (.int .i64 2)) W') := fun W' hb => by
      have e : dE (L x) s = 2 := by unfold dE; rw [hok, hr, if_pos rfl]
      rw [e]
      exact ⟨rfl, (sha.Keep.refl b W).below hb, fun h => absurd h (by decide)⟩
    have RN : Hid (Calls Tryz.prog 35 #[.string ⟨#[100, 97, 116, 97]⟩, .string x] W fun e w' => e = .returned (.tuple #[.slice none 0 0, .slice none 0 0, .bool false]) ∧ Below W.heap.size W w') := RD.mono fun e w' h => read_no h hr
    clear RD h hok hr hk TM T
    go_enter Tryz.func42, Tryz.ntmps42
    go_wp2_with (go_at_call 35; with_reducible refine RN.out.mono ?_; rintro e w1 ⟨rfl, hb1⟩)
    go_ret
    exact R.out _ hb1
  | true =>
    have RY : Hid (Calls Tryz.prog 35 #[.string ⟨#[100, 97, 116, 97]⟩, .string x] W fun e w' => ∃ A c mm g o, e = .returned (.tuple #[.slice A 2 c, .slice (some ⟨g, o, none⟩) 2 mm, .bool true]) ∧ g < w'.heap.size ∧ w'.cell? ⟨g, o, none⟩ = some (.int .i64 (g1 (L x))) ∧ w'.cell? ⟨g, o + 1, none⟩ = some (.int .i64 (g2 (L x))) ∧ Below W.heap.size W w') := by
      refine RD.mono fun e w' h => ?_
      obtain ⟨A, c, mm, g, o, h1, h2, h3, h4⟩ := read_yes h (.inr (.inr rfl)) hr
      refine ⟨A, c, mm, g, o, h1, h2, ?_, ?_, h4⟩
      · have := h3 0 (by decide)
        unfold g1
        rw [hk]
        exact this
      · have := h3 1 (by decide)
        unfold g2
        rw [hk]
        exact this
    have ED : Hid (dE (L x) s = if s.p 5 ≠ 0 then lE (g1 (L x)) (g2 (L x) - s.ct) s.lv else if g1 (L x) ≠ 2272060800 ∨ g2 (L x) ≠ 10 then 9 else 0) := by
      show _ = _
      unfold dE
      rw [hok, hr, if_neg (by decide)]
    have b1 := g1_bd (L x)
    have b2 := g2_bd (L x)
    have DS : Hid (dS (L x) s = { s with lv := if s.p 5 ≠ 0 then s.lv ++ [lp (g1 (L x)) (g2 (L x) - s.ct)] else s.lv, ct := g2 (L x) }) := rfl
    clear RD hok hr hk TM
    generalize dE (L x) s = E at *
    generalize dS (L x) s = s' at *
    generalize g1 (L x) = G1 at *
    generalize g2 (L x) = G2 at *
    have CB := Lib.hid (fun W' (hb : Below W.heap.size W W') => rs_cells (rs_below h hb))
    have RB := Lib.hid (fun W' (hb : Below W.heap.size W W') => rs_ct G2 (rs_below h hb))
    have KB := Lib.hid (fun W' (hb : Below W.heap.size W W') => ((sha.Keep.refl b W).below hb).setCell 4 (.int .i64 G2))
    by_cases hp : s.p 5 = 0
    · rw [if_neg (fun k => k hp)] at ED DS
      rw [decide_eq_true hp]
      have R : Hid (∀ W' E', Below W.heap.size W W' → E = E' → Took b m W E s' (.returned (.int .i64 E')) (W'.setCell ⟨b, 4, none⟩ (.int .i64 G2))) := fun W' E' hb e => ⟨by rw [e], KB.out W' hb, fun _ => by rw [DS.out]; exact RB.out W' hb⟩
      clear h hp T
      by_cases h1 : G1 = 2272060800
      · by_cases h2 : G2 = 10
        · rw [if_neg (by omega)] at ED
          have u1 : (G1 != 2272060800) = false := by simpa using h1
          have u2 : (G2 != 10) = false := by simpa using h2
          clear h1 h2
          go_enter Tryz.func42, Tryz.ntmps42
          go_wp2_with (go_at_call 35; with_reducible refine RY.out.mono ?_; rintro e w1 ⟨A, c, mm, g, o, rfl, hgl, cg0, cg1, hb1⟩; obtain ⟨c0, c4, c5, fz⟩ := CB.out _ hb1)
          go_quiet (fail)
          go_wp2
          go_ret
          exact R.out _ _ (bel_drewN hb1 _) ED.out
        · rw [if_pos (by omega)] at ED
          have u1 : (G1 != 2272060800) = false := by simpa using h1
          have u2 : (G2 != 10) = true := by simpa using h2
          clear h1 h2
          go_enter Tryz.func42, Tryz.ntmps42
          go_wp2_with (go_at_call 35; with_reducible refine RY.out.mono ?_; rintro e w1 ⟨A, c, mm, g, o, rfl, hgl, cg0, cg1, hb1⟩; obtain ⟨c0, c4, c5, fz⟩ := CB.out _ hb1)
          go_quiet (fail)
          go_wp2
          go_ret
          exact R.out _ _ (bel_drewN hb1 _) ED.out
      · rw [if_pos (by omega)] at ED
        have u1 : (G1 != 2272060800) = true := by simpa using h1
        clear h1
        go_enter Tryz.func42, Tryz.ntmps42
        go_wp2_with (go_at_call 35; with_reducible refine RY.out.mono ?_; rintro e w1 ⟨A, c, mm, g, o, rfl, hgl, cg0, cg1, hb1⟩; obtain ⟨c0, c4, c5, fz⟩ := CB.out _ hb1)
        go_quiet (fail)
        go_wp2
        go_ret
        exact R.out _ _ (bel_drewN hb1 _) ED.out
    · rw [if_pos hp] at ED DS
      rw [decide_eq_false hp]
      have TL : Hid (∀ W', Below W.heap.size W W' → Calls Tryz.prog 70 #[.pointer (some ⟨b, 0, none⟩), .int .i64 G1, .int .i64 (G2 - s.ct)] (W'.setCell ⟨b, 4, none⟩ (.int .i64 G2)) (Took b m W E s')) := fun W' hb => by
        refine (takeLeap_at b m { s with ct := G2 } G1 (G2 - s.ct) _ (T.below ((KB.out W' hb).to_below hw0 hb0 hw0.size)) (RB.out W' hb) (by have := hb.size; simp; omega) hlen b1.1 b1.2).mono ?_
        rintro e w' ⟨he, hk, hs⟩
        rw [ED.out, DS.out]
        exact ⟨he, (KB.out W' hb).trans hk, hs⟩
      unfold Took at TL
      clear h hp T
      go_enter Tryz.func42, Tryz.ntmps42
      go_wp2_with (go_at_call 35; with_reducible refine RY.out.mono ?_; rintro e w1 ⟨A, c, mm, g, o, rfl, hgl, cg0, cg1, hb1⟩; obtain ⟨c0, c4, c5, fz⟩ := CB.out _ hb1)
      go_quiet (fail)
      go_wp2_with (go_at_call 70; with_reducible refine (TL.out _ (bel_drewN hb1 _)).mono ?_; rintro e w2 ⟨rfl, hk2, hs2⟩)
      go_ret
      exact ⟨rfl, hk2, hs2⟩
end Go.Proofs.YtldieebiicblbaaGreatDoor.list

/-
  What takeMark of a list's reading answers, and leaves. Conditions: the library's variable MaxLen holds some number; the line is a stamp, an expiry or a hash, of fewer than 2^32 - 15 bytes; the box holds how far the list is read.
-/
namespace Go.Proofs.YtldieebiicblbaaGreatDoor.list
open Go.ChangeShapes Go.WideShapes Go.ChangeAt Go.RowKit
open lx ls mem
open sx (cs)
open nx (hT hN)
open lm (Lp ce)
set_option linter.unusedVariables false
set_option maxRecDepth 100000

theorem sz5 : (Tryz.prog.info? 43).map (·.size) = some 5 := by kernel_rfl
theorem five_one (f : Nat → Nat) : ∀ v ∈ (#[.int .u32 (f 0 : Nat), .int .u32 (f 1 : Nat), .int .u32 (f 2 : Nat), .int .u32 (f 3 : Nat), .int .u32 (f 4 : Nat)] : Array Value).toList, v.oneCell' = true := by
  intro v hv
  simp only [List.mem_cons, List.not_mem_nil, or_false] at hv
  rcases hv with rfl | rfl | rfl | rfl | rfl <;> rfl
/-- the reading behind a stamp, an expiry or a hash. -/
def mS (l : List UInt8) (s : S) : S := { s with ex := if kd l = 2 then g1 l - 2208988800 else s.ex, h := if kd l = 3 then hN (B (l.drop 2)) else s.h }
def Marked (b m : Nat) (W : World) (r : Bool) (s' : S) (e : Ending) (w' : World) : Prop := e = .returned (.bool r) ∧ sha.Keep b W w' ∧ (r = true → RS b m s' w')
theorem rs_h {b m : Nat} {s : S} {W : World} (f : Nat → Nat) {A : Option Addr} {c : Nat} (h : RS b m s W) (W' : World) (hb : Below W.heap.size W W') (hA : W.heap[b]? = some (.cells (rc m A s.lv.length c s) 45 (0, 0))) (hb' : W'.heap[b]? = some (.cells (rc m A s.lv.length c s) 45 (0, 0))) :
    RS b m { s with h := f } (W'.setRow b (rc m A s.lv.length c { s with h := f })) := by
  refine rs_keep (c' := #[]) h (((sha.Keep.refl b W).below hb).setRow _) rfl fun A' c' hg => ?_
  rw [hA] at hg
  have e : rc m A s.lv.length c s = rc m A' s.lv.length c' s := by
    injection hg with hg
    injection hg
  have e1 : A = A' ∧ c = c' := by
    have := congrArg (fun a : Array Value => a[1]?) e
    simp [rc] at this
    exact this
  obtain ⟨rfl, rfl⟩ := e1
  exact setRow_heap _ _ _ _ _ _ hb'
theorem rc_fit6 (m : Nat) (A : Option Addr) (n c : Nat) (s : S) : 6 + 5 ≤ (rc m A n c s).size := by show 11 ≤ 11; decide
theorem ok_mark {l : List UInt8} {k : Nat} (hk : kd l = k) (h : k = 1 ∨ k = 2) : ok l = rk k l := by
  unfold ok
  rw [hk, if_neg (by omega), if_neg (by omega)]
theorem drop_two (s : ByteArray) (h : 2 ≤ s.size) : s.extract 2 s.size = B ((L s).drop 2) := by
  rw [ext_B, List.take_of_length_le (by rw [List.length_drop]; exact Nat.le_refl _)]
theorem kd_three {s : ByteArray} (h : kd (L s) = 3) : 2 ≤ s.size := by
  unfold kd at h
  rw [← L_len]
  split at h
  · omega
  split at h
  · omega
  split at h
  · omega
  split at h
  · rename_i e
    have := congrArg List.length e
    rw [List.length_take] at this
    simp at this
    omega
  split at h <;> omega
set_option maxHeartbeats 2000000 in
theorem takeMark_at (b m : Nat) (s : S) (k : Nat) (x : ByteArray) (W : World) (TM : lines.ML W) (h : RS b m s W) (hk : kd (L x) = k) (hk3 : k = 1 ∨ k = 2 ∨ k = 3) (hx : x.size < 4294967281) :
    Calls Tryz.prog 41 #[.pointer (some ⟨b, 0, none⟩), .string (kS k), .string x] W (Marked b m W (ok (L x)) (mS (L x) s)) := by
  have hbl := rs_lt h
  rcases hk3 with rfl | rfl | rfl
  · have RD := read_at 1 x W TM (by decide) (fun _ => kd_two (.inl hk)) hx
    have hok := ok_mark hk (.inl rfl)
    have ms : mS (L x) s = s := by unfold mS; rw [hk]; rfl
    rw [hok, ms]
    rw [show kS 1 = ⟨#[35, 36]⟩ from rfl] at RD ⊢
    have R : Hid (∀ W' r, Below W.heap.size W W' → Marked b m W r s (.returned (.bool r)) W') := fun W' r hb => ⟨rfl, (sha.Keep.refl b W).below hb, fun _ => rs_below h hb⟩
    cases hr : rk 1 (L x) with
    | false =>
      have RN : Hid (Calls Tryz.prog 35 #[.string ⟨#[35, 36]⟩, .string x] W fun e w' => e = .returned (.tuple #[.slice none 0 0, .slice none 0 0, .bool false]) ∧ Below W.heap.size W w') := RD.mono fun e w' h => read_no h hr
      clear RD h hok hr hk TM ms
      go_enter Tryz.func41, Tryz.ntmps41
      go_wp2_with (go_at_call 35; with_reducible refine RN.out.mono ?_; rintro e w1 ⟨rfl, hb1⟩)
      go_ret
      exact R.out _ _ hb1
    | true =>
      have RY : Hid (Calls Tryz.prog 35 #[.string ⟨#[35, 36]⟩, .string x] W fun e w' => ∃ A c mm g o, e = .returned (.tuple #[.slice A 1 c, .slice (some ⟨g, o, none⟩) 1 mm, .bool true]) ∧ Below W.heap.size W w') := by
        refine RD.mono fun e w' h => ?_
        obtain ⟨A, c, mm, g, o, h1, h2, h3, h4⟩ := read_yes h (.inl rfl) hr
        exact ⟨A, c, mm, g, o, h1, h4⟩
      clear RD h hok hr hk TM ms
      go_enter Tryz.func41, Tryz.ntmps41
      go_wp2_with (go_at_call 35; with_reducible refine RY.out.mono ?_; rintro e w1 ⟨A, c, mm, g, o, rfl, hb1⟩)
      go_ret
      exact R.out _ _ hb1
  · have RD := read_at 2 x W TM (by decide) (fun _ => kd_two (.inr hk)) hx
    have hok := ok_mark hk (.inr rfl)
    have ms : mS (L x) s = { s with ex := g1 (L x) - 2208988800 } := by unfold mS; rw [hk]; rfl
    rw [hok, ms]
    rw [show kS 2 = ⟨#[35, 64]⟩ from rfl] at RD ⊢
    cases hr : rk 2 (L x) with
    | false =>
      have R : Hid (∀ W', Below W.heap.size W W' → Marked b m W false { s with ex := g1 (L x) - 2208988800 } (.returned (.bool false)) W') := fun W' hb => ⟨rfl, (sha.Keep.refl b W).below hb, fun h => by cases h⟩
      have RN : Hid (Calls Tryz.prog 35 #[.string ⟨#[35, 64]⟩, .string x] W fun e w' => e = .returned (.tuple #[.slice none 0 0, .slice none 0 0, .bool false]) ∧ Below W.heap.size W w') := RD.mono fun e w' h => read_no h hr
      clear RD h hok hr hk TM ms
      go_enter Tryz.func41, Tryz.ntmps41
      go_wp2_with (go_at_call 35; with_reducible refine RN.out.mono ?_; rintro e w1 ⟨rfl, hb1⟩)
      go_ret
      exact R.out _ hb1
    | true =>
      have RY : Hid (Calls Tryz.prog 35 #[.string ⟨#[35, 64]⟩, .string x] W fun e w' => ∃ A c mm g o, e = .returned (.tuple #[.slice A 1 c, .slice (some ⟨g, o, none⟩) 1 mm, .bool true]) ∧ w'.cell? ⟨g, o, none⟩ = some (.int .i64 (g1 (L x))) ∧ Below W.heap.size W w') := by
        refine RD.mono fun e w' h => ?_
        obtain ⟨A, c, mm, g, o, h1, h2, h3, h4⟩ := read_yes h (.inr (.inl rfl)) hr
        refine ⟨A, c, mm, g, o, h1, ?_, h4⟩
        have := h3 0 (by decide)
        unfold g1
        rw [hk]
        exact this
      have bd := g1_bd (L x)
      clear RD hok hr hk TM ms
      generalize g1 (L x) = G at *
      have PX := Lib.hid (fun W => ntp.posix_yes G W ⟨by omega, bd.2⟩ bd.1)
      have CB := Lib.hid (fun W' (hb : Below W.heap.size W W') => rs_cells (rs_below h hb))
      have R : Hid (∀ W', Below W.heap.size W W' → Marked b m W true { s with ex := G - 2208988800 } (.returned (.bool true)) (W'.setCell ⟨b, 5, none⟩ (.int .i64 (G - 2208988800)))) := fun W' hb => ⟨rfl, ((sha.Keep.refl b W).below hb).setCell 5 _, fun _ => rs_ex _ (rs_below h hb)⟩
      clear h
      go_enter Tryz.func41, Tryz.ntmps41
      go_wp2_with (first
        | (go_at_call 35; with_reducible refine RY.out.mono ?_; rintro e w1 ⟨A, c, mm, g, o, rfl, cg, hb1⟩; obtain ⟨c0, c4, c5, fz⟩ := CB.out _ hb1)
        | (go_at_call 69; with_reducible refine (PX.out _).mono ?_; rintro e w2 ⟨rfl, rfl⟩))
      go_ret
      exact R.out _ hb1
  · have h2 := kd_three hk
    have hok : ok (L x) = hT (B ((L x).drop 2)) := by unfold ok; rw [hk]; rfl
    have ms : mS (L x) s = { s with h := hN (B ((L x).drop 2)) } := by unfold mS; rw [hk]; rfl
    have hsz : (B ((L x).drop 2)).size < 4294967281 := by rw [B_size, List.length_drop, L_len]; omega
    have HA : Hid (Calls Tryz.prog 68 #[.string (B ((L x).drop 2))] W fun e w' => e = .returned (.tuple #[.agg #[.int .u32 (hN (B ((L x).drop 2)) 0 : Nat), .int .u32 (hN (B ((L x).drop 2)) 1 : Nat), .int .u32 (hN (B ((L x).drop 2)) 2 : Nat), .int .u32 (hN (B ((L x).drop 2)) 3 : Nat), .int .u32 (hN (B ((L x).drop 2)) 4 : Nat)], .bool (hT (B ((L x).drop 2)))]) ∧ Below W.heap.size W w') := ntp.hash_at _ W hsz
    have hsl : ∀ W, (Instr.slice 9 (.string x) (some (.int .i64 2)) none none).run Tryz.prog W = .ok (.string (B ((L x).drop 2))) W := fun W => by rw [lines.sl_from W x 2 2 rfl h2, drop_two x h2]
    rw [hok, ms, show kS 3 = ⟨#[35, 104]⟩ from rfl]
    clear hok ms hk TM hsz
    generalize hT (B ((L x).drop 2)) = r at *
    generalize hN (B ((L x).drop 2)) = f at *
    generalize B ((L x).drop 2) = Y at *
    obtain ⟨A, c, hg, hl, hc, hne⟩ := id h
    have R : Hid (∀ W', Below W.heap.size W W' → Marked b m W r { s with h := f } (.returned (.bool r)) (W'.setRow b (rc m A s.lv.length c { s with h := f }))) := fun W' hb => ⟨rfl, ((sha.Keep.refl b W).below hb).setRow _, fun _ => rs_h f h W' hb hg (kept hg hb)⟩
    have HG := Lib.hid hg
    obtain ⟨c0, c1, c2, c3, c4, c5, fz⟩ := rc_cells hg
    clear h hg hl hc hne
    go_enter Tryz.func41, Tryz.ntmps41
    go_wp2_with (first
      | (go_at_call 68; with_reducible refine HA.out.mono ?_; rintro e w1 ⟨rfl, hb1⟩; have HG1 := Lib.hid (fun o => hp_old (kept HG.out hb1) o); have HB1 := Lib.hid (fun o => bal hb1 o))
      | (refine store_in rfl 43 (.tmp 25) (.tmp 23) rfl b 6 45 (rc m A s.lv.length c s) _ (rc m A s.lv.length c { s with h := f }) rfl rfl (HG1.out _) sz5 (rc_fit6 _ _ _ _ _) (five_one _) rfl ?_))
    go_ret
    exact R.out _ (HB1.out _)
end Go.Proofs.YtldieebiicblbaaGreatDoor.list
