/-
  The document's own reader of a line, layer 10. Conditions: texts of at most 300000 bytes.
-/
import Derived.Test.YtldieebiicblbaaGreatDoorG13
import Derived.Test.YtldieebiicblbaaGreatDoorG26
import Derived.Test.YtldieebiicblbaaGreatDoorG27
import Derived.WalkMore
namespace Go.Proofs.YtldieebiicblbaaGreatDoor.ref10
open Go.ChangeShapes Go.WideShapes Go.ChangeAt Go.RowKit
open lx ls mem
set_option linter.unusedVariables false
set_option maxRecDepth 100000

theorem to_B (W : World) (l : List UInt8) (b : Nat) (z : Int) (hz : z = b) (h : b ≤ l.length) : (Instr.slice 9 (.string (B l)) none (some (.int .i64 z)) none).run Tryz.prog W = .ok (.string (B (l.take b))) W := by
  rw [list.to_run W (B l) b z hz (by rw [B_size]; exact h), ext_B, L_B]
  rfl
theorem from_B (W : World) (l : List UInt8) (b : Nat) (z : Int) (hz : z = b) (h : b ≤ l.length) : (Instr.slice 9 (.string (B l)) (some (.int .i64 z)) none none).run Tryz.prog W = .ok (.string (B (l.drop b))) W := by
  rw [lines.sl_from W (B l) b z hz (by rw [B_size]; exact h), ext_B, L_B, B_size, List.take_of_length_le (by simp)]
theorem beg_eq (l p : List UInt8) : decide (B (l.take p.length) = B p) = decide (l.take p.length = p) := by
  rw [Bool.eq_iff_iff, decide_eq_true_iff, decide_eq_true_iff]
  exact ⟨fun k => B_inj k, fun k => by rw [k]⟩
theorem begins_at (l p : List UInt8) (W : World) (hl : l.length < 4294967281) (hp : p.length < 4294967281) : Calls Tryz.prog 74 #[.string (B l), .string (B p)] W fun e w' => e = .returned (.bool (decide (l.take p.length = p))) ∧ W = w' := by
  have z1 := B_size l
  have z2 := B_size p
  by_cases h : p.length ≤ l.length
  · have sl := fun W => to_B W l p.length (((B p).size : Nat) : Int) (by rw [z2]) h
    have oc := beq_s (B (l.take p.length)) (B p)
    rw [beg_eq] at oc
    have d1 : decide ((B p).size ≤ (B l).size) = true := decide_eq_true (by omega)
    have d2 : decide (((B p).size : Int) ≤ ((B l).size : Int)) = true := decide_eq_true (by omega)
    generalize decide (l.take p.length = p) = b at *
    generalize B (l.take p.length) = X at *
    generalize B l = Y at *
    generalize B p = Z at *
    clear h z1 z2 hl hp
    cases b
    all_goals
      go_enter Tryz.func74, Tryz.ntmps74
      go_wp2
      go_ret
      exact ⟨rfl, rfl⟩
  · have e : decide (l.take p.length = p) = false := decide_eq_false fun k => by
      have := congrArg List.length k
      rw [List.length_take] at this
      omega
    rw [e]
    have d1 : decide ((B p).size ≤ (B l).size) = false := decide_eq_false (by omega)
    have d2 : decide (((B p).size : Int) ≤ ((B l).size : Int)) = false := decide_eq_false (by omega)
    clear e h
    generalize B l = Y at *
    generalize B p = Z at *
    clear z1 z2 hl hp
    go_enter Tryz.func74, Tryz.ntmps74
    go_wp2
    go_ret
    exact ⟨rfl, rfl⟩
theorem ahead_at (s : ByteArray) (w : World) (hs : s.size < 4294967281) : Calls Tryz.prog 76 #[.string s] w fun e w' => e = .returned (.string (B (ahd (L s)))) ∧ Below w.heap.size w w' := by
  have C : Hid (Calls Tryz.prog 100 #[.string s, .string ⟨#[35]⟩] w fun e w' => ∃ b f, e = .returned (.tuple #[.string (B (ahd (L s))), .string b, .bool f]) ∧ Below w.heap.size w w') := by
    show Calls Tryz.prog 100 #[.string s, .string ⟨#[35]⟩] w _
    rcases hit_or s ⟨#[35]⟩ with hm | ⟨i, hi⟩
    · refine (ref05.cut_miss w (Below.refl _ _) s ⟨#[35]⟩ hs (by decide) hm).mono ?_
      rintro e w' ⟨rfl, hb⟩
      rw [list.ahd_miss hm, B_L]
      exact ⟨_, _, rfl, hb⟩
    · refine (ref05.cut_hit w (Below.refl _ _) s ⟨#[35]⟩ i hs hi).mono ?_
      rintro e w' ⟨rfl, hb⟩
      rw [list.ahd_hit hi, B_L]
      exact ⟨_, _, rfl, hb⟩
  generalize B (ahd (L s)) = a at *
  go_enter Tryz.func76, Tryz.ntmps76
  go_wp2_with (go_at_call 100; with_reducible refine C.out.mono ?_; rintro e w1 ⟨b, f, rfl, hb1⟩)
  go_ret
  exact ⟨rfl, hb1⟩
/-- a line's row, by its cells; the words lie in memory that is older than no call's. -/
def rcell (l : List UInt8) (A : Option Addr) (c : Nat) : Array Value := #[.int .i64 (kd l : Nat), .bool (ok l), .slice A (wo l).length c, .int .i64 (o1 l), .int .i64 (o2 l)]
def RowTold (l : List UInt8) (w : World) (e : Ending) (w' : World) : Prop :=
  ∃ A c, e = .returned (.agg (rcell l A c)) ∧ lines.Strs w' A ((wo l).map B) ∧ (∀ b o, A = some ⟨b, o, none⟩ → w.heap.size ≤ b ∧ b < w'.heap.size) ∧ Below w.heap.size w w'
theorem szR : (Tryz.prog.info? 53).map (·.size) = some 5 := by kernel_rfl
theorem row_one (a d e : Int) (b : Bool) (A : Option Addr) (n c : Nat) : (#[.int .i64 a, .bool b, .slice A n c, .int .i64 d, .int .i64 e] : Array Value).all (·.oneCell') = true := by simp [Value.oneCell']
theorem strs_setRow {W : World} {A : Option Addr} {l : List ByteArray} (h : lines.Strs W A l) (g : Nat) (hne : ∀ b o, A = some ⟨b, o, none⟩ → b ≠ g) (C : Array Value) : lines.Strs (W.setRow g C) A l := by
  intro hl
  obtain ⟨b, o, e, hb, hc⟩ := h hl
  refine ⟨b, o, e, by simpa using hb, fun k hk => ?_⟩
  have := setRow_other W g b C (hne b o e)
  have cs : (W.setRow g C).cell? ⟨b, o + k, none⟩ = W.cell? ⟨b, o + k, none⟩ := by unfold World.cell?; rw [this]
  exact cs.trans (hc k hk)
def zrow : Array Value := #[.int .i64 0, .bool false, .slice none 0 0, .int .i64 0, .int .i64 0]
theorem row_none {l : List UInt8} {w W : World} {c : Array Value} (hw : wo l = []) (hc : c = #[.int .i64 (kd l : Nat), .bool (ok l), .slice none 0 0, .int .i64 (o1 l), .int .i64 (o2 l)]) (hb : Below w.heap.size w W) : RowTold l w (.returned (.agg c)) (W.setRow w.heap.size c) := by
  refine ⟨none, 0, ?_, (fun h => ?_), (fun _ _ h => by cases h), bel_setRow hb (Nat.le_refl _) _⟩
  · rw [hc]; unfold rcell; rw [hw]; rfl
  · rw [hw] at h; exact absurd rfl h
theorem row_words {l : List UInt8} {w W : World} {c : Array Value} {A : Option Addr} {n k : Nat} (hp : 0 < n) (hn : (wo l).length = n) (hc : c = #[.int .i64 (kd l : Nat), .bool (ok l), .slice A n k, .int .i64 (o1 l), .int .i64 (o2 l)]) (hS : lines.Strs W A ((wo l).map B)) (hf : ∀ b o, A = some ⟨b, o, none⟩ → w.heap.size + 1 ≤ b) (hb : Below w.heap.size w W) : RowTold l w (.returned (.agg c)) (W.setRow w.heap.size c) := by
  refine ⟨A, k, ?_, strs_setRow hS _ (fun b o e => by have := hf b o e; omega) _, fun b o e => ⟨by have := hf b o e; omega, ?_⟩, bel_setRow hb (Nat.le_refl _) _⟩
  · rw [hc]; unfold rcell; rw [hn]
  · obtain ⟨b', o', e', hlt, _⟩ := hS (fun k => by have := congrArg List.length k; rw [List.length_map, hn] at this; simp at this; omega)
    rw [e'] at e
    cases e
    simpa using hlt
set_option maxHeartbeats 8000000 in
theorem read_none (s : ByteArray) (w : World) (hs : s.size ≤ 300000) (hk : kd (L s) = 0) : Calls Tryz.prog 45 #[.string s] w (RowTold (L s) w) := by
  have WD : Hid (∀ W, Calls Tryz.prog 49 #[.string s] W (lines.Told W (wordsS s))) := fun W => ref05.words_at s W (by omega)
  unfold lines.Told at WD
  have hlen : (wordsS s).length = (wds [] (L s)).length := by rw [list.words_of, List.length_map]
  have hls : (L s).length < 4294967281 := by rw [L_len]; omega
  have e : wds [] (L s) = [] := kd_zero.1 hk
  rw [e] at hlen
  have hz : (wordsS s).length = 0 := hlen
  rw [hz] at WD
  have R : Hid (∀ W, Below w.heap.size w W → RowTold (L s) w (.returned (.agg #[.int .i64 0, .bool true, .slice none 0 0, .int .i64 0, .int .i64 0])) (W.setRow w.heap.size #[.int .i64 0, .bool true, .slice none 0 0, .int .i64 0, .int .i64 0])) := fun W hb =>
    row_none (wo_no (by omega) (by rw [hk]; rfl)) (by rw [hk, show ok (L s) = true by unfold ok; rw [if_pos (.inl hk)], show o1 (L s) = 0 by unfold o1 wk; rw [hk]; rfl, show o2 (L s) = 0 by unfold o2 wk; rw [hk]; rfl]; try rfl) hb
  clear hk e hlen hz hs
  go_enter Tryz.func45, Tryz.ntmps45
  go_wp2_with (first
    | (go_at_call 49; (with_reducible refine (WD.out _).mono ?_); rintro e w1 ⟨A, c, rfl, hS, ⟨hc, hfr⟩, hb1⟩; have hB := btr (bal (Below.refl w.heap.size w) _) hb1; have K0 := Lib.hid (kept (hp_new w _) hb1))
    | ((with_reducible refine wpList_store_row ?_ 53 (.tmp 2) (.tmp 18) ?_ w.heap.size #[.int .i64 0, .bool true, .slice none 0 0, .int .i64 0, .int .i64 0] ?_ ?_ 53 zrow ?_ ?_ ?_ ?_ ?_); (next => rfl); (next => rfl); (next => rfl); (next => rfl); (next => exact K0.out); (next => exact szR); (next => rfl); (next => exact row_one _ _ _ _ _ _ _)))
  exact end_row Tryz.results45 _ _ w.heap.size _ #[.int .i64 0, .bool true, .slice none 0 0, .int .i64 0, .int .i64 0] _ rfl (setRow_heap _ _ _ _ _ _ K0.out) Tryz.underlying53 szR rfl (R.out _ hB)
set_option maxHeartbeats 8000000 in
theorem read_remark (s : ByteArray) (w : World) (hs : s.size ≤ 300000) (hk : kd (L s) = 4) : Calls Tryz.prog 45 #[.string s] w (RowTold (L s) w) := by
  have WD : Hid (∀ W, Calls Tryz.prog 49 #[.string s] W (lines.Told W (wordsS s))) := fun W => ref05.words_at s W (by omega)
  unfold lines.Told at WD
  have hlen : (wordsS s).length = (wds [] (L s)).length := by rw [list.words_of, List.length_map]
  have hls : (L s).length < 4294967281 := by rw [L_len]; omega
  obtain ⟨b3, b1, b2, b4⟩ := kd_begins (l := L s) (by omega)
  have G3 : Hid (∀ W, Calls Tryz.prog 74 #[.string s, .string ⟨#[35, 104]⟩] W fun e w' => e = .returned (.bool false) ∧ W = w') := fun W => by
    have := begins_at (L s) [35, 104] W hls (by decide)
    rw [B_L, show ([35, 104] : List UInt8).length = 2 from rfl, b3, show decide (kd (L s) = 3) = false by rw [hk]; rfl] at this
    exact this
  have G1 : Hid (∀ W, Calls Tryz.prog 74 #[.string s, .string ⟨#[35, 36]⟩] W fun e w' => e = .returned (.bool false) ∧ W = w') := fun W => by
    have := begins_at (L s) [35, 36] W hls (by decide)
    rw [B_L, show ([35, 36] : List UInt8).length = 2 from rfl, b1, show decide (kd (L s) = 1) = false by rw [hk]; rfl] at this
    exact this
  have G2 : Hid (∀ W, Calls Tryz.prog 74 #[.string s, .string ⟨#[35, 64]⟩] W fun e w' => e = .returned (.bool false) ∧ W = w') := fun W => by
    have := begins_at (L s) [35, 64] W hls (by decide)
    rw [B_L, show ([35, 64] : List UInt8).length = 2 from rfl, b2, show decide (kd (L s) = 2) = false by rw [hk]; rfl] at this
    exact this
  have hne : 0 < (wordsS s).length := by
    have := kd_pos (l := L s) (by omega)
    rw [hlen]
    exact List.length_pos_iff.2 this
  have n0 : (((wordsS s).length : Int) == 0) = false := by rw [beq_eq_false_iff_ne]; omega
  have hw0 := kd_pos (l := L s) (by omega)
  have WS : Hid (∀ W A, lines.Strs W A (wordsS s) → ∃ b o, A = some ⟨b, o, none⟩ ∧ W.cell? ⟨b, o, none⟩ = some (.string (B ((wds [] (L s)).headD [])))) := fun W A h => by
    obtain ⟨b, o, e, _, hc⟩ := h (fun k => by rw [k] at hne; exact absurd hne (by decide))
    refine ⟨b, o, e, ?_⟩
    have := hc 0 hne
    rw [← B_L ((wordsS s)[0]), list.words_head hne] at this
    exact this
  have hd1 : ((wds [] (L s)).headD []).length < 4294967281 := by
    have := list.word_size (List.getElem_mem hne)
    rw [← L_len, list.words_head hne] at this
    omega
  have G4 : Hid (∀ W, Calls Tryz.prog 74 #[.string (B ((wds [] (L s)).headD [])), .string ⟨#[35]⟩] W fun e w' => e = .returned (.bool true) ∧ W = w') := fun W => by
    have := begins_at ((wds [] (L s)).headD []) [35] W hd1 (by decide)
    rw [show ([35] : List UInt8).length = 1 from rfl, b4 (by omega), show decide (kd (L s) = 4) = true by rw [hk]; rfl] at this
    exact this
  have R : Hid (∀ W, Below w.heap.size w W → RowTold (L s) w (.returned (.agg #[.int .i64 4, .bool true, .slice none 0 0, .int .i64 0, .int .i64 0])) (W.setRow w.heap.size #[.int .i64 4, .bool true, .slice none 0 0, .int .i64 0, .int .i64 0])) := fun W hb =>
    row_none (wo_no (by omega) (by rw [hk]; rfl)) (by rw [hk, show ok (L s) = true by unfold ok; rw [if_pos (.inr hk)], show o1 (L s) = 0 by unfold o1 wk; rw [hk]; rfl, show o2 (L s) = 0 by unfold o2 wk; rw [hk]; rfl]; try rfl) hb
  clear hk hw0 b1 b2 b3 b4 hd1 hls hs
  generalize B ((wds [] (L s)).headD []) = HD at *
  generalize (wordsS s).length = n at *
  clear hlen
  go_enter Tryz.func45, Tryz.ntmps45
  go_wp2_with (first
    | (go_at_call 49; (with_reducible refine (WD.out _).mono ?_); rintro e w1 ⟨A, c, rfl, hS, ⟨hc, hfr⟩, hb1⟩; have hB := btr (bal (Below.refl w.heap.size w) _) hb1; have K0 := Lib.hid (kept (hp_new w _) hb1); obtain ⟨b, oo, rfl, x0⟩ := WS.out _ _ hS)
    | (go_at_call 74; first | ((with_reducible refine (G3.out _).mono ?_); rintro e w9 ⟨rfl, rfl⟩) | ((with_reducible refine (G1.out _).mono ?_); rintro e w9 ⟨rfl, rfl⟩) | ((with_reducible refine (G2.out _).mono ?_); rintro e w9 ⟨rfl, rfl⟩) | ((with_reducible refine (G4.out _).mono ?_); rintro e w9 ⟨rfl, rfl⟩))
    | ((with_reducible refine wpList_store_row ?_ 53 (.tmp 2) (.tmp 65) ?_ w.heap.size #[.int .i64 4, .bool true, .slice none 0 0, .int .i64 0, .int .i64 0] ?_ ?_ 53 zrow ?_ ?_ ?_ ?_ ?_); (next => rfl); (next => rfl); (next => rfl); (next => rfl); (next => exact K0.out); (next => exact szR); (next => rfl); (next => exact row_one _ _ _ _ _ _ _)))
  exact end_row Tryz.results45 _ _ w.heap.size _ #[.int .i64 4, .bool true, .slice none 0 0, .int .i64 0, .int .i64 0] _ rfl (setRow_heap _ _ _ _ _ _ K0.out) Tryz.underlying53 szR rfl (R.out _ hB)
set_option maxHeartbeats 8000000 in
theorem read_hash (s : ByteArray) (w : World) (hs : s.size ≤ 300000) (hk : kd (L s) = 3) : Calls Tryz.prog 45 #[.string s] w (RowTold (L s) w) := by
  have WD : Hid (∀ W, Calls Tryz.prog 49 #[.string s] W (lines.Told W (wordsS s))) := fun W => ref05.words_at s W (by omega)
  unfold lines.Told at WD
  have hlen : (wordsS s).length = (wds [] (L s)).length := by rw [list.words_of, List.length_map]
  have hls : (L s).length < 4294967281 := by rw [L_len]; omega
  obtain ⟨b3, b1, b2, b4⟩ := kd_begins (l := L s) (by omega)
  have G3 : Hid (∀ W, Calls Tryz.prog 74 #[.string s, .string ⟨#[35, 104]⟩] W fun e w' => e = .returned (.bool true) ∧ W = w') := fun W => by
    have := begins_at (L s) [35, 104] W hls (by decide)
    rw [B_L, show ([35, 104] : List UInt8).length = 2 from rfl, b3, show decide (kd (L s) = 3) = true by rw [hk]; rfl] at this
    exact this
  have G1 : Hid (∀ W, Calls Tryz.prog 74 #[.string s, .string ⟨#[35, 36]⟩] W fun e w' => e = .returned (.bool false) ∧ W = w') := fun W => by
    have := begins_at (L s) [35, 36] W hls (by decide)
    rw [B_L, show ([35, 36] : List UInt8).length = 2 from rfl, b1, show decide (kd (L s) = 1) = false by rw [hk]; rfl] at this
    exact this
  have G2 : Hid (∀ W, Calls Tryz.prog 74 #[.string s, .string ⟨#[35, 64]⟩] W fun e w' => e = .returned (.bool false) ∧ W = w') := fun W => by
    have := begins_at (L s) [35, 64] W hls (by decide)
    rw [B_L, show ([35, 64] : List UInt8).length = 2 from rfl, b2, show decide (kd (L s) = 2) = false by rw [hk]; rfl] at this
    exact this
  have hne : 0 < (wordsS s).length := by
    have := kd_pos (l := L s) (by omega)
    rw [hlen]
    exact List.length_pos_iff.2 this
  have n0 : (((wordsS s).length : Int) == 0) = false := by rw [beq_eq_false_iff_ne]; omega
  have h2 : 2 ≤ (L s).length := kd_two (by omega)
  have sl := fun W => from_B W (L s) 2 2 rfl h2
  rw [B_L] at sl
  have HA : Hid (∀ W, Calls Tryz.prog 23 #[.string (B ((L s).drop 2))] W fun e w' => e = .returned (.tuple #[.agg #[.int .u32 (nx.hN (B ((L s).drop 2)) 0 : Nat), .int .u32 (nx.hN (B ((L s).drop 2)) 1 : Nat), .int .u32 (nx.hN (B ((L s).drop 2)) 2 : Nat), .int .u32 (nx.hN (B ((L s).drop 2)) 3 : Nat), .int .u32 (nx.hN (B ((L s).drop 2)) 4 : Nat)], .bool (nx.hT (B ((L s).drop 2)))]) ∧ Below W.heap.size W w') := fun W => ref07.hash_at _ W (by rw [B_size, List.length_drop]; omega)
  have eo : ok (L s) = nx.hT (B ((L s).drop 2)) := by unfold ok; rw [if_neg (by omega), if_pos hk]
  have R : Hid (∀ W g, w.heap.size + 1 ≤ g → g < W.heap.size → W.cell? ⟨g, 0, none⟩ = some (.string (B ((L s).drop 2))) → Below w.heap.size w W → RowTold (L s) w (.returned (.agg #[.int .i64 3, .bool (nx.hT (B ((L s).drop 2))), .slice (some ⟨g, 0, none⟩) 1 1, .int .i64 0, .int .i64 0])) (W.setRow w.heap.size #[.int .i64 3, .bool (nx.hT (B ((L s).drop 2))), .slice (some ⟨g, 0, none⟩) 1 1, .int .i64 0, .int .i64 0])) := fun W g hg hgl hc hb =>
    row_words (A := some ⟨g, 0, none⟩) (n := 1) (k := 1) (by decide) (by rw [wo_hash hk]; try rfl) (by rw [hk, eo, show o1 (L s) = 0 by unfold o1 wk; rw [hk]; rfl, show o2 (L s) = 0 by unfold o2 wk; rw [hk]; rfl]; try rfl) (by
      rw [wo_hash hk]
      intro _
      refine ⟨g, 0, rfl, hgl, fun k hk => ?_⟩
      obtain rfl : k = 0 := by simpa using hk
      exact hc) (fun b o e => by cases e; exact hg) hb
  clear hk b1 b2 b3 b4 hls hs eo
  generalize B ((L s).drop 2) = Y at *
  generalize nx.hT Y = T at *
  generalize (wordsS s).length = n at *
  clear hlen
  go_enter Tryz.func45, Tryz.ntmps45
  go_wp2_with (first
    | (go_at_call 49; (with_reducible refine (WD.out _).mono ?_); rintro e w1 ⟨A, c, rfl, hS, ⟨hc, hfr⟩, hb1⟩; have hB := btr (bal (Below.refl w.heap.size w) _) hb1; have K0 := Lib.hid (kept (hp_new w _) hb1))
    | (go_at_call 74; first | ((with_reducible refine (G3.out _).mono ?_); rintro e w9 ⟨rfl, rfl⟩) | ((with_reducible refine (G1.out _).mono ?_); rintro e w9 ⟨rfl, rfl⟩) | ((with_reducible refine (G2.out _).mono ?_); rintro e w9 ⟨rfl, rfl⟩))
    | (go_at_call 23; (with_reducible refine (HA.out _).mono ?_); rintro e w2 ⟨rfl, hb2⟩; have hB := btr hB hb2; have K0 := Lib.hid (kept K0.out hb2))
    | ((with_reducible refine wpList_store_row ?_ 53 (.tmp 2) (.tmp 31) ?_ w.heap.size #[.int .i64 3, .bool T, .slice (some ⟨w2.heap.size + 1, 0, none⟩) 1 1, .int .i64 0, .int .i64 0] ?_ ?_ 53 zrow ?_ ?_ ?_ ?_ ?_); (next => rfl); (next => rfl); (next => rfl); (next => rfl); (next => exact hp_old (hp_old K0.out _) _); (next => exact szR); (next => rfl); (next => exact row_one _ _ _ _ _ _ _)))
  exact end_row Tryz.results45 _ _ w.heap.size _ #[.int .i64 3, .bool T, .slice (some ⟨w2.heap.size + 1, 0, none⟩) 1 1, .int .i64 0, .int .i64 0] _ rfl (setRow_heap _ _ _ _ _ _ (hp_old (hp_old K0.out _) _)) Tryz.underlying53 szR rfl (R.out _ _ (by have := hB.size; omega) (by simp) (row_cell (hp_new1 w2 _ (.cells #[.string Y] 9)) 0) (bal (bal hB _) _))
theorem strs_cell {W : World} {A : Option Addr} {X : List (List UInt8)} (h : lines.Strs W A (X.map B)) (hl : 0 < X.length) : ∃ b o, A = some ⟨b, o, none⟩ ∧ b < W.heap.size ∧ ∀ k, k < X.length → W.cell? ⟨b, o + k, none⟩ = some (.string (B (X.getD k []))) := by
  obtain ⟨b, o, e, hb, hc⟩ := h (fun k => by have := congrArg List.length k; rw [List.length_map] at this; simp at this; subst this; simp at hl)
  refine ⟨b, o, e, hb, fun k hk => ?_⟩
  have := hc k (by rw [List.length_map]; exact hk)
  rw [List.getElem_map] at this
  rw [this, List.getD_eq_getElem?_getD, List.getElem?_eq_getElem hk]
  rfl
theorem num_word (x : List UInt8) (hx : x.length < 4294967281) (W : World) : Calls Tryz.prog 75 #[.string (B x)] W fun e w' => e = .returned (.tuple #[.int .i64 (nmI x), .bool (nmT x)]) ∧ Below W.heap.size W w' := by
  have := ref05.number_on W (Below.refl _ _) (B x) (by rw [B_size]; exact hx)
  rw [L_B] at this
  exact this
theorem ws_len {k : Nat} {l x : List UInt8} (h : x ∈ ws k l) : x.length ≤ l.length := by
  have h1 : B x ∈ wordsS (B (sd k l)) := by
    rw [list.words_of, L_B]
    exact List.mem_map.2 ⟨x, h, rfl⟩
  have h2 := list.word_size h1
  rw [B_size, B_size] at h2
  have : (sd k l).length ≤ l.length := by
    unfold sd
    split
    · exact (List.takeWhile_sublist _).length_le
    · rw [List.length_drop]; omega
  omega
theorem getD_len {k j : Nat} {l : List UInt8} (hj : j < (ws k l).length) : ((ws k l).getD j []).length ≤ l.length := by
  rw [List.getD_eq_getElem?_getD, List.getElem?_eq_getElem hj]
  exact ws_len (List.getElem_mem hj)
theorem one_of {X : List (List UInt8)} (h : X.length = 1) : X.all nmT = nmT (X.getD 0 []) := by
  match X, h with
  | [x], _ => simp
theorem two_of {X : List (List UInt8)} (h : X.length = 2) : X.all nmT = (nmT (X.getD 0 []) && nmT (X.getD 1 [])) := by
  match X, h with
  | [x, y], _ => simp
set_option maxHeartbeats 8000000 in
theorem read_stamp (s : ByteArray) (w : World) (hs : s.size ≤ 300000) (hk : kd (L s) = 1) : Calls Tryz.prog 45 #[.string s] w (RowTold (L s) w) := by
  have WD : Hid (∀ W, Calls Tryz.prog 49 #[.string s] W (lines.Told W (wordsS s))) := fun W => ref05.words_at s W (by omega)
  unfold lines.Told at WD
  have hlen : (wordsS s).length = (wds [] (L s)).length := by rw [list.words_of, List.length_map]
  have hls : (L s).length < 4294967281 := by rw [L_len]; omega
  obtain ⟨b3, b1, b2, b4⟩ := kd_begins (l := L s) (by omega)
  have G3 : Hid (∀ W, Calls Tryz.prog 74 #[.string s, .string ⟨#[35, 104]⟩] W fun e w' => e = .returned (.bool false) ∧ W = w') := fun W => by
    have := begins_at (L s) [35, 104] W hls (by decide)
    rw [B_L, show ([35, 104] : List UInt8).length = 2 from rfl, b3, show decide (kd (L s) = 3) = false by rw [hk]; rfl] at this
    exact this
  have G1 : Hid (∀ W, Calls Tryz.prog 74 #[.string s, .string ⟨#[35, 36]⟩] W fun e w' => e = .returned (.bool true) ∧ W = w') := fun W => by
    have := begins_at (L s) [35, 36] W hls (by decide)
    rw [B_L, show ([35, 36] : List UInt8).length = 2 from rfl, b1, show decide (kd (L s) = 1) = true by rw [hk]; rfl] at this
    exact this
  have G2 : Hid (∀ W, Calls Tryz.prog 74 #[.string s, .string ⟨#[35, 64]⟩] W fun e w' => e = .returned (.bool false) ∧ W = w') := fun W => by
    have := begins_at (L s) [35, 64] W hls (by decide)
    rw [B_L, show ([35, 64] : List UInt8).length = 2 from rfl, b2, show decide (kd (L s) = 2) = false by rw [hk]; rfl] at this
    exact this
  have hne : 0 < (wordsS s).length := by
    have := kd_pos (l := L s) (by omega)
    rw [hlen]
    exact List.length_pos_iff.2 this
  have n0 : (((wordsS s).length : Int) == 0) = false := by rw [beq_eq_false_iff_ne]; omega
  have h2 : 2 ≤ (L s).length := kd_two (by omega)
  have sl := fun W => from_B W (L s) 2 2 rfl h2
  rw [B_L] at sl
  have WY : Hid (∀ W, Calls Tryz.prog 49 #[.string (B ((L s).drop 2))] W (lines.Told W ((ws 1 (L s)).map B))) := fun W => ref05.words_at _ W (by rw [B_size, List.length_drop]; omega)
  unfold lines.Told at WY
  rw [List.length_map] at WY
  have hsz : 1 < s.size := by rw [← L_len]; omega
  have hsi : decide ((1 : Int) < (s.size : Int)) = true := by simp; omega
  have q64 := bt_at s 1 (by rw [← L_len]; omega)
  have t64 : ((bt s 1 : Int) == 64) = false := by
    have e : (L s)[1]? = some 36 := kd_at (x := 35) (y := 36) (of_decide_eq_true (by rw [b1, hk]; rfl))
    unfold bt
    rw [List.getD_eq_getElem?_getD, e]
    rfl
  have eo : ok (L s) = (decide ((ws 1 (L s)).length = 1) && (ws 1 (L s)).all nmT) := by rw [ok_rk (by omega), hk]; rfl
  have ewk : wk (kd (L s)) (L s) = decide ((ws 1 (L s)).length = 1) := by rw [hk]; unfold wk cn; simp
  by_cases hl1 : (ws 1 (L s)).length = 1
  · have hx := getD_len (k := 1) (j := 0) (l := L s) (by omega)
    have NW := Lib.hid (fun W => num_word ((ws 1 (L s)).getD 0 []) (by omega) W)
    have SC : Hid (∀ W A, lines.Strs W A ((ws 1 (L s)).map B) → ∃ b o, A = some ⟨b, o, none⟩ ∧ b < W.heap.size ∧ W.cell? ⟨b, o, none⟩ = some (.string (B ((ws 1 (L s)).getD 0 [])))) := fun W A h => by
      obtain ⟨b, o, e, hb, hc⟩ := strs_cell h (by omega)
      exact ⟨b, o, e, hb, hc 0 (by omega)⟩
    have t1 : (((ws 1 (L s)).length : Int) != 1) = false := by rw [hl1]; rfl
    rw [decide_eq_true hl1] at eo ewk
    have R : Hid (∀ W A n c, lines.Strs W A ((ws 1 (L s)).map B) → n = (ws 1 (L s)).length → (∀ b o, A = some ⟨b, o, none⟩ → w.heap.size + 1 ≤ b) → Below w.heap.size w W → RowTold (L s) w (.returned (.agg #[.int .i64 1, .bool (nmT ((ws 1 (L s)).getD 0 [])), .slice A n c, .int .i64 (nmI ((ws 1 (L s)).getD 0 [])), .int .i64 0])) (W.setRow w.heap.size #[.int .i64 1, .bool (nmT ((ws 1 (L s)).getD 0 [])), .slice A n c, .int .i64 (nmI ((ws 1 (L s)).getD 0 [])), .int .i64 0])) := fun W A n c hS hn hf hb => by
      have ew : wo (L s) = ws 1 (L s) := by unfold wo; rw [if_neg (by omega), if_pos ewk, hk]
      refine row_words (A := A) (n := n) (k := c) (by omega) (by rw [ew]; exact hn.symm) (by rw [hk, eo, one_of hl1, show o1 (L s) = nmI ((ws 1 (L s)).getD 0 []) by unfold o1; rw [if_pos ewk]; unfold g1; rw [hk], show o2 (L s) = 0 by unfold o2; rw [if_neg (fun k => by have := k.2; omega)]]; simp) (by rw [ew]; exact hS) hf hb
    clear hk b1 b2 b3 b4 eo ewk hx
    generalize nmT ((ws 1 (L s)).getD 0 []) = T at *
    generalize nmI ((ws 1 (L s)).getD 0 []) = V at *
    generalize B ((ws 1 (L s)).getD 0 []) = Z at *
    generalize hm : (ws 1 (L s)).length = m at *
    generalize B ((L s).drop 2) = Y at *
    generalize (wordsS s).length = n at *
    subst hl1
    clear hlen
    go_enter Tryz.func45, Tryz.ntmps45
    go_wp2_with (first
      | (go_at_call 49; first | ((with_reducible refine (WD.out _).mono ?_); rintro e w1 ⟨A, c, rfl, hS, ⟨hc, hfr⟩, hb1⟩; have hB := btr (bal (Below.refl w.heap.size w) _) hb1; have K0 := Lib.hid (kept (hp_new w _) hb1); clear hS hfr hc) | ((with_reducible refine (WY.out _).mono ?_); rintro e w2 ⟨A2, c2, rfl, hS2, ⟨hc2, hfr2⟩, hb2⟩; have hf2 := Lib.hid (fun b o e => Nat.le_trans (show w.heap.size + 1 ≤ w1.heap.size by have := hb1.size; simpa using this) (hfr2 b o e)); have hB := btr hB hb2; have K0 := Lib.hid (kept K0.out hb2); obtain ⟨b, oo, rfl, hbl, x0⟩ := SC.out _ _ hS2; have HS := Lib.hid hS2; clear hS2 hfr2 hc2))
      | (go_at_call 74; first | ((with_reducible refine (G3.out _).mono ?_); rintro e w9 ⟨rfl, rfl⟩) | ((with_reducible refine (G1.out _).mono ?_); rintro e w9 ⟨rfl, rfl⟩) | ((with_reducible refine (G2.out _).mono ?_); rintro e w9 ⟨rfl, rfl⟩))
      | (go_at_call 75; (with_reducible refine (NW.out _).mono ?_); rintro e w3 ⟨rfl, hb3⟩; have hB := btr hB hb3; have K0 := Lib.hid (kept K0.out hb3))
      | ((with_reducible refine wpList_store_row ?_ 53 (.tmp 2) (.tmp 60) ?_ w.heap.size #[.int .i64 1, .bool T, .slice (some ⟨b, oo, none⟩) 1 c2, .int .i64 V, .int .i64 0] ?_ ?_ 53 zrow ?_ ?_ ?_ ?_ ?_); (next => rfl); (next => rfl); (next => rfl); (next => rfl); (next => exact K0.out); (next => exact szR); (next => rfl); (next => exact row_one _ _ _ _ _ _ _)))
    exact end_row Tryz.results45 _ _ w.heap.size _ #[.int .i64 1, .bool T, .slice (some ⟨b, oo, none⟩) 1 c2, .int .i64 V, .int .i64 0] _ rfl (setRow_heap _ _ _ _ _ _ K0.out) Tryz.underlying53 szR rfl (R.out _ _ _ _ (HS.out.below hb3) rfl hf2.out hB)
  · have t1 : (((ws 1 (L s)).length : Int) != 1) = true := by simp; omega
    rw [decide_eq_false hl1] at eo ewk
    have R : Hid (∀ W, Below w.heap.size w W → RowTold (L s) w (.returned (.agg #[.int .i64 1, .bool false, .slice none 0 0, .int .i64 0, .int .i64 0])) (W.setRow w.heap.size #[.int .i64 1, .bool false, .slice none 0 0, .int .i64 0, .int .i64 0])) := fun W hb =>
      row_none (wo_no (by omega) ewk) (by rw [hk, eo, show o1 (L s) = 0 by unfold o1; rw [ewk]; rfl, show o2 (L s) = 0 by unfold o2; rw [if_neg (fun k => by have := k.2; omega)]]; try rfl) hb
    clear hk b1 b2 b3 b4 eo ewk hl1
    generalize hm : (ws 1 (L s)).length = m at *
    generalize B ((L s).drop 2) = Y at *
    generalize (wordsS s).length = n at *
    clear hlen
    go_enter Tryz.func45, Tryz.ntmps45
    go_wp2_with (first
      | (go_at_call 49; first | ((with_reducible refine (WD.out _).mono ?_); rintro e w1 ⟨A, c, rfl, hS, ⟨hc, hfr⟩, hb1⟩; have hB := btr (bal (Below.refl w.heap.size w) _) hb1; have K0 := Lib.hid (kept (hp_new w _) hb1); clear hS hfr hc) | ((with_reducible refine (WY.out _).mono ?_); rintro e w2 ⟨A2, c2, rfl, hS2, ⟨hc2, hfr2⟩, hb2⟩; have hf2 := Lib.hid (fun b o e => Nat.le_trans (show w.heap.size + 1 ≤ w1.heap.size by have := hb1.size; simpa using this) (hfr2 b o e)); have hB := btr hB hb2; have K0 := Lib.hid (kept K0.out hb2); clear hS2 hfr2 hc2))
      | (go_at_call 74; first | ((with_reducible refine (G3.out _).mono ?_); rintro e w9 ⟨rfl, rfl⟩) | ((with_reducible refine (G1.out _).mono ?_); rintro e w9 ⟨rfl, rfl⟩) | ((with_reducible refine (G2.out _).mono ?_); rintro e w9 ⟨rfl, rfl⟩))
      | ((with_reducible refine wpList_store_row ?_ 53 (.tmp 2) (.tmp 48) ?_ w.heap.size #[.int .i64 1, .bool false, .slice none 0 0, .int .i64 0, .int .i64 0] ?_ ?_ 53 zrow ?_ ?_ ?_ ?_ ?_); (next => rfl); (next => rfl); (next => rfl); (next => rfl); (next => exact K0.out); (next => exact szR); (next => rfl); (next => exact row_one _ _ _ _ _ _ _)))
    exact end_row Tryz.results45 _ _ w.heap.size _ #[.int .i64 1, .bool false, .slice none 0 0, .int .i64 0, .int .i64 0] _ rfl (setRow_heap _ _ _ _ _ _ K0.out) Tryz.underlying53 szR rfl (R.out _ hB)
set_option maxHeartbeats 8000000 in
theorem read_expiry (s : ByteArray) (w : World) (hs : s.size ≤ 300000) (hk : kd (L s) = 2) : Calls Tryz.prog 45 #[.string s] w (RowTold (L s) w) := by
  have WD : Hid (∀ W, Calls Tryz.prog 49 #[.string s] W (lines.Told W (wordsS s))) := fun W => ref05.words_at s W (by omega)
  unfold lines.Told at WD
  have hlen : (wordsS s).length = (wds [] (L s)).length := by rw [list.words_of, List.length_map]
  have hls : (L s).length < 4294967281 := by rw [L_len]; omega
  obtain ⟨b3, b1, b2, b4⟩ := kd_begins (l := L s) (by omega)
  have G3 : Hid (∀ W, Calls Tryz.prog 74 #[.string s, .string ⟨#[35, 104]⟩] W fun e w' => e = .returned (.bool false) ∧ W = w') := fun W => by
    have := begins_at (L s) [35, 104] W hls (by decide)
    rw [B_L, show ([35, 104] : List UInt8).length = 2 from rfl, b3, show decide (kd (L s) = 3) = false by rw [hk]; rfl] at this
    exact this
  have G1 : Hid (∀ W, Calls Tryz.prog 74 #[.string s, .string ⟨#[35, 36]⟩] W fun e w' => e = .returned (.bool false) ∧ W = w') := fun W => by
    have := begins_at (L s) [35, 36] W hls (by decide)
    rw [B_L, show ([35, 36] : List UInt8).length = 2 from rfl, b1, show decide (kd (L s) = 1) = false by rw [hk]; rfl] at this
    exact this
  have G2 : Hid (∀ W, Calls Tryz.prog 74 #[.string s, .string ⟨#[35, 64]⟩] W fun e w' => e = .returned (.bool true) ∧ W = w') := fun W => by
    have := begins_at (L s) [35, 64] W hls (by decide)
    rw [B_L, show ([35, 64] : List UInt8).length = 2 from rfl, b2, show decide (kd (L s) = 2) = true by rw [hk]; rfl] at this
    exact this
  have hne : 0 < (wordsS s).length := by
    have := kd_pos (l := L s) (by omega)
    rw [hlen]
    exact List.length_pos_iff.2 this
  have n0 : (((wordsS s).length : Int) == 0) = false := by rw [beq_eq_false_iff_ne]; omega
  have h2 : 2 ≤ (L s).length := kd_two (by omega)
  have sl := fun W => from_B W (L s) 2 2 rfl h2
  rw [B_L] at sl
  have WY : Hid (∀ W, Calls Tryz.prog 49 #[.string (B ((L s).drop 2))] W (lines.Told W ((ws 2 (L s)).map B))) := fun W => ref05.words_at _ W (by rw [B_size, List.length_drop]; omega)
  unfold lines.Told at WY
  rw [List.length_map] at WY
  have hsz : 1 < s.size := by rw [← L_len]; omega
  have hsi : decide ((1 : Int) < (s.size : Int)) = true := by simp; omega
  have q64 := bt_at s 1 (by rw [← L_len]; omega)
  have t64 : ((bt s 1 : Int) == 64) = true := by
    have e : (L s)[1]? = some 64 := kd_at (x := 35) (y := 64) (of_decide_eq_true (by rw [b2, hk]; rfl))
    unfold bt
    rw [List.getD_eq_getElem?_getD, e]
    rfl
  have eo : ok (L s) = (decide ((ws 2 (L s)).length = 1) && (ws 2 (L s)).all nmT) := by rw [ok_rk (by omega), hk]; rfl
  have ewk : wk (kd (L s)) (L s) = decide ((ws 2 (L s)).length = 1) := by rw [hk]; unfold wk cn; simp
  by_cases hl1 : (ws 2 (L s)).length = 1
  · have hx := getD_len (k := 2) (j := 0) (l := L s) (by omega)
    have NW := Lib.hid (fun W => num_word ((ws 2 (L s)).getD 0 []) (by omega) W)
    have SC : Hid (∀ W A, lines.Strs W A ((ws 2 (L s)).map B) → ∃ b o, A = some ⟨b, o, none⟩ ∧ b < W.heap.size ∧ W.cell? ⟨b, o, none⟩ = some (.string (B ((ws 2 (L s)).getD 0 [])))) := fun W A h => by
      obtain ⟨b, o, e, hb, hc⟩ := strs_cell h (by omega)
      exact ⟨b, o, e, hb, hc 0 (by omega)⟩
    have t1 : (((ws 2 (L s)).length : Int) != 1) = false := by rw [hl1]; rfl
    rw [decide_eq_true hl1] at eo ewk
    have R : Hid (∀ W A n c, lines.Strs W A ((ws 2 (L s)).map B) → n = (ws 2 (L s)).length → (∀ b o, A = some ⟨b, o, none⟩ → w.heap.size + 1 ≤ b) → Below w.heap.size w W → RowTold (L s) w (.returned (.agg #[.int .i64 2, .bool (nmT ((ws 2 (L s)).getD 0 [])), .slice A n c, .int .i64 (nmI ((ws 2 (L s)).getD 0 [])), .int .i64 0])) (W.setRow w.heap.size #[.int .i64 2, .bool (nmT ((ws 2 (L s)).getD 0 [])), .slice A n c, .int .i64 (nmI ((ws 2 (L s)).getD 0 [])), .int .i64 0])) := fun W A n c hS hn hf hb => by
      have ew : wo (L s) = ws 2 (L s) := by unfold wo; rw [if_neg (by omega), if_pos ewk, hk]
      refine row_words (A := A) (n := n) (k := c) (by omega) (by rw [ew]; exact hn.symm) (by rw [hk, eo, one_of hl1, show o1 (L s) = nmI ((ws 2 (L s)).getD 0 []) by unfold o1; rw [if_pos ewk]; unfold g1; rw [hk], show o2 (L s) = 0 by unfold o2; rw [if_neg (fun k => by have := k.2; omega)]]; simp) (by rw [ew]; exact hS) hf hb
    clear hk b1 b2 b3 b4 eo ewk hx
    generalize nmT ((ws 2 (L s)).getD 0 []) = T at *
    generalize nmI ((ws 2 (L s)).getD 0 []) = V at *
    generalize B ((ws 2 (L s)).getD 0 []) = Z at *
    generalize hm : (ws 2 (L s)).length = m at *
    generalize B ((L s).drop 2) = Y at *
    generalize (wordsS s).length = n at *
    subst hl1
    clear hlen
    go_enter Tryz.func45, Tryz.ntmps45
    go_wp2_with (first
      | (go_at_call 49; first | ((with_reducible refine (WD.out _).mono ?_); rintro e w1 ⟨A, c, rfl, hS, ⟨hc, hfr⟩, hb1⟩; have hB := btr (bal (Below.refl w.heap.size w) _) hb1; have K0 := Lib.hid (kept (hp_new w _) hb1); clear hS hfr hc) | ((with_reducible refine (WY.out _).mono ?_); rintro e w2 ⟨A2, c2, rfl, hS2, ⟨hc2, hfr2⟩, hb2⟩; have hf2 := Lib.hid (fun b o e => Nat.le_trans (show w.heap.size + 1 ≤ w1.heap.size by have := hb1.size; simpa using this) (hfr2 b o e)); have hB := btr hB hb2; have K0 := Lib.hid (kept K0.out hb2); obtain ⟨b, oo, rfl, hbl, x0⟩ := SC.out _ _ hS2; have HS := Lib.hid hS2; clear hS2 hfr2 hc2))
      | (go_at_call 74; first | ((with_reducible refine (G3.out _).mono ?_); rintro e w9 ⟨rfl, rfl⟩) | ((with_reducible refine (G1.out _).mono ?_); rintro e w9 ⟨rfl, rfl⟩) | ((with_reducible refine (G2.out _).mono ?_); rintro e w9 ⟨rfl, rfl⟩))
      | (go_at_call 75; (with_reducible refine (NW.out _).mono ?_); rintro e w3 ⟨rfl, hb3⟩; have hB := btr hB hb3; have K0 := Lib.hid (kept K0.out hb3))
      | ((with_reducible refine wpList_store_row ?_ 53 (.tmp 2) (.tmp 60) ?_ w.heap.size #[.int .i64 2, .bool T, .slice (some ⟨b, oo, none⟩) 1 c2, .int .i64 V, .int .i64 0] ?_ ?_ 53 zrow ?_ ?_ ?_ ?_ ?_); (next => rfl); (next => rfl); (next => rfl); (next => rfl); (next => exact K0.out); (next => exact szR); (next => rfl); (next => exact row_one _ _ _ _ _ _ _)))
    exact end_row Tryz.results45 _ _ w.heap.size _ #[.int .i64 2, .bool T, .slice (some ⟨b, oo, none⟩) 1 c2, .int .i64 V, .int .i64 0] _ rfl (setRow_heap _ _ _ _ _ _ K0.out) Tryz.underlying53 szR rfl (R.out _ _ _ _ (HS.out.below hb3) rfl hf2.out hB)
  · have t1 : (((ws 2 (L s)).length : Int) != 1) = true := by simp; omega
    rw [decide_eq_false hl1] at eo ewk
    have R : Hid (∀ W, Below w.heap.size w W → RowTold (L s) w (.returned (.agg #[.int .i64 2, .bool false, .slice none 0 0, .int .i64 0, .int .i64 0])) (W.setRow w.heap.size #[.int .i64 2, .bool false, .slice none 0 0, .int .i64 0, .int .i64 0])) := fun W hb =>
      row_none (wo_no (by omega) ewk) (by rw [hk, eo, show o1 (L s) = 0 by unfold o1; rw [ewk]; rfl, show o2 (L s) = 0 by unfold o2; rw [if_neg (fun k => by have := k.2; omega)]]; try rfl) hb
    clear hk b1 b2 b3 b4 eo ewk hl1
    generalize hm : (ws 2 (L s)).length = m at *
    generalize B ((L s).drop 2) = Y at *
    generalize (wordsS s).length = n at *
    clear hlen
    go_enter Tryz.func45, Tryz.ntmps45
    go_wp2_with (first
      | (go_at_call 49; first | ((with_reducible refine (WD.out _).mono ?_); rintro e w1 ⟨A, c, rfl, hS, ⟨hc, hfr⟩, hb1⟩; have hB := btr (bal (Below.refl w.heap.size w) _) hb1; have K0 := Lib.hid (kept (hp_new w _) hb1); clear hS hfr hc) | ((with_reducible refine (WY.out _).mono ?_); rintro e w2 ⟨A2, c2, rfl, hS2, ⟨hc2, hfr2⟩, hb2⟩; have hf2 := Lib.hid (fun b o e => Nat.le_trans (show w.heap.size + 1 ≤ w1.heap.size by have := hb1.size; simpa using this) (hfr2 b o e)); have hB := btr hB hb2; have K0 := Lib.hid (kept K0.out hb2); clear hS2 hfr2 hc2))
      | (go_at_call 74; first | ((with_reducible refine (G3.out _).mono ?_); rintro e w9 ⟨rfl, rfl⟩) | ((with_reducible refine (G1.out _).mono ?_); rintro e w9 ⟨rfl, rfl⟩) | ((with_reducible refine (G2.out _).mono ?_); rintro e w9 ⟨rfl, rfl⟩))
      | ((with_reducible refine wpList_store_row ?_ 53 (.tmp 2) (.tmp 48) ?_ w.heap.size #[.int .i64 2, .bool false, .slice none 0 0, .int .i64 0, .int .i64 0] ?_ ?_ 53 zrow ?_ ?_ ?_ ?_ ?_); (next => rfl); (next => rfl); (next => rfl); (next => rfl); (next => exact K0.out); (next => exact szR); (next => rfl); (next => exact row_one _ _ _ _ _ _ _)))
    exact end_row Tryz.results45 _ _ w.heap.size _ #[.int .i64 2, .bool false, .slice none 0 0, .int .i64 0, .int .i64 0] _ rfl (setRow_heap _ _ _ _ _ _ K0.out) Tryz.underlying53 szR rfl (R.out _ hB)
set_option maxHeartbeats 8000000 in
theorem read_data (s : ByteArray) (w : World) (hs : s.size ≤ 300000) (hk : kd (L s) = 5) : Calls Tryz.prog 45 #[.string s] w (RowTold (L s) w) := by
  have WD : Hid (∀ W, Calls Tryz.prog 49 #[.string s] W (lines.Told W (wordsS s))) := fun W => ref05.words_at s W (by omega)
  unfold lines.Told at WD
  have hlen : (wordsS s).length = (wds [] (L s)).length := by rw [list.words_of, List.length_map]
  have hls : (L s).length < 4294967281 := by rw [L_len]; omega
  obtain ⟨b3, b1, b2, b4⟩ := kd_begins (l := L s) (by omega)
  have G3 : Hid (∀ W, Calls Tryz.prog 74 #[.string s, .string ⟨#[35, 104]⟩] W fun e w' => e = .returned (.bool false) ∧ W = w') := fun W => by
    have := begins_at (L s) [35, 104] W hls (by decide)
    rw [B_L, show ([35, 104] : List UInt8).length = 2 from rfl, b3, show decide (kd (L s) = 3) = false by rw [hk]; rfl] at this
    exact this
  have G1 : Hid (∀ W, Calls Tryz.prog 74 #[.string s, .string ⟨#[35, 36]⟩] W fun e w' => e = .returned (.bool false) ∧ W = w') := fun W => by
    have := begins_at (L s) [35, 36] W hls (by decide)
    rw [B_L, show ([35, 36] : List UInt8).length = 2 from rfl, b1, show decide (kd (L s) = 1) = false by rw [hk]; rfl] at this
    exact this
  have G2 : Hid (∀ W, Calls Tryz.prog 74 #[.string s, .string ⟨#[35, 64]⟩] W fun e w' => e = .returned (.bool false) ∧ W = w') := fun W => by
    have := begins_at (L s) [35, 64] W hls (by decide)
    rw [B_L, show ([35, 64] : List UInt8).length = 2 from rfl, b2, show decide (kd (L s) = 2) = false by rw [hk]; rfl] at this
    exact this
  have hne : 0 < (wordsS s).length := by
    have := kd_pos (l := L s) (by omega)
    rw [hlen]
    exact List.length_pos_iff.2 this
  have n0 : (((wordsS s).length : Int) == 0) = false := by rw [beq_eq_false_iff_ne]; omega
  have WS : Hid (∀ W A, lines.Strs W A (wordsS s) → ∃ b o, A = some ⟨b, o, none⟩ ∧ W.cell? ⟨b, o, none⟩ = some (.string (B ((wds [] (L s)).headD [])))) := fun W A h => by
    obtain ⟨b, o, e, _, hc⟩ := h (fun k => by rw [k] at hne; exact absurd hne (by decide))
    refine ⟨b, o, e, ?_⟩
    have := hc 0 hne
    rw [← B_L ((wordsS s)[0]), list.words_head hne] at this
    exact this
  have hd1 : ((wds [] (L s)).headD []).length < 4294967281 := by
    have := list.word_size (List.getElem_mem hne)
    rw [← L_len, list.words_head hne] at this
    omega
  have G4 : Hid (∀ W, Calls Tryz.prog 74 #[.string (B ((wds [] (L s)).headD [])), .string ⟨#[35]⟩] W fun e w' => e = .returned (.bool false) ∧ W = w') := fun W => by
    have := begins_at ((wds [] (L s)).headD []) [35] W hd1 (by decide)
    rw [show ([35] : List UInt8).length = 1 from rfl, b4 (by omega), show decide (kd (L s) = 4) = false by rw [hk]; rfl] at this
    exact this
  have AH := Lib.hid (fun W => ahead_at s W (by omega))
  have WY : Hid (∀ W, Calls Tryz.prog 49 #[.string (B (ahd (L s)))] W (lines.Told W ((ws 5 (L s)).map B))) := fun W => by
    have h1 : (ahd (L s)).length ≤ (L s).length := (List.takeWhile_sublist _).length_le
    exact ref05.words_at _ W (by rw [B_size]; omega)
  unfold lines.Told at WY
  rw [List.length_map] at WY
  have eo : ok (L s) = (decide ((ws 5 (L s)).length = 2) && (ws 5 (L s)).all nmT) := by rw [ok_rk (by omega), hk]; rfl
  have ewk : wk (kd (L s)) (L s) = decide ((ws 5 (L s)).length = 2) := by rw [hk]; unfold wk cn; simp
  by_cases hl1 : (ws 5 (L s)).length = 2
  · have hx := getD_len (k := 5) (j := 0) (l := L s) (by omega)
    have hy := getD_len (k := 5) (j := 1) (l := L s) (by omega)
    have NW := Lib.hid (fun W => num_word ((ws 5 (L s)).getD 0 []) (by omega) W)
    have NZ := Lib.hid (fun W => num_word ((ws 5 (L s)).getD 1 []) (by omega) W)
    have SC : Hid (∀ W A, lines.Strs W A ((ws 5 (L s)).map B) → ∃ b o, A = some ⟨b, o, none⟩ ∧ b < W.heap.size ∧ W.cell? ⟨b, o, none⟩ = some (.string (B ((ws 5 (L s)).getD 0 []))) ∧ W.cell? ⟨b, o + 1, none⟩ = some (.string (B ((ws 5 (L s)).getD 1 [])))) := fun W A h => by
      obtain ⟨b, o, e, hb, hc⟩ := strs_cell h (by omega)
      exact ⟨b, o, e, hb, hc 0 (by omega), hc 1 (by omega)⟩
    have t1 : (((ws 5 (L s)).length : Int) != 2) = false := by rw [hl1]; rfl
    have i1 : decide ((1 : Int) < ((ws 5 (L s)).length : Int)) = true := by simp; omega
    rw [decide_eq_true hl1] at eo ewk
    have R : Hid (∀ W A n c T, T = (nmT ((ws 5 (L s)).getD 0 []) && nmT ((ws 5 (L s)).getD 1 [])) → lines.Strs W A ((ws 5 (L s)).map B) → n = (ws 5 (L s)).length → (∀ b o, A = some ⟨b, o, none⟩ → w.heap.size + 1 ≤ b) → Below w.heap.size w W → RowTold (L s) w (.returned (.agg #[.int .i64 5, .bool T, .slice A n c, .int .i64 (nmI ((ws 5 (L s)).getD 0 [])), .int .i64 (nmI ((ws 5 (L s)).getD 1 []))])) (W.setRow w.heap.size #[.int .i64 5, .bool T, .slice A n c, .int .i64 (nmI ((ws 5 (L s)).getD 0 [])), .int .i64 (nmI ((ws 5 (L s)).getD 1 []))])) := fun W A n c T hT hS hn hf hb => by
      have ew : wo (L s) = ws 5 (L s) := by unfold wo; rw [if_neg (by omega), if_pos ewk, hk]
      refine row_words (A := A) (n := n) (k := c) (by omega) (by rw [ew]; exact hn.symm) (by rw [hk, eo, two_of hl1, hT, show o1 (L s) = nmI ((ws 5 (L s)).getD 0 []) by unfold o1; rw [if_pos ewk]; unfold g1; rw [hk], show o2 (L s) = nmI ((ws 5 (L s)).getD 1 []) by unfold o2; rw [if_pos ⟨ewk, hk⟩]; unfold g2; rw [hk]]; simp) (by rw [ew]; exact hS) hf hb
    clear hk b1 b2 b3 b4 hls eo ewk hx hy hs hd1
    generalize nmT ((ws 5 (L s)).getD 0 []) = TX at *
    generalize nmT ((ws 5 (L s)).getD 1 []) = TY at *
    generalize nmI ((ws 5 (L s)).getD 0 []) = VX at *
    generalize nmI ((ws 5 (L s)).getD 1 []) = VY at *
    generalize B ((ws 5 (L s)).getD 0 []) = Z at *
    generalize B ((ws 5 (L s)).getD 1 []) = Z1 at *
    generalize B ((wds [] (L s)).headD []) = HD at *
    generalize hm : (ws 5 (L s)).length = m at *
    generalize B (ahd (L s)) = Y at *
    generalize (wordsS s).length = n at *
    subst hl1
    clear hlen
    cases TX
    all_goals
      go_enter Tryz.func45, Tryz.ntmps45
      go_wp2_with (first
        | (go_at_call 49; first | ((with_reducible refine (WD.out _).mono ?_); rintro e w1 ⟨A, c, rfl, hS, ⟨hc, hfr⟩, hb1⟩; have hB := btr (bal (Below.refl w.heap.size w) _) hb1; have K0 := Lib.hid (kept (hp_new w _) hb1); obtain ⟨b9, o9, rfl, x9⟩ := WS.out _ _ hS; clear hS hfr hc) | ((with_reducible refine (WY.out _).mono ?_); rintro e w2 ⟨A2, c2, rfl, hS2, ⟨hc2, hfr2⟩, hb2⟩; have hf2 := Lib.hid (fun b o e => Nat.le_trans (show w.heap.size + 1 ≤ wa.heap.size by have := hb1.size; have := hba.size; simp at *; omega) (hfr2 b o e)); have hB := btr hB hb2; have K0 := Lib.hid (kept K0.out hb2); obtain ⟨b, oo, rfl, hbl, x0, x1⟩ := SC.out _ _ hS2; have HS := Lib.hid hS2; clear hS2 hfr2 hc2))
        | (go_at_call 76; (with_reducible refine (AH.out _).mono ?_); rintro e wa ⟨rfl, hba⟩; have hB := btr hB hba; have K0 := Lib.hid (kept K0.out hba); clear x9)
        | (go_at_call 74; first | ((with_reducible refine (G3.out _).mono ?_); rintro e w9 ⟨rfl, rfl⟩) | ((with_reducible refine (G1.out _).mono ?_); rintro e w9 ⟨rfl, rfl⟩) | ((with_reducible refine (G2.out _).mono ?_); rintro e w9 ⟨rfl, rfl⟩) | ((with_reducible refine (G4.out _).mono ?_); rintro e w9 ⟨rfl, rfl⟩))
        | (go_at_call 75; first | ((with_reducible refine (NW.out _).mono ?_); rintro e w3 ⟨rfl, hb3⟩; have hB := btr hB hb3; have K0 := Lib.hid (kept K0.out hb3); have x1 := (hb3.cell (p := ⟨b, oo + 1, none⟩) hbl).trans x1; clear NW) | ((with_reducible refine (NZ.out _).mono ?_); rintro e w4 ⟨rfl, hb4⟩; have hB := btr hB hb4; have K0 := Lib.hid (kept K0.out hb4)))
        | (first | ((with_reducible refine wpList_store_row ?_ 53 (.tmp 2) (.tmp 94) ?_ w.heap.size #[.int .i64 5, .bool false, .slice (some ⟨b, oo, none⟩) 2 c2, .int .i64 VX, .int .i64 VY] ?_ ?_ 53 zrow ?_ ?_ ?_ ?_ ?_); (next => rfl); (next => rfl); (next => rfl); (next => rfl); (next => exact K0.out); (next => exact szR); (next => rfl); (next => exact row_one _ _ _ _ _ _ _)) | ((with_reducible refine wpList_store_row ?_ 53 (.tmp 2) (.tmp 94) ?_ w.heap.size #[.int .i64 5, .bool TY, .slice (some ⟨b, oo, none⟩) 2 c2, .int .i64 VX, .int .i64 VY] ?_ ?_ 53 zrow ?_ ?_ ?_ ?_ ?_); (next => rfl); (next => rfl); (next => rfl); (next => rfl); (next => exact K0.out); (next => exact szR); (next => rfl); (next => exact row_one _ _ _ _ _ _ _))))
      first | (exact end_row Tryz.results45 _ _ w.heap.size _ #[.int .i64 5, .bool false, .slice (some ⟨b, oo, none⟩) 2 c2, .int .i64 VX, .int .i64 VY] _ rfl (setRow_heap _ _ _ _ _ _ K0.out) Tryz.underlying53 szR rfl (R.out _ _ _ _ _ (by simp) (HS.out.below (btr hb3 hb4)) rfl hf2.out hB)) | (exact end_row Tryz.results45 _ _ w.heap.size _ #[.int .i64 5, .bool TY, .slice (some ⟨b, oo, none⟩) 2 c2, .int .i64 VX, .int .i64 VY] _ rfl (setRow_heap _ _ _ _ _ _ K0.out) Tryz.underlying53 szR rfl (R.out _ _ _ _ _ (by simp) (HS.out.below (btr hb3 hb4)) rfl hf2.out hB))
  · have t1 : (((ws 5 (L s)).length : Int) != 2) = true := by simp; omega
    rw [decide_eq_false hl1] at eo ewk
    have R : Hid (∀ W, Below w.heap.size w W → RowTold (L s) w (.returned (.agg #[.int .i64 5, .bool false, .slice none 0 0, .int .i64 0, .int .i64 0])) (W.setRow w.heap.size #[.int .i64 5, .bool false, .slice none 0 0, .int .i64 0, .int .i64 0])) := fun W hb =>
      row_none (wo_no (by omega) ewk) (by rw [hk, eo, show o1 (L s) = 0 by unfold o1; rw [ewk]; rfl, show o2 (L s) = 0 by unfold o2; rw [ewk]; rfl]; try rfl) hb
    clear hk b1 b2 b3 b4 hls eo ewk hl1 hs hd1
    generalize B ((wds [] (L s)).headD []) = HD at *
    generalize hm : (ws 5 (L s)).length = m at *
    generalize B (ahd (L s)) = Y at *
    generalize (wordsS s).length = n at *
    clear hlen
    go_enter Tryz.func45, Tryz.ntmps45
    go_wp2_with (first
      | (go_at_call 49; first | ((with_reducible refine (WD.out _).mono ?_); rintro e w1 ⟨A, c, rfl, hS, ⟨hc, hfr⟩, hb1⟩; have hB := btr (bal (Below.refl w.heap.size w) _) hb1; have K0 := Lib.hid (kept (hp_new w _) hb1); obtain ⟨b9, o9, rfl, x9⟩ := WS.out _ _ hS; clear hS hfr hc) | ((with_reducible refine (WY.out _).mono ?_); rintro e w2 ⟨A2, c2, rfl, hS2, ⟨hc2, hfr2⟩, hb2⟩; have hf2 := Lib.hid (fun b o e => Nat.le_trans (show w.heap.size + 1 ≤ wa.heap.size by have := hb1.size; have := hba.size; simp at *; omega) (hfr2 b o e)); have hB := btr hB hb2; have K0 := Lib.hid (kept K0.out hb2); clear hS2 hfr2 hc2))
      | (go_at_call 76; (with_reducible refine (AH.out _).mono ?_); rintro e wa ⟨rfl, hba⟩; have hB := btr hB hba; have K0 := Lib.hid (kept K0.out hba); clear x9)
      | (go_at_call 74; first | ((with_reducible refine (G3.out _).mono ?_); rintro e w9 ⟨rfl, rfl⟩) | ((with_reducible refine (G1.out _).mono ?_); rintro e w9 ⟨rfl, rfl⟩) | ((with_reducible refine (G2.out _).mono ?_); rintro e w9 ⟨rfl, rfl⟩) | ((with_reducible refine (G4.out _).mono ?_); rintro e w9 ⟨rfl, rfl⟩))
      | ((with_reducible refine wpList_store_row ?_ 53 (.tmp 2) (.tmp 72) ?_ w.heap.size #[.int .i64 5, .bool false, .slice none 0 0, .int .i64 0, .int .i64 0] ?_ ?_ 53 zrow ?_ ?_ ?_ ?_ ?_); (next => rfl); (next => rfl); (next => rfl); (next => rfl); (next => exact K0.out); (next => exact szR); (next => rfl); (next => exact row_one _ _ _ _ _ _ _)))
    exact end_row Tryz.results45 _ _ w.heap.size _ #[.int .i64 5, .bool false, .slice none 0 0, .int .i64 0, .int .i64 0] _ rfl (setRow_heap _ _ _ _ _ _ K0.out) Tryz.underlying53 szR rfl (R.out _ hB)
theorem read_at (s : ByteArray) (w : World) (hs : s.size ≤ 300000) : Calls Tryz.prog 45 #[.string s] w (RowTold (L s) w) := by
  have h := kd_le (L s)
  rcases (show kd (L s) = 0 ∨ kd (L s) = 1 ∨ kd (L s) = 2 ∨ kd (L s) = 3 ∨ kd (L s) = 4 ∨ kd (L s) = 5 by omega) with k | k | k | k | k | k
  · exact read_none s w hs k
  · exact read_stamp s w hs k
  · exact read_expiry s w hs k
  · exact read_hash s w hs k
  · exact read_remark s w hs k
  · exact read_data s w hs k
end Go.Proofs.YtldieebiicblbaaGreatDoor.ref10
