/-
  What record's Records answers, and the library's ContainsFunc with isRoll. Conditions: the tables of package day hold what their initialisers lay; the slice reads as the row of leaps.
-/
import Derived.Test.YtcikcdeihlmbcaaDoorRecRows
import Derived.Test.YtcikcdeihlmbcaaDoorLeapAdd
import Derived.Shelf.Abstract
import Derived.OwnWalk
namespace Go.Proofs.YtcikcdeihlmbcaaDoor.rec
open Go.ChangeShapes Go.WideShapes Go.ChangeAt Go.RowKit
open rm mem
open lm (Lp dy tot ce)
open leap (Lps rl tcs tcs_cells)
set_option linter.unusedVariables false
set_option maxRecDepth 100000

theorem roll_at (d s : Int) (r : Bool) (w : World) : Calls Tryd.prog 32 #[.agg #[.int .i64 d, .int .i64 s, .bool r]] w fun e w' => e = .returned (.bool r) ∧ Below w.heap.size w w' := by
  have hb := bal (Below.refl w.heap.size w) (.cells #[.int .i64 d, .int .i64 s, .bool r] 47)
  go_enter Tryd.func32, Tryd.ntmps32
  go_wp2
  go_ret
  exact ⟨rfl, hb⟩
/-- at the head of a round. -/
def IHead (l : List Lp) (w : World) (i : Value) (W : World) : Prop :=
  ∃ k : Nat, k ≤ l.length ∧ i = .int .i64 (k : Nat) ∧ Below w.heap.size w W ∧ ∀ j, j < k → rl l j = false
def Found (l : List Lp) (w : World) (e : Ending) (w' : World) : Prop := ∃ z : Int, e = .returned (.int .i64 z) ∧ (z < 0 ↔ nr l) ∧ Below w.heap.size w w'
set_option maxHeartbeats 1000000 in
theorem index_at (l : List Lp) (A : Option Addr) (c : Nat) (w : World) (h : Lps w A l) (hn : l.length ≤ 9223372036854775807) :
    Calls Tryd.prog 50 #[.slice A l.length c, .func (.func 32) #[] #[]] w (Found l w) := by
  have eg : ∀ args w, (callFunc 32 args).run Tryd.prog w = .ok (.enter 32 args) w := fun args w => by kernel_rfl
  go_enter Tryd.func50, Tryd.ntmps50
  go_wp2
  go_loopw [8] (fun i W => IHead l w i W) (fun i _ => l.length - (intOf i).toNat)
  case atStart => exact ⟨0, Nat.zero_le _, rfl, Below.refl _ _, fun j hj => by omega⟩
  case round =>
    obtain ⟨k, hk, rfl, hb, hok⟩ := hrel
    by_cases hlt : k < l.length
    · obtain ⟨b, o, rfl, hb0, hc⟩ := h.below hb (by omega)
      obtain ⟨x0, x1, x2⟩ := hc k hlt
      have F := Lib.hid (roll_at (dy l k) (lm.st l k) (rl l k) wr)
      cases hr : rl l k
      · rw [hr] at F x2
        have R : Hid (∀ W', Below wr.heap.size wr W' → IHead l w (.int .i64 ((k : Int) + 1)) W') := fun W' hb' => ⟨k + 1, by omega, rfl, btr hb hb', fun j hj => by
          rcases Nat.eq_or_lt_of_le (Nat.le_of_lt_succ hj) with rfl | e
          · exact hr
          · exact hok j e⟩
        clear hok hc h hr
        generalize dy l k = a0 at *
        generalize lm.st l k = a1 at *
        generalize l.length = n at *
        go_wp2_with (go_at_fn 32; refine F.out.mono ?_; rintro e w1 ⟨rfl, hb1⟩; have R1 := R.out _ hb1)
        go_roundw
        case rel => exact R1
        case measure => simp [intOf]; omega
      · rw [hr] at F x2
        have R : Hid (∀ W', Below wr.heap.size wr W' → Found l w (.returned (.int .i64 (k : Nat))) W') := fun W' hb' => ⟨k, rfl, ⟨fun h => by omega, fun h => by rw [h k hlt] at hr; cases hr⟩, btr hb hb'⟩
        clear hok hc h hr
        generalize dy l k = a0 at *
        generalize lm.st l k = a1 at *
        generalize l.length = n at *
        go_wp2_with (go_at_fn 32; refine F.out.mono ?_; rintro e w1 ⟨rfl, hb1⟩; have R1 := R.out _ hb1)
        go_ret
        exact R1
    · obtain rfl : k = l.length := by omega
      have R : Hid (Found l w (.returned (.int .i64 (-1))) wr) := ⟨-1, rfl, ⟨fun _ => hok, fun _ => by omega⟩, hb⟩
      clear hok h
      generalize l.length = n at *
      go_wp2
      go_ret
      exact R.out
open Classical in
/-- is a leap of local time? -/
noncomputable def hrB (l : List Lp) : Bool := !decide (nr l)
open Classical in
theorem hrB_no {l : List Lp} (h : nr l) : hrB l = false := by unfold hrB; rw [decide_eq_true h]; rfl
open Classical in
theorem hrB_yes {l : List Lp} (h : ¬ nr l) : hrB l = true := by unfold hrB; rw [decide_eq_false h]; rfl
theorem contains_at (l : List Lp) (A : Option Addr) (c : Nat) (w : World) (h : Lps w A l) (hn : l.length ≤ 9223372036854775807) :
    Calls Tryd.prog 31 #[.slice A l.length c, .func (.func 32) #[] #[]] w fun e w' => e = .returned (.bool (hrB l)) ∧ Below w.heap.size w w' := by
  have F := Lib.hid (index_at l A c w h hn)
  unfold Found at F
  have HR : Hid (∀ z : Int, (z < 0 ↔ nr l) → decide (0 ≤ z) = hrB l) := fun z hz => by
    by_cases hp : nr l
    · rw [hrB_no hp, decide_eq_false_iff_not]; have := hz.2 hp; omega
    · rw [hrB_yes hp, decide_eq_true_iff]; have : ¬ z < 0 := fun k => hp (hz.1 k); omega
  clear h
  generalize hrB l = q at *
  generalize nr l = p at *
  generalize l.length = n at *
  go_enter Tryd.func31, Tryd.ntmps31
  go_wp2_with (go_at_call 50; with_reducible refine (F.out).mono ?_; rintro e w1 ⟨z, rfl, hz, hb1⟩; have HQ := HR.out z hz)
  go_ret
  exact ⟨rfl, hb1⟩
theorem records_no (l : List Lp) (A : Option Addr) (c : Nat) (has : Bool) (x : Int) (w : World) (T : day.Tabs w) (h : Lps w A l) (hn : l.length ≤ 9223372036854775807) (hno : ce l has x = 0 → ¬ nr l) :
    Calls Tryd.prog 11 #[.agg #[.slice A l.length c, .bool has, .int .i64 x]] w fun e w' => e = .returned (.tuple #[.slice none 0 0, .bool false]) ∧ Below w.heap.size w w' := by
  have hb0 := bal (Below.refl w.heap.size w) (.cells #[.slice A l.length c, .bool has, .int .i64 x] 24)
  have RI := Lib.hid (leap.right_at l A c has x _ (T.below hb0) (h.below hb0) hn)
  have BT := Lib.hid (fun w1 hb => leap.box_tab w A l.length c has x (w1 := w1) hb)
  have CF := Lib.hid (fun W hb => contains_at l A c W (h.below (w := w) (W := W) hb) hn)
  have HB := Lib.hid hb0
  clear h hb0 T
  by_cases he : ce l has x = 0
  · have e : (ce l has x == 0) = true := by simpa using he
    rw [e] at RI
    rw [hrB_yes (hno he)] at CF
    clear e he hno
    generalize l.length = n at *
    go_enter Tryd.func11, Tryd.ntmps11
    go_wp2_with (first
      | (go_at_call 28; with_reducible refine (RI.out).mono ?_; rintro e w1 ⟨rfl, hb1⟩; obtain ⟨x0, x1, x2⟩ := BT.out _ hb1)
      | (go_at_call 31; with_reducible refine (CF.out _ (btr HB.out hb1)).mono ?_; rintro e w2 ⟨rfl, hb2⟩))
    exact bodyPost_ret (v := .tuple #[.slice none 0 0, .bool false]) (by simp [results, Tryd.results11, go_sem]) rfl ⟨rfl, btr (btr HB.out hb1) hb2⟩
  · have e : (ce l has x == 0) = false := by simpa using he
    rw [e] at RI
    clear e he hno CF
    generalize l.length = n at *
    go_enter Tryd.func11, Tryd.ntmps11
    go_wp2_with (go_at_call 28; with_reducible refine (RI.out).mono ?_; rintro e w1 ⟨rfl, hb1⟩; obtain ⟨x0, x1, x2⟩ := BT.out _ hb1)
    exact bodyPost_ret (v := .tuple #[.slice none 0 0, .bool false]) (by simp [results, Tryd.results11, go_sem]) rfl ⟨rfl, btr HB.out hb1⟩
theorem recs_fit {l : List Lp} {has : Bool} {x : Int} (h : ce l has x = 0) : Fit (recs l has x) := by
  have hO := recs_ok h
  have hl := recs_len l has x
  have g := lm.good_of h
  have hn := g.len
  intro k
  by_cases hk : k < (recs l has x).length
  · by_cases hc : k < l.length
    · have a := rat_bd g hc
      have b := lm.tot_bd g (k + 1) (by omega)
      rw [recs_ra l has x hc, recs_rc l has x hc]
      omega
    · cases has
      · simp at hl; omega
      · simp at hl
        obtain rfl : k = l.length := by omega
        obtain ⟨e1, e2⟩ := recs_end l x
        have b := lm.tot_bd g l.length (Nat.le_refl _)
        have := (lm.ce_ok.1 h).2
        unfold lm.xp at this
        rw [if_pos rfl] at this
        have hx : x ≤ 253402300799 := by
          rcases Decidable.em (x < lm.lst l ∨ 253402300799 < x) with k | k
          · rw [if_pos k] at this; cases this
          · omega
        have hp := hO.pos hk
        rw [e1] at hp
        rw [e1, e2]
        omega
  · have e : (recs l has x).getD k z2 = z2 := by rw [List.getD_eq_getElem?_getD, List.getElem?_eq_none (by omega)]; rfl
    unfold ra rc
    rw [e]
    decide
theorem x_bd {l : List Lp} {x : Int} (h : ce l true x = 0) : 0 ≤ x ∧ x ≤ 253402300799 := by
  have g := lm.good_of h
  have := (lm.ce_ok.1 h).2
  unfold lm.xp at this
  rw [if_pos rfl] at this
  have hx : lm.lst l ≤ x ∧ x ≤ 253402300799 := by
    rcases Decidable.em (x < lm.lst l ∨ 253402300799 < x) with k | k
    · rw [if_pos k] at this; cases this
    · omega
  refine ⟨?_, hx.2⟩
  have := hx.1
  unfold lm.lst at this
  by_cases h0 : l.length = 0
  · rw [if_pos h0] at this; omega
  · rw [if_neg h0] at this
    have := (g.day (i := l.length - 1) (by omega)).1
    omega
/-- at the head of a round of Records. -/
def RHead (l : List Lp) (A : Option Addr) (c : Nat) (has : Bool) (x : Int) (w : World) (v s i : Value) (W : World) : Prop :=
  ∃ k : Nat, k ≤ l.length ∧ i = .int .i64 (k : Nat) ∧ s = .int .i64 (tot l k) ∧ Below w.heap.size w W ∧ W.heap[w.heap.size]? = some (.cells (tcs A l.length c has x) 24) ∧ ∃ t, t = v ∧ W.ownsRow (w.heap.size + 1) 44 2 t (rcsF l k).length (ccs (rcsF l k))
def Recd (l : List Lp) (has : Bool) (x : Int) (w : World) (e : Ending) (w' : World) : Prop :=
  ∃ A' c', e = .returned (.tuple #[.slice A' (recs l has x).length c', .bool true]) ∧ Crs w' A' (recs l has x) ∧ (recs l has x).length ≤ c' ∧ Below w.heap.size w w'
set_option maxHeartbeats 2000000 in
theorem records_yes (l : List Lp) (A : Option Addr) (c : Nat) (has : Bool) (x : Int) (w : World) (T : day.Tabs w) (h : Lps w A l) (he : ce l has x = 0) (hnr : nr l) :
    Calls Tryd.prog 11 #[.agg #[.slice A l.length c, .bool has, .int .i64 x]] w (Recd l has x w) := by
  have hg := lm.good_of he
  have hlen := hg.len
  have hb0 := bal (Below.refl w.heap.size w) (.cells #[.slice A l.length c, .bool has, .int .i64 x] 24)
  have RI := Lib.hid (leap.right_at l A c has x _ (T.below hb0) (h.below hb0) (by omega))
  rw [show (ce l has x == 0) = true by simpa using he] at RI
  have BT := Lib.hid (fun w1 hb => leap.box_tab w A l.length c has x (w1 := w1) hb)
  have BK : Hid (∀ w1, Below (w.alloc (.cells #[.slice A l.length c, .bool has, .int .i64 x] 24)).heap.size (w.alloc (.cells #[.slice A l.length c, .bool has, .int .i64 x] 24)) w1 → w1.heap[w.heap.size]? = some (.cells (tcs A l.length c has x) 24) ∧ w.heap.size + 1 ≤ w1.heap.size) := fun w1 hb => ⟨kept (hp_new w _) hb, by have := hb.size; simpa using this⟩
  have CF := Lib.hid (fun W hb => contains_at l A c W (h.below (w := w) (W := W) hb) (by omega))
  rw [hrB_no hnr] at CF
  have HB := Lib.hid hb0
  have HL := Lib.hid h
  obtain ⟨i0, hi, hz0, hz1, hz2⟩ := info_parts infoC
  clear h hb0 T
  go_enter Tryd.func11, Tryd.ntmps11
  go_wp2_with (first
    | (go_at_call 28; with_reducible refine (RI.out).mono ?_; rintro e w1 ⟨rfl, hb1⟩; obtain ⟨x0, x1, x2⟩ := BT.out _ hb1)
    | (go_at_call 31; with_reducible refine (CF.out _ (btr HB.out hb1)).mono ?_; rintro e w2 ⟨rfl, hb2⟩; clear x0 x1 x2; obtain ⟨x0, x1, x2⟩ := BT.out _ (btr hb1 hb2))
    | (at_make; refine wpList_make_own _ rfl _ _ 25 rfl (w.heap.size + 1) 44 i0 _ 2 Tryd.underlying25 hi hz0 hz1 _ _ _ (l.length + 1) rfl rfl (by omega) (by rw [hz2]; omega) (by unfold maxLen; omega) (BK.out _ (btr hb1 hb2)).2 ?_))
  intro w3 ho3 hg3
  have hb3 : Below w.heap.size w w3 := (btr (btr HB.out hb1) hb2).grown hg3 (btr (btr HB.out hb1) hb2).size (fun k hk => by cases hk)
  have H3 : w3.heap[w.heap.size]? = some (.cells (tcs A l.length c has x) 24) := by
    obtain ⟨p, q⟩ := BK.out _ (btr hb1 hb2)
    exact (hg3.block _ (by omega) (by simp)).trans p
  clear hg3 x0 x1 x2 RI BT BK CF
  obtain ⟨x0, x1, x2⟩ := tcs_cells H3
  go_wp2_with fail
  go_loopw [4, 5, 25] (fun v s i W => RHead l A c has x w v s i W) (fun _ _ i _ => l.length - (intOf i).toNat)
  case atStart => exact ⟨0, Nat.zero_le _, rfl, rfl, hb3, H3, _, rfl, ho3⟩
  case round =>
    obtain ⟨k, hk, rfl, rfl, hb, H0, t, rfl, ho⟩ := hrel
    clear x0 x1 x2
    obtain ⟨x0, x1, x2⟩ := tcs_cells H0
    have hfl := rcsF_len l k
    have hbs : w.heap.size + 1 ≤ wr.heap.size := hp_lt H0
    by_cases hlt : k < l.length
    · obtain ⟨b, o, rfl, hb0, hc⟩ := HL.out.below hb (by omega)
      obtain ⟨y0, y1, y2⟩ := hc k hlt
      have tb := lm.tot_bd hg k (by omega)
      have dd := hg.day hlt
      have R : Hid (∀ ob p q v' W1, p = rat l k → q = tot l (k + 1) → W1.ownsRow (w.heap.size + 1) 44 2 v' (rcsF l k ++ [(p, q)]).length (ccs (rcsF l k ++ [(p, q)])) → (wr.alloc ob).grownBy W1 (Value.ownBlock t) →
          RHead l (some ⟨b, o, none⟩) c has x w v' (.int .i64 q) (.int .i64 ((k : Int) + 1)) W1) := fun ob p q v' W1 ep eq ho' hg' => by
        subst ep eq
        have hb4 := (bal hb ob).grown hg' (bal hb ob).size (fun j hj => by have := ho.lt j hj; omega)
        refine ⟨k + 1, by omega, rfl, rfl, hb4, ?_, v', rfl, by rw [rcsF_succ]; exact ho'⟩
        refine (hg'.block _ ?_ ?_).trans (hp_old H0 ob)
        · have := hp_lt H0; simp; omega
        · intro e; have := ho.lt _ e.symm; omega
      have HO := fun ob => Lib.hid (show (wr.alloc ob).ownsRow (w.heap.size + 1) 44 2 t (rcsF l k).length (ccs (rcsF l k)) from ho.alloc ob)
      have QT : tot l (k + 1) = tot l k + lm.st l k := rfl
      have QR : rat l k = (dy l k + 1) * 86400 + tot l k - (if lm.st l k = -1 then 1 else 0) := rfl
      have hz := hg.step hlt
      clear hc HL hg ho H0 H3 ho3 hb3
      generalize rcsF l k = L at *
      generalize rat l k = RA at *
      generalize tot l (k + 1) = S' at *
      generalize tot l k = S at *
      generalize lm.st l k = Z at *
      generalize dy l k = D at *
      generalize rl l k = r at *
      generalize hn : l.length = n at *
      rcases hz with rfl | rfl
      · have Q0 : Hid ((D + 1) * 86400 + S = RA) := by show _ = _; simp at QR; omega
        have Q1 : Hid (S + 1 = S') := by show _ = _; omega
        clear QR QT
        go_wp2_with (at_builtin; refine app_corr rfl _ _ rfl (w.heap.size + 1) _ t L _ _ _ rfl rfl (by simp) (HO _).out (by omega) (by simp; omega) ?_; intro v' w4 ho' hg4)
        exact ⟨R.out _ _ _ _ _ Q0.out Q1.out ho' hg4, by simp [intOf]; omega⟩
      · have Q0 : Hid ((D + 1) * 86400 + S - 1 = RA) := by show _ = _; simp at QR; omega
        have Q1 : Hid (S + -1 = S') := by show _ = _; omega
        clear QR QT
        go_wp2_with (at_builtin; refine app_corr rfl _ _ rfl (w.heap.size + 1) _ t L _ _ _ rfl rfl (by simp) (HO _).out (by omega) (by simp; omega) ?_; intro v' w4 ho' hg4)
        exact ⟨R.out _ _ _ _ _ Q0.out Q1.out ho' hg4, by simp [intOf]; omega⟩
    · obtain rfl : k = l.length := by omega
      have HF := recs_fit he
      have hrl := recs_len l has x
      cases has
      · have E : recs l false x = rcsF l l.length := by unfold recs; rw [if_neg (by decide)]
        have R : Hid (Recd l false x w (.returned (.tuple #[t, .bool true])) wr) := by
          rw [E] at HF
          obtain ⟨A', c', rfl, h1, h2⟩ := Crs.of_own ho HF (by omega)
          exact ⟨A', c', by rw [E], by rw [E]; exact h1, by rw [E]; exact h2, hb⟩
        clear E HF ho HL H3 ho3 hb3 H0 hrl
        generalize tot l l.length = S at *
        generalize hn : l.length = n at *
        go_wp2_with fail
        exact bodyPost_ret (v := .tuple #[t, .bool true]) (by simp [results, Tryd.results11, go_sem]) rfl R.out
      · have E : recs l true x = rcsF l l.length ++ [(x + tot l l.length, tot l l.length)] := by unfold recs; rw [if_pos rfl]
        have R : Hid (∀ v' W1, W1.ownsRow (w.heap.size + 1) 44 2 v' (rcsF l l.length ++ [(x + tot l l.length, tot l l.length)]).length (ccs (rcsF l l.length ++ [(x + tot l l.length, tot l l.length)])) → wr.grownBy W1 (Value.ownBlock t) → Recd l true x w (.returned (.tuple #[v', .bool true])) W1) := fun v' W1 ho' hg' => by
          rw [E] at HF
          simp at hrl
          rw [E] at hrl
          obtain ⟨A', c', rfl, h1, h2⟩ := Crs.of_own ho' HF (by omega)
          exact ⟨A', c', by rw [E], by rw [E]; exact h1, by rw [E]; exact h2, hb.grown hg' hb.size (fun j hj => by have := ho.lt j hj; omega)⟩
        have HO := Lib.hid ho
        have tb := lm.tot_bd hg l.length (Nat.le_refl _)
        have hx : 0 ≤ x ∧ x ≤ 253402300799 := by
          exact x_bd he
        clear E HF ho HL H3 ho3 hb3 H0 hrl
        generalize rcsF l l.length = L at *
        generalize tot l l.length = S at *
        generalize hn : l.length = n at *
        go_wp2_with (at_builtin; refine app_corr rfl _ _ rfl (w.heap.size + 1) wr t L _ _ _ rfl rfl rfl HO.out (by omega) hbs ?_; intro v' w4 ho' hg4)
        exact bodyPost_ret (v := .tuple #[v', .bool true]) (by simp [results, Tryd.results11, go_sem]) rfl (R.out _ _ ho' hg4)
end Go.Proofs.YtcikcdeihlmbcaaDoor.rec
