/-
  The document's own Records of layer 12. Condition: the slice reads as the row of leaps.
-/
import Derived.Test.YtcikcdeihlmbcaaDoorRecWrite
import Derived.Test.YtcikcdeihlmbcaaDoorRef09
namespace Go.Proofs.YtcikcdeihlmbcaaDoor.ref12
open Go.ChangeShapes Go.WideShapes Go.ChangeAt Go.RowKit
open rm mem
open lm (Lp dy tot ce)
open leap (Lps rl tcs tcs_cells)
open rec (Crs Fit ccs app_corr Recd recs_fit x_bd)
set_option linter.unusedVariables false
set_option maxRecDepth 100000

/-- at the head of a round of Records. -/
def RHead (l : List Lp) (A : Option Addr) (c : Nat) (has : Bool) (x : Int) (w : World) (v s i : Value) (W : World) : Prop :=
  ∃ k : Nat, k ≤ l.length ∧ i = .int .i64 (k : Nat) ∧ s = .int .i64 (tot l k) ∧ Below w.heap.size w W ∧ W.heap[w.heap.size]? = some (.cells (tcs A l.length c has x) 24) ∧ (∀ j, j < k → rl l j = false) ∧ ∃ t, t = v ∧ W.ownsRow (w.heap.size + 1) 44 2 t (rcsF l k).length (ccs (rcsF l k))
/-- what it answers. -/
def Recs (l : List Lp) (has : Bool) (x : Int) (w : World) (e : Ending) (w' : World) : Prop :=
  (ce l has x = 0 ∧ nr l ∧ Recd l has x w e w') ∨ (¬ (ce l has x = 0 ∧ nr l) ∧ e = .returned (.tuple #[.slice none 0 0, .bool false]) ∧ Below w.heap.size w w')
set_option maxHeartbeats 4000000 in
theorem records_at (l : List Lp) (A : Option Addr) (c : Nat) (has : Bool) (x : Int) (w : World) (h : Lps w A l) (hn : l.length ≤ 9223372036854775807) :
    Calls Tryd.prog 12 #[.agg #[.slice A l.length c, .bool has, .int .i64 x]] w (Recs l has x w) := by
  have hb0 := bal (Below.refl w.heap.size w) (.cells #[.slice A l.length c, .bool has, .int .i64 x] 24)
  have RI := Lib.hid (ref09.right_at l A c has x _ (h.below hb0) hn)
  have BT := Lib.hid (fun w1 hb => leap.box_tab w A l.length c has x (w1 := w1) hb)
  have BK := Lib.hid (fun w1 (hb : Below (w.alloc (.cells #[.slice A l.length c, .bool has, .int .i64 x] 24)).heap.size (w.alloc (.cells #[.slice A l.length c, .bool has, .int .i64 x] 24)) w1) => (show w1.heap[w.heap.size]? = some (.cells (tcs A l.length c has x) 24) from kept (hp_new w _) hb))
  have HB := Lib.hid hb0
  have HL := Lib.hid h
  clear h hb0
  by_cases he : ce l has x = 0
  · have hg := lm.good_of he
    have hlen := hg.len
    rw [show (ce l has x == 0) = true by simpa using he] at RI
    go_enter Tryd.func12, Tryd.ntmps12
    go_wp2_with (go_at_call 33; with_reducible refine (RI.out).mono ?_; rintro e w1 ⟨rfl, hb1⟩; have H1 := BK.out _ hb1; obtain ⟨x0, x1, x2⟩ := BT.out _ hb1)
    go_loopw [4, 5, 6] (fun v s i W => RHead l A c has x w v s i W) (fun _ _ i _ => l.length - (intOf i).toNat)
    case atStart => exact ⟨0, Nat.zero_le _, rfl, rfl, btr HB.out hb1, H1, fun j hj => by omega, _, rfl, ⟨rfl, Or.inl ⟨rfl, rfl⟩⟩⟩
    case round =>
      obtain ⟨k, hk, rfl, rfl, hb, H0, hok, t, rfl, ho⟩ := hrel
      clear x0 x1 x2 H1 RI BT BK
      obtain ⟨x0, x1, x2⟩ := tcs_cells H0
      have hfl := rcsF_len l k
      have hbs : w.heap.size + 1 ≤ wr.heap.size := hp_lt H0
      by_cases hlt : k < l.length
      · obtain ⟨b, o, rfl, hb0, hc⟩ := HL.out.below hb (by omega)
        obtain ⟨y0, y1, y2⟩ := hc k hlt
        cases hr : rl l k
        · rw [hr] at y2
          have tb := lm.tot_bd hg k (by omega)
          have dd := hg.day hlt
          have R : Hid (∀ ob p q v' W1, p = rat l k → q = tot l (k + 1) → W1.ownsRow (w.heap.size + 1) 44 2 v' (rcsF l k ++ [(p, q)]).length (ccs (rcsF l k ++ [(p, q)])) → (wr.alloc ob).grownBy W1 (Value.ownBlock t) →
              RHead l (some ⟨b, o, none⟩) c has x w v' (.int .i64 q) (.int .i64 ((k : Int) + 1)) W1) := fun ob p q v' W1 ep eq ho' hg' => by
            subst ep eq
            have hb4 := (bal hb ob).grown hg' (bal hb ob).size (fun j hj => by have := ho.lt j hj; omega)
            refine ⟨k + 1, by omega, rfl, rfl, hb4, ?_, fun j hj => ?_, v', rfl, by rw [rcsF_succ]; exact ho'⟩
            · refine (hg'.block _ ?_ ?_).trans (hp_old H0 ob)
              · have := hp_lt H0; simp; omega
              · intro e; have := ho.lt _ e.symm; omega
            · rcases Nat.eq_or_lt_of_le (Nat.le_of_lt_succ hj) with rfl | g
              · exact hr
              · exact hok j g
          have HO := fun ob => Lib.hid (show (wr.alloc ob).ownsRow (w.heap.size + 1) 44 2 t (rcsF l k).length (ccs (rcsF l k)) from ho.alloc ob)
          have QT : tot l (k + 1) = tot l k + lm.st l k := rfl
          have QR : rat l k = (dy l k + 1) * 86400 + tot l k - (if lm.st l k = -1 then 1 else 0) := rfl
          have hz := hg.step hlt
          clear hc HL hg ho H0 hok hr
          generalize rcsF l k = L at *
          generalize rat l k = RA at *
          generalize tot l (k + 1) = S' at *
          generalize tot l k = S at *
          generalize lm.st l k = Z at *
          generalize dy l k = D at *
          generalize hn : l.length = n at *
          rcases hz with rfl | rfl
          · have Q0 : 86400 * (D + 1) + S = RA := by simp at QR; omega
            have Q1 : Hid (S + 1 = S') := by show _ = _; omega
            have Q2 := Lib.hid Q0
            clear QR QT Q0
            go_wp2_with (at_builtin; refine app_corr rfl _ _ rfl (w.heap.size + 1) _ t L _ _ _ rfl rfl (by simp) (HO _).out (by omega) (by simp; omega) ?_; intro v' w4 ho' hg4)
            exact ⟨R.out _ _ _ _ _ Q2.out Q1.out ho' hg4, by simp [intOf]; omega⟩
          · have Q0 : 86400 * (D + 1) + S - 1 = RA := by simp at QR; omega
            have Q1 : Hid (S + -1 = S') := by show _ = _; omega
            have Q2 := Lib.hid Q0
            clear QR QT Q0
            go_wp2_with (at_builtin; refine app_corr rfl _ _ rfl (w.heap.size + 1) _ t L _ _ _ rfl rfl (by simp) (HO _).out (by omega) (by simp; omega) ?_; intro v' w4 ho' hg4)
            exact ⟨R.out _ _ _ _ _ Q2.out Q1.out ho' hg4, by simp [intOf]; omega⟩
        · rw [hr] at y2
          have R : Hid (∀ ob, Recs l has x w (.returned (.tuple #[.slice none 0 0, .bool false])) (wr.alloc ob)) := fun ob => Or.inr ⟨fun g => (by have := g.2 k hlt; rw [hr] at this; cases this), rfl, bal hb ob⟩
          clear hc HL hg ho H0 hok hr
          generalize rcsF l k = L at *
          generalize tot l k = S at *
          generalize lm.st l k = Z at *
          generalize dy l k = D at *
          generalize hn : l.length = n at *
          go_wp2_with fail
          exact bodyPost_ret (v := .tuple #[.slice none 0 0, .bool false]) (by simp [results, Tryd.results12, go_sem]) rfl (R.out _)
      · obtain rfl : k = l.length := by omega
        have HF := recs_fit he
        have hrl := recs_len l has x
        cases has
        · have E : recs l false x = rcsF l l.length := by unfold recs; rw [if_neg (by decide)]
          have R : Hid (Recs l false x w (.returned (.tuple #[t, .bool true])) wr) := by
            rw [E] at HF
            obtain ⟨A', c', rfl, h1, h2⟩ := rec.Crs.of_own ho HF (by omega)
            exact Or.inl ⟨he, hok, A', c', by rw [E], by rw [E]; exact h1, by rw [E]; exact h2, hb⟩
          clear E HF ho HL H0 hrl hok
          generalize tot l l.length = S at *
          generalize hn : l.length = n at *
          go_wp2_with fail
          exact bodyPost_ret (v := .tuple #[t, .bool true]) (by simp [results, Tryd.results12, go_sem]) rfl R.out
        · have E : recs l true x = rcsF l l.length ++ [(x + tot l l.length, tot l l.length)] := by unfold recs; rw [if_pos rfl]
          have R : Hid (∀ v' W1, W1.ownsRow (w.heap.size + 1) 44 2 v' (rcsF l l.length ++ [(x + tot l l.length, tot l l.length)]).length (ccs (rcsF l l.length ++ [(x + tot l l.length, tot l l.length)])) → wr.grownBy W1 (Value.ownBlock t) → Recs l true x w (.returned (.tuple #[v', .bool true])) W1) := fun v' W1 ho' hg' => by
            rw [E] at HF
            simp at hrl
            rw [E] at hrl
            obtain ⟨A', c', rfl, h1, h2⟩ := rec.Crs.of_own ho' HF (by omega)
            exact Or.inl ⟨he, hok, A', c', by rw [E], by rw [E]; exact h1, by rw [E]; exact h2, hb.grown hg' hb.size (fun j hj => by have := ho.lt j hj; omega)⟩
          have HO := Lib.hid ho
          have tb := lm.tot_bd hg l.length (Nat.le_refl _)
          have hx : 0 ≤ x ∧ x ≤ 253402300799 := x_bd he
          clear E HF ho HL H0 hrl hok
          generalize rcsF l l.length = L at *
          generalize tot l l.length = S at *
          generalize hn : l.length = n at *
          go_wp2_with (at_builtin; refine app_corr rfl _ _ rfl (w.heap.size + 1) wr t L _ _ _ rfl rfl rfl HO.out (by omega) hbs ?_; intro v' w4 ho' hg4)
          exact bodyPost_ret (v := .tuple #[v', .bool true]) (by simp [results, Tryd.results12, go_sem]) rfl (R.out _ _ ho' hg4)
  · rw [show (ce l has x == 0) = false by simpa using he] at RI
    have R : Hid (∀ W, Below w.heap.size w W → Recs l has x w (.returned (.tuple #[.slice none 0 0, .bool false])) W) := fun W hb => Or.inr ⟨fun g => he g.1, rfl, hb⟩
    clear he
    generalize hn : l.length = n at *
    go_enter Tryd.func12, Tryd.ntmps12
    go_wp2_with (go_at_call 33; with_reducible refine (RI.out).mono ?_; rintro e w1 ⟨rfl, hb1⟩)
    exact bodyPost_ret (v := .tuple #[.slice none 0 0, .bool false]) (by simp [results, Tryd.results12, go_sem]) rfl (R.out _ (btr HB.out hb1))
end Go.Proofs.YtcikcdeihlmbcaaDoor.ref12
