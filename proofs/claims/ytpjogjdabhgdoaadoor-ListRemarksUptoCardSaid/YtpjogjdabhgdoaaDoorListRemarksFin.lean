/-
  ListRemarks, as bounded ('upto'): empty lines and remarks, wherever they stand, change nothing but the line of a fault, for every text and remark of at most 1048576 letters together, and every number. Condition: the row's own (the listed tables hold what their initialisers lay; the card ties that).
-/
import Derived.Test.YtpjogjdabhgdoaaDoorG26
import Derived.Test.YtpjogjdabhgdoaaDoorCards
import Derived.Test.YtpjogjdabhgdoaaDoorTie
import Derived.SevenTiedAt
import Derived.Deep.DeepWitnessRowRef
namespace Go.Proofs.YtpjogjdabhgdoaaDoor.listRemarks
open Go.ChangeShapes Go.WideShapes Go.ChangeAt Go.RowKit
open list leap lm mem lx
open sx (cs)
open ls (parse rtS utS shl)
set_option linter.unusedVariables false
set_option maxRecDepth 100000

/-- at the head of a byte of the remark. -/
def RHead (r : ByteArray) (i : Value) : Prop := ∃ q : Nat, q ≤ r.size ∧ i = .int .i64 (q : Nat) ∧ ∀ j, j < q → bt r j ≠ 10
theorem no_lf {r : ByteArray} (h : ∀ j, j < r.size → bt r j ≠ 10) : ∀ c ∈ L r, c ≠ 10 := by
  intro c hc k
  subst k
  obtain ⟨j, hj, he⟩ := List.getElem_of_mem hc
  refine h j hj ?_
  unfold bt
  rw [List.getD_eq_getElem?_getD, List.getElem?_eq_getElem hj, Option.getD_some, he]
  rfl
/-- at the head of a line. -/
def THead (X : List ByteArray) (r : ByteArray) (k : Nat) (t i : Value) : Prop := ∃ q : Nat, q ≤ X.length + 1 ∧ i = .int .i64 (q : Nat) ∧ t = .string (rtS X r k q)
def UHead (X : List ByteArray) (u i : Value) : Prop := ∃ q : Nat, q ≤ X.length ∧ i = .int .i64 (q : Nat) ∧ u = .string (utS X q)
theorem eqS (a b : Int) (W : World) : (Op.equalIn 10000 31 (.agg #[.int .i64 a, .int .i64 b]) (.agg #[.int .i64 a, .int .i64 b])).run Tryd.prog W = .ok true W := by
  have := eqF a b a b W
  simpa using this
theorem eqD (f : Nat → Nat) (W : World) : (Op.equalIn 10000 41 (.agg (cs .u8 f 20)) (.agg (cs .u8 f 20))).run Tryd.prog W = .ok true W := by
  have := sha.eq20 f f W
  rw [sha.same_self] at this
  exact this
theorem bx_at3 {W : World} {x0 x1 x2 x3 : Nat × Obj} {l : List (Nat × Obj)} (h : Bx W (x0 :: x1 :: x2 :: x3 :: l)) : W.heap[x3.1]? = some x3.2 := h 3 _ rfl
theorem set_other {w : World} {g j k : Nat} {v : Value} (h : g ≠ k) : (w.setCell ⟨g, j, none⟩ v).heap[k]? = w.heap[k]? := by
  simp [World.setCell, Array.getElem?_modify, h]
/-- the four boxes behind a store into the second one. -/
theorem bx_set {W : World} {g m : Nat} {o1 o3 o4 : Obj} {a b v : Int} (h : Bx W [(m + 1, o4), (m, o3), (g + 1, .cells #[.int .i64 a, .int .i64 b] 31), (g, o1)]) (hg : g + 1 < m) :
    Bx (W.setCell ⟨g + 1, 0, none⟩ (.int .i64 v)) [(m + 1, o4), (m, o3), (g + 1, .cells #[.int .i64 v, .int .i64 b] 31), (g, o1)] := fun k p hp => by
  match k, hp with
  | 0, hp => cases hp; exact (set_other (by omega)).trans (bx_at0 h)
  | 1, hp => cases hp; exact (set_other (by omega)).trans (bx_at1 h)
  | 2, hp => cases hp; exact setCell_heap (bx_at2 h)
  | 3, hp => cases hp; exact (set_other (by omega)).trans (bx_at3 h)
theorem flt_open {W : World} {g : Nat} {a b : Int} (h : W.heap[g]? = some (.cells #[.int .i64 a, .int .i64 b] 31)) : W.frozen? ⟨g, 0, none⟩ = false := by
  simp [World.frozen?, h]
theorem lps_set {W : World} {A : Option Addr} {l : List Lp} {g : Nat} {v : Value} {a b : Int} (h : Lps W A l) (hg : W.heap[g]? = some (.cells #[.int .i64 a, .int .i64 b] 31)) : Lps (W.setCell ⟨g, 0, none⟩ v) A l := by
  intro hn
  obtain ⟨k, o, e, hlt, hc⟩ := h hn
  have hb : (W.setCell ⟨g, 0, none⟩ v).heap[k]? = W.heap[k]? := set_other fun q => by
    subst q
    have := (hc 0 (by omega)).2.2
    rw [row_cell hg] at this
    simp at this
  refine ⟨k, o, e, by simpa [World.setCell] using hlt, fun i hi => ?_⟩
  obtain ⟨c0, c1, c2⟩ := hc i hi
  exact ⟨(World.cell?_of_block (a := ⟨k, _, none⟩) hb).trans c0, (World.cell?_of_block (a := ⟨k, _, none⟩) hb).trans c1, (World.cell?_of_block (a := ⟨k, _, none⟩) hb).trans c2⟩
theorem line_le (l : List (List UInt8)) : (parse l).line ≤ l.length + 1 := by
  rcases ls.parse_right l with ⟨_, h, _⟩ | ⟨_, _, _, h, _⟩ <;> omega
theorem gap {w2 w3 : World} (a b : Obj) (hb : Below ((w2.alloc a).alloc b).heap.size ((w2.alloc a).alloc b) w3) : w2.heap.size + 1 < w3.heap.size := by
  have := hb.size
  simp at this
  omega
theorem store_below {w W : World} {g : Nat} {v : Int} (hg : w.heap.size ≤ g) (h : Below w.heap.size w W) : Below w.heap.size w (W.setCell ⟨g + 1, 0, none⟩ (.int .i64 v)) := h.setCell (by show w.heap.size ≤ g + 1; omega) _
set_option maxHeartbeats 16000000 in
theorem walk (w : World) (s r : ByteArray) (k : Int) (hs : s.size ≤ 1048576) (hr : r.size ≤ 1048576) (hk : -9223372036854775808 ≤ k ∧ k ≤ 9223372036854775807) (T : list.All w) :
    Calls Tryd.prog 5 #[.string s, .string r, .int .i64 k] w fun e w' => e = .returned (.bool true) ∧ Below w.heap.size w w' := by
  have hA : Below w.heap.size w w := Below.refl _ _
  have SM : Hid (∀ W, Below w.heap.size w W → Calls Tryd.prog 7 #[] W fun e w' => e = .returned (.bool true) ∧ Below W.heap.size W w') := fun W hb => small_at W (T.below hb)
  have SP : Hid (∀ W, Below w.heap.size w W → Calls Tryd.prog 13 #[.string s] W (lines.Told W (splitS s))) := fun W hb => lines.split_at s W (T.below hb).ml (by omega)
  unfold lines.Told at SP
  have hll := lines_len s
  by_cases g : 2000 < s.size ∨ 100 < r.size ∨ k < 0 ∨ ((splitS s).length : Int) < k
  · generalize splitS s = X at *
    clear T
    go_enter Tryd.func5, Tryd.ntmps5
    go_wp2_with (first
      | (go_at_call 7; with_reducible refine (SM.out _ hA).mono ?_; rintro e w1 ⟨rfl, hb1⟩; have hA := btr hA hb1)
      | (go_at_call 13; with_reducible refine (SP.out _ hA).mono ?_; rintro e w2 ⟨A, c, rfl, hS, ⟨hc, hfr⟩, hb2⟩; have hA := btr hA hb2))
    all_goals first
      | (exfalso; omega)
      | (go_ret; exact ⟨rfl, by assumption⟩)
  · obtain ⟨K, rfl⟩ : ∃ K : Nat, k = (K : Int) := ⟨k.toNat, by omega⟩
    have hK : K ≤ (splitS s).length := by omega
    have b1 : decide ((s.size : Int) > 2000) = false := decide_eq_false (by omega)
    have b2 : decide (2000 < (s.size : Int)) = false := decide_eq_false (by omega)
    have b3 : decide ((r.size : Int) > 100) = false := decide_eq_false (by omega)
    have b4 : decide (100 < (r.size : Int)) = false := decide_eq_false (by omega)
    have b5 : decide ((K : Int) < 0) = false := decide_eq_false (by omega)
    have b6 : decide ((K : Int) > ((splitS s).length : Int)) = false := decide_eq_false (by omega)
    have b7 : decide (((splitS s).length : Int) < (K : Int)) = false := decide_eq_false (by omega)
    have b8 : decide ((splitS s).length < K) = false := decide_eq_false (by omega)
    have BT := fun (h : ∀ c ∈ L r, c ≠ 10) => ls.both_texts (s := s) h hK
    have ZT := ls.rtS_size (s := s) r K
    have ZU := ls.utS_size (s := s)
    generalize splitS s = X at *
    go_enter Tryd.func5, Tryd.ntmps5
    go_wp2_with (first
      | (go_at_call 7; with_reducible refine (SM.out _ hA).mono ?_; rintro e w1 ⟨rfl, hb1⟩; have hA := btr hA hb1)
      | (go_at_call 13; with_reducible refine (SP.out _ hA).mono ?_; rintro e W1 ⟨A, c, rfl, hS, ⟨hc, hfr⟩, hb2⟩; have hA1 := btr hA hb2))
    clear b1 b2 b3 b4 b5 b6 b7 b8 SP SM hA hb1 hb2 hfr
    go_loop [9] (fun i => RHead r i) (fun i => r.size - (intOf i).toNat)
    case atStart => exact ⟨0, Nat.zero_le _, rfl, fun j hj => by omega⟩
    case round =>
      obtain ⟨q, hq, rfl, hno⟩ := hrel
      by_cases hlq : q < r.size
      · have b1 := bt_at r q hlq
        by_cases k10 : bt r q = 10
        · clear hno T BT ZT ZU hS
          go_wp2
          go_ret
          exact ⟨rfl, hA1⟩
        · have t1 : ((bt r q : Int) == 10) = false := by simp; omega
          have NX : Hid (RHead r (.int .i64 ((q : Int) + 1))) := ⟨q + 1, hlq, rfl, fun j hj => by
            rcases Nat.lt_or_ge j q with h | h
            · exact hno j h
            · obtain rfl : q = j := by omega
              exact k10⟩
          clear hno T BT ZT ZU hS k10
          go_wp2
          go_round
          case rel => exact NX.out
          case measure => simp [intOf] <;> omega
      · obtain rfl : q = r.size := by omega
        have BR := BT (no_lf hno)
        clear BT hno
        go_wp2
        go_loop [10, 11] (fun t i => THead X r K t i) (fun _ i => X.length + 1 - (intOf i).toNat)
        case atStart => exact ⟨0, Nat.zero_le _, rfl, by rw [← ls.rtS_zero]⟩
        case round =>
          obtain ⟨q, hq, rfl, rfl⟩ := hrel
          have z1 : (rtS X r K q).size ≤ 5000 := by have := ZT q; omega
          by_cases hin : q ≤ X.length
          · have d1 : decide ((q : Int) ≤ (X.length : Int)) = true := decide_eq_true (by omega)
            have d2 : decide (q ≤ X.length) = true := decide_eq_true hin
            by_cases hlt : q < X.length
            · obtain ⟨b, o, rfl, hgl, hcell⟩ := hS (by intro e; rw [e] at hlt; simp at hlt)
              have cx := hcell q hlt
              have d3 : decide ((q : Int) < (X.length : Int)) = true := decide_eq_true (by omega)
              have d4 : decide (q < X.length) = true := decide_eq_true hlt
              have zx := ZT (q + 1)
              by_cases hqk : q = K
              · subst hqk
                have e1 : ((q : Int) == (q : Int)) = true := by simp
                have ER := ls.rtS_here (r := r) hlt
                have z2 : X[q].size ≤ 5000 := by rw [← ER] at zx; simp at zx; omega
                have NX : Hid (THead X r q (.string (rtS X r q q ++ ⟨#[35, 32]⟩ ++ r ++ ⟨#[10, 32, 9, 10]⟩ ++ X[q] ++ ⟨#[10]⟩)) (.int .i64 ((q : Int) + 1))) := ⟨q + 1, by omega, rfl, by rw [ER]⟩
                clear hS hcell T BR ZT ZU ER zx
                generalize rtS X r q q = s1 at *
                generalize X[q] = x at *
                go_wp2
                go_round
                case rel => exact NX.out
                case measure => simp [intOf] <;> omega
              · have e1 : ((q : Int) == (K : Int)) = false := by simp; omega
                have ER := ls.rtS_less (r := r) (k := K) hlt hqk
                have z2 : X[q].size ≤ 5000 := by rw [← ER] at zx; simp at zx; omega
                have NX : Hid (THead X r K (.string (rtS X r K q ++ X[q] ++ ⟨#[10]⟩)) (.int .i64 ((q : Int) + 1))) := ⟨q + 1, by omega, rfl, by rw [ER]⟩
                clear hS hcell T BR ZT ZU ER zx
                generalize rtS X r K q = s1 at *
                generalize X[q] = x at *
                go_wp2
                go_round
                case rel => exact NX.out
                case measure => simp [intOf] <;> omega
            · obtain rfl : q = X.length := by omega
              have d3 : decide ((X.length : Int) < (X.length : Int)) = false := decide_eq_false (by omega)
              have d4 : decide (X.length < X.length) = false := decide_eq_false (by omega)
              by_cases hqk : X.length = K
              · subst hqk
                have e1 : ((X.length : Int) == (X.length : Int)) = true := by simp
                have ER := ls.rtS_last X r
                have NX : Hid (THead X r X.length (.string (rtS X r X.length X.length ++ ⟨#[35, 32]⟩ ++ r ++ ⟨#[10, 32, 9, 10]⟩)) (.int .i64 ((X.length : Int) + 1))) := ⟨X.length + 1, by omega, rfl, by rw [ER]⟩
                clear hS T BR ZT ZU ER
                generalize rtS X r X.length X.length = s1 at *
                go_wp2
                go_round
                case rel => exact NX.out
                case measure => simp [intOf] <;> omega
              · have e1 : ((X.length : Int) == (K : Int)) = false := by simp; omega
                have NX : Hid (THead X r K (.string (rtS X r K X.length)) (.int .i64 ((X.length : Int) + 1))) := ⟨X.length + 1, by omega, rfl, by rw [ls.rtS_end (by omega)]⟩
                clear hS T BR ZT ZU
                generalize rtS X r K X.length = s1 at *
                go_wp2
                go_round
                case rel => exact NX.out
                case measure => simp [intOf] <;> omega
          · obtain rfl : q = X.length + 1 := by omega
            have d1 : decide (((X.length + 1 : Nat) : Int) ≤ (X.length : Int)) = false := decide_eq_false (by omega)
            have d2 : decide (X.length + 1 ≤ X.length) = false := decide_eq_false (by omega)
            generalize hTT : rtS X r K (X.length + 1) = TT at *
            have TSZ : TT.size ≤ 5000 := by have := ZT (X.length + 1); rw [hTT] at this; omega
            go_wp2
            go_loop [12, 13] (fun u i => UHead X u i) (fun _ i => X.length - (intOf i).toNat)
            case atStart => exact ⟨0, Nat.zero_le _, rfl, rfl⟩
            case round =>
              obtain ⟨q, hq, rfl, rfl⟩ := hrel
              have z1 : (utS X q).size ≤ 5000 := by have := ZU q; omega
              by_cases hlt : q < X.length
              · obtain ⟨b, o, rfl, hgl, hcell⟩ := hS (by intro e; rw [e] at hlt; simp at hlt)
                have cx := hcell q hlt
                have d3 : decide ((q : Int) < (X.length : Int)) = true := decide_eq_true (by omega)
                have d4 : decide (q < X.length) = true := decide_eq_true hlt
                have zx := ZU (q + 1)
                have ER := ls.utS_next hlt
                have z2 : X[q].size ≤ 5000 := by rw [← ER] at zx; simp at zx; omega
                have NX : Hid (UHead X (.string (utS X q ++ X[q] ++ ⟨#[10]⟩)) (.int .i64 ((q : Int) + 1))) := ⟨q + 1, by omega, rfl, by rw [ER]⟩
                clear hS hcell T BR ZT ZU ER zx
                generalize utS X q = s1 at *
                generalize X[q] = x at *
                go_wp2
                go_round
                case rel => exact NX.out
                case measure => simp [intOf] <;> omega
              · obtain rfl : q = X.length := by omega
                have d3 : decide ((X.length : Int) < (X.length : Int)) = false := decide_eq_false (by omega)
                have d4 : decide (X.length < X.length) = false := decide_eq_false (by omega)
                generalize hUU : utS X X.length = UU at *
                obtain ⟨BP, BH⟩ := BR
                have PU : Hid (∀ W, Below w.heap.size w W → Calls Tryd.prog 10 #[.string UU] W (PTold (parse ((splitS UU).map L)) W)) := fun W hb => by
                  have T' := T.below hb
                  exact parse_at UU W T'.tabs T'.ml T'.st (by omega)
                have PT : Hid (∀ W, Below w.heap.size w W → Calls Tryd.prog 10 #[.string TT] W (PTold (parse ((splitS TT).map L)) W)) := fun W hb => by
                  have T' := T.below hb
                  exact parse_at TT W T'.tabs T'.ml T'.st (by omega)
                rw [BP] at PT
                have HU : Hid (∀ W, Below w.heap.size w W → Calls Tryd.prog 14 #[.string UU] W fun e w' => e = .returned (.agg (cs .u8 (sx.dig (sx.sumV (sha.nats (ls.hsh ((splitS UU).map L))))) 20)) ∧ Below W.heap.size W w') := fun W hb => by
                  have T' := T.below hb
                  exact hash_at UU W T'.ml T'.st (by omega)
                have HT : Hid (∀ W, Below w.heap.size w W → Calls Tryd.prog 14 #[.string TT] W fun e w' => e = .returned (.agg (cs .u8 (sx.dig (sx.sumV (sha.nats (ls.hsh ((splitS TT).map L))))) 20)) ∧ Below W.heap.size W w') := fun W hb => by
                  have T' := T.below hb
                  exact hash_at TT W T'.ml T'.st (by omega)
                rw [BH] at HT
                have LN := ls.parse_len ((splitS UU).map L)
                have LB : (parse ((splitS UU).map L)).line ≤ 10000 := by
                  have h1 := line_le ((splitS UU).map L)
                  rw [List.length_map] at h1
                  have h2 := lines_len UU
                  have h3 := ZU X.length
                  rw [hUU] at h3
                  omega
                generalize sx.dig (sx.sumV (sha.nats (ls.hsh ((splitS UU).map L)))) = DG at *
                unfold PTold tcs fcs at PU PT
                generalize parse ((splitS UU).map L) = o at *
                obtain ⟨ln, cd, lv, has, x⟩ := o
                simp only at PU PT LN LB
                have SA : Hid (∀ A A' c c' W, Lps W A lv → Lps W A' lv → Calls Tryd.prog 11 #[.agg #[.slice A lv.length c, .bool has, .int .i64 x], .agg #[.slice A' lv.length c', .bool has, .int .i64 x]] W fun e w' => e = .returned (.bool true) ∧ Below W.heap.size W w') := fun A A' c c' W h h' => by
                  have := ref09.same_at lv lv A A' c c' has has x x W h h' (by omega) (by omega)
                  rw [sm_self] at this
                  exact this
                clear BP BH ZT ZU hTT hUU T
                have ED := fun W => eqD DG W
                by_cases hsh : K < ln
                · rw [show shl K ln = ln + 2 from if_pos hsh, show ((ln + 2 : Nat) : Int) = (ln : Int) + 2 from rfl] at PT
                  have t1 : decide ((ln : Int) > (K : Int)) = true := decide_eq_true (by omega)
                  have t2 : decide ((K : Int) < (ln : Int)) = true := decide_eq_true (by omega)
                  have t3 : decide (K < ln) = true := decide_eq_true hsh
                  have EF := fun W => eqS ((ln : Int) + 2) cd W
                  go_wp2_with (first
                    | (go_at_call 10; first
                      | (with_reducible refine (PU.out _ hA1).mono ?_; rintro e w2 ⟨A1, c1, rfl, hl1, hc1, hb2⟩; have X2 := Lib.hid (fun a b => bx_two (bx_nil w2) a b); have B2 := Lib.hid (fun a b => bal (bal (btr hA1 hb2) a) b); have K2 := Lib.hid (fun a b => hl1.below (b2 w2 a b)); have hgw := Lib.hid (btr hA1 hb2).size; clear hA1 hl1)
                      | (with_reducible refine (PT.out _ (B2.out _ _)).mono ?_; rintro e w3 ⟨A2, c2, rfl, hl2, hc2, hb3⟩; have GM := Lib.hid (gap _ _ hb3); have X3 := Lib.hid (fun a b => bx_two (bx_below (X2.out _ _) hb3) a b); have B3 := Lib.hid (fun a b => bal (bal (btr (B2.out _ _) hb3) a) b); have K3 := Lib.hid (fun a b => ((K2.out _ _).below hb3).below (b2 w3 a b)); have J3 := Lib.hid (fun a b => hl2.below (b2 w3 a b)); clear hl2; have f0 := fun a b => (flt_cells (bx_at2 (X3.out a b))).1; have ff := fun a b => flt_open (bx_at2 (X3.out a b)); have S3 := Lib.hid (fun a b v => bx_set (v := v) (X3.out a b) GM.out); have SB := Lib.hid (fun a b v => store_below (g := w2.heap.size) (v := v) hgw.out (B3.out a b)); have SK := Lib.hid (fun a b v => lps_set (v := .int .i64 v) (K3.out a b) (bx_at2 (X3.out a b))); have SJ := Lib.hid (fun a b v => lps_set (v := .int .i64 v) (J3.out a b) (bx_at2 (X3.out a b))); have g0 := fun a b v => (tab_cells (bx_at3 (S3.out a b v))).1; have g1 := fun a b v => (tab_cells (bx_at3 (S3.out a b v))).2.1; have g2 := fun a b v => (tab_cells (bx_at3 (S3.out a b v))).2.2; have m0 := fun b v => (tab_cells (bx_at1 (S3.out (.cells #[.slice A2 lv.length c2, .bool has, .int .i64 x] 24) b v))).1; have m1 := fun b v => (tab_cells (bx_at1 (S3.out (.cells #[.slice A2 lv.length c2, .bool has, .int .i64 x] 24) b v))).2.1; have m2 := fun b v => (tab_cells (bx_at1 (S3.out (.cells #[.slice A2 lv.length c2, .bool has, .int .i64 x] 24) b v))).2.2))
                    | (go_at_call 11; with_reducible refine (SA.out _ _ _ _ _ (SK.out _ _ _) (SJ.out _ _ _)).mono ?_; rintro e w4 ⟨rfl, hb4⟩; have X4 := Lib.hid (bx_below (S3.out _ _ _) hb4); have B4 := Lib.hid (btr (SB.out _ _ _) hb4); obtain ⟨p0, p1⟩ := flt_cells (bx_at2 X4.out); obtain ⟨q0, q1⟩ := flt_cells (bx_at0 X4.out))
                    | (go_at_call 14; first
                      | (with_reducible refine (HT.out _ B4.out).mono ?_; rintro e w5 ⟨rfl, hb5⟩; have B5 := Lib.hid (btr B4.out hb5))
                      | (with_reducible refine (HU.out _ B5.out).mono ?_; rintro e w6 ⟨rfl, hb6⟩; have B6 := Lib.hid (btr B5.out hb6))))
                  go_ret
                  exact ⟨rfl, B6.out⟩
                · rw [show shl K ln = ln from if_neg hsh] at PT
                  have t1 : decide ((ln : Int) > (K : Int)) = false := decide_eq_false (by omega)
                  have t2 : decide ((K : Int) < (ln : Int)) = false := decide_eq_false (by omega)
                  have t3 : decide (K < ln) = false := decide_eq_false hsh
                  have EF := fun W => eqS (ln : Int) cd W
                  go_wp2_with (first
                    | (go_at_call 10; first
                      | (with_reducible refine (PU.out _ hA1).mono ?_; rintro e w2 ⟨A1, c1, rfl, hl1, hc1, hb2⟩; have X2 := Lib.hid (fun a b => bx_two (bx_nil w2) a b); have B2 := Lib.hid (fun a b => bal (bal (btr hA1 hb2) a) b); have K2 := Lib.hid (fun a b => hl1.below (b2 w2 a b)); have hgw := Lib.hid (btr hA1 hb2).size; clear hA1 hl1)
                      | (with_reducible refine (PT.out _ (B2.out _ _)).mono ?_; rintro e w3 ⟨A2, c2, rfl, hl2, hc2, hb3⟩; have GM := Lib.hid (gap _ _ hb3); have X3 := Lib.hid (fun a b => bx_two (bx_below (X2.out _ _) hb3) a b); have B3 := Lib.hid (fun a b => bal (bal (btr (B2.out _ _) hb3) a) b); have K3 := Lib.hid (fun a b => ((K2.out _ _).below hb3).below (b2 w3 a b)); have J3 := Lib.hid (fun a b => hl2.below (b2 w3 a b)); clear hl2; have f0 := fun a b => (flt_cells (bx_at2 (X3.out a b))).1; have g0 := fun a b => (tab_cells (bx_at3 (X3.out a b))).1; have g1 := fun a b => (tab_cells (bx_at3 (X3.out a b))).2.1; have g2 := fun a b => (tab_cells (bx_at3 (X3.out a b))).2.2))
                    | (go_at_call 11; with_reducible refine (SA.out _ _ _ _ _ (K3.out _ _) (J3.out _ _)).mono ?_; rintro e w4 ⟨rfl, hb4⟩; have X4 := Lib.hid (bx_below (X3.out _ _) hb4); have B4 := Lib.hid (btr (B3.out _ _) hb4); obtain ⟨p0, p1⟩ := flt_cells (bx_at2 X4.out); obtain ⟨q0, q1⟩ := flt_cells (bx_at0 X4.out))
                    | (go_at_call 14; first
                      | (with_reducible refine (HT.out _ B4.out).mono ?_; rintro e w5 ⟨rfl, hb5⟩; have B5 := Lib.hid (btr B4.out hb5))
                      | (with_reducible refine (HU.out _ B5.out).mono ?_; rintro e w6 ⟨rfl, hb6⟩; have B6 := Lib.hid (btr B5.out hb6))))
                  go_ret
                  exact ⟨rfl, B6.out⟩
theorem door_met (os : Os) (args : Array Value) : laidMetH Tryd.prog Rows.listRemarksUptoRow.laid ((World.doorLaid Tryd.prog 400 os).forCall (fun _ _ => 0) ⟨#[], args, []⟩).memory :=
  laidMetH_of_parts3 (fuel := 8) (laidMet_of_run' 8 (by kernel_rfl) (by kernel_rfl)) (by kernel_rfl) (by kernel_rfl)
theorem reads (os : Os) {H : Type} (enc : TypeId × Value → H) : ∃ places, DataW.whole enc Tryd.prog ((World.doorLaid Tryd.prog 400 os).forCall (fun _ _ => 0) ⟨#[], #[.string ByteArray.empty, .string ByteArray.empty, .int .i64 0], []⟩).memory Tryd.f5.params.toList Rows.listRemarksSpec.vars false (#[.string ByteArray.empty, .string ByteArray.empty, .int .i64 0] : Array Value).toList 8 = some ([.lit (.string []), .lit (.string []), .lit (.int .i64 0)], [], places) := ⟨[], by kernel_rfl⟩
set_option maxRecDepth 100000 in
theorem lifted (os : Os) (started : os.Started) (H : Type) (enc : TypeId × Value → H) (F : Stop.Interp) :
    ReturnsInHanded {} Tryd.checked os 5 .any ((Rows.OpenSpec.upto Rows.listRemarksSpec).preRow enc Tryd.prog Tryd.f5 Rows.listRemarksUptoRow.domain false Rows.listRemarksUptoRow.laid) (((Rows.OpenSpec.upto Rows.listRemarksSpec).at F).post enc Tryd.prog Tryd.f5 false true false false) := by
  obtain ⟨places, hx⟩ := reads os enc
  refine returnsInHanded_of_row (C := Tryd.checked) (s := (Rows.OpenSpec.upto Rows.listRemarksSpec)) law.own started (by kernel_rfl) Tryd.func5
    (witness_row_atRef (enc := enc) (C := Tryd.checked) false (World.doorLaid Tryd.prog 400 os) #[.string ByteArray.empty, .string ByteArray.empty, .int .i64 0] rfl (by kernel_rfl) (by kernel_rfl) (by kernel_rfl)
      (OpenSpec.preRow_of_cond 8 hx (by kernel_rfl) (fun k hk => by cases hk; kernel_rfl) (by kernel_rfl) (door_met os _))) ?_
  intro W base args ds gs before hval0 hW _ hk_ _ hL hsh _
  have hb_ := of_decide_eq_true (hk_ _ rfl)
  rw [MakeChecks.laidMetH_plain _ _ _ (by kernel_rfl)] at hL
  have T0 := list.all_of hL (by repeat first | exact List.Mem.head _ | refine List.Mem.tail _ ?_) (by repeat first | exact List.Mem.head _ | refine List.Mem.tail _ ?_) (by repeat first | exact List.Mem.head _ | refine List.Mem.tail _ ?_) (by repeat first | exact List.Mem.head _ | refine List.Mem.tail _ ?_) (by repeat first | exact List.Mem.head _ | refine List.Mem.tail _ ?_) hsh
  have hval : ∀ (j : Nat) t v, Tryd.f5.params[j]? = some t → args[j]? = some v → Value.okWide Tryd.prog W .any base t v := hval0
  have hW' := hW
  obtain ⟨p, q, hA0, hV, rfl, hfz, hnd⟩ := hW
  have hA : DataW.TrodAll enc Tryd.prog W 0 (fun _ => true) true Tryd.f5.params.toList args.toList ds p := hA0
  rw [Tryd.params5] at hA hval
  obtain ⟨v0, vs0, d0, ds0, p0, q0, hargs, rfl, rfl, h0, r0⟩ := trodAll_cons hA
  obtain ⟨v1, vs1, d1, ds1, p1, q1, rfl, rfl, rfl, h1, r1⟩ := trodAll_cons r0
  obtain ⟨v2, vs2, d2, ds2, p2, q2, rfl, rfl, rfl, h2, r2⟩ := trodAll_cons r1
  obtain ⟨rfl, rfl, rfl⟩ := trodAll_nil r2
  obtain rfl : args = #[v0, v1, v2] := by cases args; simp_all
  obtain ⟨rfl, rfl⟩ := trodVars_none hV
  clear hA0 hval0
  obtain ⟨a0, rfl, hd0, hp0, w0⟩ := ChangeMaps.open_string Tryd.underlying9 (hval 0 9 v0 rfl rfl) h0
  obtain ⟨a1, rfl, hd1, hp1, w1⟩ := ChangeMaps.open_string Tryd.underlying9 (hval 1 9 v1 rfl rfl) h1
  obtain ⟨a2, rfl, hd2, hp2, w2⟩ := open_int Tryd.underlying3 (hval 2 3 v2 rfl rfl) h2
  have hb2_ : Rows.uptoBulkAll [d0, d1, d2] ≤ 1048576 := by simpa using hb_
  rw [hd0, hd1, hd2] at hb2_
  simp only [Rows.uptoBulkAll, Rows.uptoBulk] at hb2_
  have s0_ : a0.size ≤ 1048576 := by have : a0.data.toList.length = a0.size := rfl; omega
  have s1_ : a1.size ≤ 1048576 := by have : a1.data.toList.length = a1.size := rfl; omega
  refine (Calls.mono (R := fun e w' => e = .returned (.bool true) ∧ Below W.heap.size W w') ?_ fun e W' ⟨he, hb⟩ => ?_)
  · exact walk W a0 a1 a2 s0_ s1_ (bounds_i64 w2) T0
  · subst he
    exact ⟨_, rfl, law.post law.laidOut (by kernel_rfl) rfl rfl Tryd.underlying4 rfl hW' hb⟩

theorem over : Rows.listRemarksUptoRow.holds Tryd.pinned (Rows.OpenSpec.upto Rows.listRemarksSpec) :=
  OpenClaim.holds_of_cond 5 Tryd.f5 rfl rfl rfl rfl rfl rfl rfl ⟨rfl, rfl, rfl, rfl, rfl⟩ rfl rfl rfl rfl rfl (by kernel_rfl) Tryd.func5 (by kernel_rfl)
    (of_decide_eq_true (by kernel_rfl)) (by unfold Func.isWrapper; first | (rw [if_pos (by decide +kernel)]; kernel_rfl) | (rw [if_neg (by decide +kernel)]; exact ⟨rfl, rfl⟩))
    (fun os started H enc _ F => by rw [OpenClaim.pre_eq_preRow]; exact lifted os started H enc F)

theorem proved : Rows.ListRemarksUptoCardSaid :=
  Claim7.holds_tied_plain_at .later [] _ _ _ _ over (fun _ h => by cases h) (by kernel_rfl) (fun _ h => by cases h) listRemarksUpto_row_tie rfl ⟨rfl, rfl⟩ (by kernel_rfl) rfl
    (fun f fn hf hfn => by
      obtain rfl : f = 5 := Option.some.inj ((show Tryd.prog.funcNamed "epact/epactlaw10.ListRemarks" = some 5 by kernel_rfl).symm.trans hf) |>.symm
      obtain rfl : fn = Tryd.f5 := (Option.some.inj (Tryd.func5.symm.trans hfn)).symm
      exact ⟨by kernel_rfl, fun j t ht => by
        have hall : (Tryd.f5.params.toList.all fun u => !Tryd.prog.wantsStandIn u) = true := by kernel_rfl
        have hm : t ∈ Tryd.f5.params.toList := by rw [Array.mem_toList_iff]; exact Array.mem_of_getElem? ht
        exact (show Tryd.prog.wantsStandIn t = false by simpa using List.all_eq_true.1 hall t hm)⟩)
    (by kernel_rfl)
end Go.Proofs.YtpjogjdabhgdoaaDoor.listRemarks
