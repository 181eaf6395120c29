/-
  ZicWords, as bounded ('upto'): great letters, more blanks, remarks and empty lines change nothing but the line of a fault, for every text and remark of at most 1048576 letters together, and every number. Condition: the row's own (the listed tables hold what their initialisers lay; the card ties that).
-/
import Derived.Test.YtajfblfkohemeaaDoorZicLaw
import Derived.Test.YtajfblfkohemeaaDoorZicWordTx
import Derived.Test.YtajfblfkohemeaaDoorRowZip
import Derived.Test.YtajfblfkohemeaaDoorCards
import Derived.Test.YtajfblfkohemeaaDoorTie
import Derived.SevenTiedAt
import Derived.Deep.DeepWitnessRowRef
namespace Go.Proofs.YtajfblfkohemeaaDoor.zicWords
open Go.ChangeShapes Go.WideShapes Go.ChangeAt Go.RowKit
open zic leap lm mem lx
open zs (parse rtS mdS shl)
set_option linter.unusedVariables false
set_option maxRecDepth 100000

/-- at the head of a byte of the remark. -/
def RHead (r : ByteArray) (i : Value) : Prop := ∃ q : Nat, q ≤ r.size ∧ i = .int .i64 (q : Nat) ∧ ∀ j, j < q → bt r j ≠ 10
theorem no_lf {r : ByteArray} (h : ∀ j, j < r.size → bt r j ≠ 10) : ∀ c ∈ L r, c ≠ 10 := by
  intro c hc k
  subst k
  obtain ⟨j, hj, he⟩ := List.getElem_of_mem hc
  refine h j hj ?_
  unfold bt
  rw [List.getD_eq_getElem?_getD, List.getElem?_eq_getElem hj, Option.getD_some, he]
  rfl
/-- at the head of a byte of the text. -/
def SHead (s : ByteArray) (i : Value) : Prop := ∃ q : Nat, q ≤ s.size ∧ i = .int .i64 (q : Nat) ∧ ∀ j, j < q → bt s j ≠ 35 ∧ bt s j ≠ 13
theorem no_rem {s : ByteArray} (h : ∀ j, j < s.size → bt s j ≠ 35 ∧ bt s j ≠ 13) : ∀ c ∈ L s, c ≠ 35 ∧ c ≠ 13 := by
  intro c hc
  obtain ⟨j, hj, he⟩ := List.getElem_of_mem hc
  have hb : bt s j = c.toNat := by
    unfold bt
    rw [List.getD_eq_getElem?_getD, List.getElem?_eq_getElem hj, Option.getD_some, he]
  have := h j hj
  rw [hb] at this
  exact ⟨fun k => this.1 (by rw [k]; rfl), fun k => this.2 (by rw [k]; rfl)⟩
/-- at the head of a line, and of a word of it. -/
def THead (X : List ByteArray) (r : ByteArray) (k : Nat) (w : World) (t i : Value) (W : World) : Prop := ∃ q : Nat, q ≤ X.length + 1 ∧ i = .int .i64 (q : Nat) ∧ t = .string (rtS X r k q) ∧ Below w.heap.size w W
def IHead (X : List ByteArray) (r : ByteArray) (k q : Nat) (Y : List ByteArray) (w : World) (t i : Value) (W : World) : Prop := ∃ n : Nat, n ≤ Y.length ∧ i = .int .i64 (n : Nat) ∧ t = .string (mdS X r k q Y n) ∧ Below w.heap.size w W
theorem thead_step {X : List ByteArray} {r : ByteArray} {k q : Nat} {w W : World} {z : ByteArray} (hq : q < X.length + 1) (e : z = rtS X r k (q + 1)) (hb : Below w.heap.size w W) : THead X r k w (.string z) (.int .i64 ((q : Int) + 1)) W := ⟨q + 1, by omega, rfl, by rw [e], hb⟩
theorem ihead_step {X : List ByteArray} {r : ByteArray} {k q : Nat} {Y : List ByteArray} {w W : World} {z : ByteArray} {n : Nat} (hn : n < Y.length) (e : z = mdS X r k q Y (n + 1)) (hb : Below w.heap.size w W) : IHead X r k q Y w (.string z) (.int .i64 ((n : Int) + 1)) W := ⟨n + 1, by omega, rfl, by rw [e], hb⟩
theorem sizes {s : ByteArray} {q : Nat} (h : q < (splitS s).length) : (splitS s)[q].size ≤ s.size := by
  have h1 := zs.spl_sum s
  have h2 : ∀ (l : List (List UInt8)) (i : Nat) (hi : i < l.length), l[i].length ≤ lx.tot l := by
    intro l
    induction l with
    | nil => intro i hi; simp at hi
    | cons a l ih =>
      intro i hi
      rw [lx.tot]
      cases i with
      | zero => simp
      | succ i =>
        have := ih i (by simpa using hi)
        simp
        omega
  have := h2 ((splitS s).map L) q (by rw [List.length_map]; exact h)
  rw [List.getElem_map, L_len] at this
  omega
theorem eqS (a b : Int) (W : World) : (Op.equalIn 10000 31 (.agg #[.int .i64 a, .int .i64 b]) (.agg #[.int .i64 a, .int .i64 b])).run Tryd.prog W = .ok true W := by
  have := eqF a b a b W
  simpa using this
theorem bx_at3 {W : World} {x0 x1 x2 x3 : Nat × Obj} {l : List (Nat × Obj)} (h : Bx W (x0 :: x1 :: x2 :: x3 :: l)) : W.heap[x3.1]? = some x3.2 := h 3 _ rfl
theorem setCell_heap {w : World} {g j : Nat} {c : Array Value} {t : TypeId} {v : Value} (h : w.heap[g]? = some (.cells c t (0, 0))) : (w.setCell ⟨g, j, none⟩ v).heap[g]? = some (.cells (c.setIfInBounds j v) t (0, 0)) := by
  simp [World.setCell, Array.getElem?_modify, h]
theorem set_other {w : World} {g j k : Nat} {v : Value} (h : g ≠ k) : (w.setCell ⟨g, j, none⟩ v).heap[k]? = w.heap[k]? := by
  simp [World.setCell, Array.getElem?_modify, h]
/-- the four boxes behind a store into the second one. -/
theorem bx_set {W : World} {g m : Nat} {o1 o3 o4 : Obj} {a b v : Int} (h : Bx W [(m + 1, o4), (m, o3), (g + 1, .cells #[.int .i64 a, .int .i64 b] 31), (g, o1)]) (hg : g + 1 < m) :
    Bx (W.setCell ⟨g + 1, 0, none⟩ (.int .i64 v)) [(m + 1, o4), (m, o3), (g + 1, .cells #[.int .i64 v, .int .i64 b] 31), (g, o1)] := fun k p hp => by
  match k, hp with
  | 0, hp => cases hp; exact (set_other (by omega)).trans (bx_at0 h)
  | 1, hp => cases hp; exact (set_other (by omega)).trans (bx_at1 h)
  | 2, hp => cases hp; exact setCell_heap (bx_at2 h)
  | 3, hp => cases hp; exact (set_other (by omega)).trans (bx_at3 h)
theorem flt_open {W : World} {g : Nat} {a b : Int} (h : W.heap[g]? = some (.cells #[.int .i64 a, .int .i64 b] 31)) : W.frozen? ⟨g, 0, none⟩ = false := by
  simp [World.frozen?, h]
theorem lps_set {W : World} {A : Option Addr} {l : List Lp} {g : Nat} {v : Value} {a b : Int} (h : Lps W A l) (hg : W.heap[g]? = some (.cells #[.int .i64 a, .int .i64 b] 31)) : Lps (W.setCell ⟨g, 0, none⟩ v) A l := by
  intro hn
  obtain ⟨k, o, e, hlt, hc⟩ := h hn
  have hb : (W.setCell ⟨g, 0, none⟩ v).heap[k]? = W.heap[k]? := set_other fun q => by
    subst q
    have := (hc 0 (by omega)).2.2
    rw [row_cell hg] at this
    simp at this
  refine ⟨k, o, e, by simpa [World.setCell] using hlt, fun i hi => ?_⟩
  obtain ⟨c0, c1, c2⟩ := hc i hi
  exact ⟨(World.cell?_of_block (a := ⟨k, _, none⟩) hb).trans c0, (World.cell?_of_block (a := ⟨k, _, none⟩) hb).trans c1, (World.cell?_of_block (a := ⟨k, _, none⟩) hb).trans c2⟩
theorem line_le (l : List (List (List UInt8))) : (parse l).line ≤ l.length + 1 := by
  rcases zs.parse_right l with ⟨_, h, _⟩ | ⟨_, _, _, h, _⟩ <;> omega
theorem gap {w2 w3 : World} (a b : Obj) (hb : Below ((w2.alloc a).alloc b).heap.size ((w2.alloc a).alloc b) w3) : w2.heap.size + 1 < w3.heap.size := by
  have := hb.size
  simp at this
  omega
theorem store_below {w W : World} {g : Nat} {v : Int} (hg : w.heap.size ≤ g) (h : Below w.heap.size w W) : Below w.heap.size w (W.setCell ⟨g + 1, 0, none⟩ (.int .i64 v)) := h.setCell (by show w.heap.size ≤ g + 1; omega) _
set_option maxHeartbeats 16000000 in
theorem walk (w : World) (s r : ByteArray) (k : Int) (hs : s.size ≤ 1048576) (hr : r.size ≤ 1048576) (hk : -9223372036854775808 ≤ k ∧ k ≤ 9223372036854775807) (T : zic.All w) :
    Calls Tryd.prog 5 #[.string s, .string r, .int .i64 k] w fun e w' => e = .returned (.bool true) ∧ Below w.heap.size w w' := by
  have hA : Below w.heap.size w w := Below.refl _ _
  have SM : Hid (∀ W, Below w.heap.size w W → Calls Tryd.prog 7 #[] W fun e w' => e = .returned (.bool true) ∧ Below W.heap.size W w') := fun W hb => zic.small_at W (T.below hb)
  have SP : Hid (∀ W, Below w.heap.size w W → Calls Tryd.prog 13 #[.string s] W (lines.Told W (splitS s))) := fun W hb => lines.split_at s W (T.below hb).ml (by omega)
  unfold lines.Told at SP
  have hll := zic.lines_len s
  by_cases g : 2000 < s.size ∨ 100 < r.size ∨ k < 0 ∨ ((splitS s).length : Int) < k
  · generalize splitS s = X at *
    clear T
    go_enter Tryd.func5, Tryd.ntmps5
    go_wp2_with (first
      | (go_at_call 7; with_reducible refine (SM.out _ hA).mono ?_; rintro e w1 ⟨rfl, hb1⟩; have hA := btr hA hb1)
      | (go_at_call 13; with_reducible refine (SP.out _ hA).mono ?_; rintro e w2 ⟨A, c, rfl, hS, ⟨hc, hfr⟩, hb2⟩; have hA := btr hA hb2))
    all_goals first
      | (exfalso; omega)
      | (go_ret; exact ⟨rfl, by assumption⟩)
  · obtain ⟨K, rfl⟩ : ∃ K : Nat, k = (K : Int) := ⟨k.toNat, by omega⟩
    have hK : K ≤ (splitS s).length := by omega
    have b1 : decide ((s.size : Int) > 2000) = false := decide_eq_false (by omega)
    have b2 : decide (2000 < (s.size : Int)) = false := decide_eq_false (by omega)
    have b3 : decide ((r.size : Int) > 100) = false := decide_eq_false (by omega)
    have b4 : decide (100 < (r.size : Int)) = false := decide_eq_false (by omega)
    have b5 : decide ((K : Int) < 0) = false := decide_eq_false (by omega)
    have b6 : decide ((K : Int) > ((splitS s).length : Int)) = false := decide_eq_false (by omega)
    have b7 : decide (((splitS s).length : Int) < (K : Int)) = false := decide_eq_false (by omega)
    have b8 : decide ((splitS s).length < K) = false := decide_eq_false (by omega)
    have BT := Lib.hid (fun (hs : ∀ c ∈ L s, c ≠ 35 ∧ c ≠ 13) (h : ∀ c ∈ L r, c ≠ 10) => zs.both_texts (s := s) hs h hK)
    have ZT := Lib.hid (fun i => zs.rtS_size (s := s) r K i)
    have ZM := Lib.hid (fun q h n => zs.mdS_size (s := s) (r := r) (k := K) (q := q) h n)
    have ZX := Lib.hid (fun q h => sizes (s := s) (q := q) h)
    have hlx : (splitS s).length ≤ 2000 := by omega
    have hPX : (splitS s).map zic.wl = (splitS s).map fun x => zs.lw (L x) := rfl
    generalize hXX : splitS s = X at *
    have HXX := Lib.hid hXX
    clear hXX
    go_enter Tryd.func5, Tryd.ntmps5
    go_wp2_with (first
      | (go_at_call 7; with_reducible refine (SM.out _ hA).mono ?_; rintro e w1 ⟨rfl, hb1⟩; have hA := btr hA hb1)
      | (go_at_call 13; with_reducible refine (SP.out _ hA).mono ?_; rintro e W1 ⟨A, c, rfl, hS, ⟨hc, hfr⟩, hb2⟩; have hA1 := Lib.hid (btr hA hb2)))
    have HS := Lib.hid hS
    clear b1 b2 b3 b4 b5 b6 b7 b8 SP SM hA hb1 hb2 hfr hS
    go_loop [9] (fun i => RHead r i) (fun i => r.size - (intOf i).toNat)
    case atStart => exact ⟨0, Nat.zero_le _, rfl, fun j hj => by omega⟩
    case round =>
      obtain ⟨q, hq, rfl, hno⟩ := hrel
      by_cases hlq : q < r.size
      · have b1 := bt_at r q hlq
        by_cases k10 : bt r q = 10
        · have OUT := Lib.hid hA1.out
          clear hno T hPX
          go_wp2
          go_ret
          exact ⟨rfl, OUT.out⟩
        · have t1 : ((bt r q : Int) == 10) = false := by simp; omega
          have NX : Hid (RHead r (.int .i64 ((q : Int) + 1))) := ⟨q + 1, hlq, rfl, fun j hj => by
            rcases Nat.lt_or_ge j q with h | h
            · exact hno j h
            · obtain rfl : q = j := by omega
              exact k10⟩
          clear hno T hPX k10
          go_wp2
          go_round
          case rel => exact NX.out
          case measure => simp [intOf] <;> omega
      · obtain rfl : q = r.size := by omega
        have NR := Lib.hid (no_lf hno)
        clear hno
        go_wp2
        go_loopw [10, 11] (fun t i W => THead X r K W1 t i W) (fun _ i _ => X.length + 1 - (intOf i).toNat)
        case atStart => exact ⟨0, Nat.zero_le _, rfl, by rw [← zs.rtS_zero], Below.refl _ _⟩
        case round =>
          obtain ⟨q, hq, rfl, rfl, hbw⟩ := hrel
          have z1 : (rtS X r K q).size ≤ 9000 := by have := ZT.out q; omega
          by_cases hin : q ≤ X.length
          · have d1 : decide ((q : Int) ≤ (X.length : Int)) = true := decide_eq_true (by omega)
            have d2 : decide (q ≤ X.length) = true := decide_eq_true hin
            by_cases hlt : q < X.length
            · obtain ⟨b, o, rfl, hgl, hcell⟩ := HS.out (by intro e; rw [e] at hlt; simp at hlt)
              have cx : wr.cell? ⟨b, o + q, none⟩ = some (.string X[q]) := (hbw.cell (p := ⟨b, o + q, none⟩) hgl).trans (hcell q hlt)
              have zx : X[q].size ≤ 2000 := by have := ZX.out q hlt; omega
              have d3 : decide ((q : Int) < (X.length : Int)) = true := decide_eq_true (by omega)
              have d4 : decide (q < X.length) = true := decide_eq_true hlt
              have WD : Hid (∀ W, Calls Tryd.prog 14 #[.string X[q]] W (lines.Told W (wordsS X[q]))) := fun W => lines.words_at X[q] W (by omega)
              unfold lines.Told at WD
              have ME := Lib.hid (zs.md_end (X := X) (r := r) (k := K) hlt)
              have MN := Lib.hid (fun n (h : n < (wordsS X[q]).length) => zs.md_next (X := X) (r := r) (k := K) (q := q) h)
              have MZ : Hid (∀ n, (mdS X r K q (wordsS X[q]) n).size ≤ 9000) := fun n => by have := ZM.out q hlt n; omega
              have hyl : (wordsS X[q]).length ≤ 2000 := by
                unfold wordsS
                rw [List.length_map]
                have := wds_len (L X[q]) []
                rw [List.length_nil, L_len] at this
                omega
              have hql : q < X.length + 1 := by omega
              have HB := Lib.hid hbw
              have SS : Hid (((q : Int) == (K : Int)) = true ∧ rtS X r K q ++ ⟨#[32, 35]⟩ ++ r ++ ⟨#[10]⟩ = mdS X r K q (wordsS X[q]) 0) ∨ Hid (((q : Int) == (K : Int)) = false ∧ rtS X r K q = mdS X r K q (wordsS X[q]) 0) := by
                by_cases e : q = K
                · subst e
                  exact .inl ⟨by simp, zs.md_here X r q _⟩
                · exact .inr ⟨by simp; omega, zs.md_less _ e⟩
              clear hcell T ZT ZM ZX hPX hbw HS hgl
              generalize rtS X r K q = s1 at *
              generalize wordsS X[q] = Y at *
              generalize X[q] = x at *
              rcases SS with SS | SS
              all_goals
                have e1 := SS.out.1
                have MS := Lib.hid SS.out.2
                clear SS
                go_wp2_with (go_at_call 14; with_reducible refine (WD.out _).mono ?_; rintro e W2 ⟨A2, c2, rfl, hY, ⟨hc2, hfr2⟩, hb3⟩; have HB2 := Lib.hid (btr HB.out hb3); have HY := Lib.hid hY; clear hY hfr2 hb3)
                clear WD cx e1 d3 d4
                go_loopw [10, 13] (fun t n W => IHead X r K q Y W2 t n W) (fun _ n _ => Y.length - (intOf n).toNat)
                case atStart => exact ⟨0, Nat.zero_le _, rfl, congrArg Value.string MS.out, Below.refl _ _⟩
                case round =>
                  obtain ⟨n, hn, rfl, rfl, hbi⟩ := hrel
                  have z3 := MZ.out n
                  clear MS z1
                  by_cases hlY : n < Y.length
                  · obtain ⟨bb, oo, rfl, hgy, hcy⟩ := HY.out (by intro e; rw [e] at hlY; simp at hlY)
                    have cy : wr.cell? ⟨bb, oo + n, none⟩ = some (.string Y[n]) := (hbi.cell (p := ⟨bb, oo + n, none⟩) hgy).trans (hcy n hlY)
                    have d3 : decide ((n : Int) < (Y.length : Int)) = true := decide_eq_true (by omega)
                    have d4 : decide (n < Y.length) = true := decide_eq_true hlY
                    have ER := MN.out n hlY
                    have z4 : (foldS Y[n]).size ≤ 9000 := by
                      have := MZ.out (n + 1)
                      rw [← ER] at this
                      simp at this
                      omega
                    have z5 : Y[n].size ≤ 9000 := by rw [fold_size] at z4; exact z4
                    have FO : Hid (∀ W, Calls Tryd.prog 15 #[.string Y[n]] W fun e w' => e = .returned (.string (foldS Y[n])) ∧ Below W.heap.size W w') := fun W => lines.fold_at Y[n] W (by omega)
                    have NX := Lib.hid (fun W (hb : Below W2.heap.size W2 W) => ihead_step (X := X) (r := r) (k := K) (q := q) hlY ER hb)
                    have HBI := Lib.hid hbi
                    clear hcy hbi hgy ER MN ME MZ HY
                    generalize mdS X r K q Y n = s2 at *
                    generalize foldS Y[n] = s3 at *
                    generalize Y[n] = y at *
                    go_wp2_with (go_at_call 15; with_reducible refine (FO.out _).mono ?_; rintro e W3 ⟨rfl, hb4⟩; have HB4 := Lib.hid (btr HBI.out hb4))
                    go_roundw
                    case rel => exact NX.out _ HB4.out
                    case measure => simp [intOf] <;> omega
                  · obtain rfl : n = Y.length := by omega
                    have d3 : decide ((Y.length : Int) < (Y.length : Int)) = false := decide_eq_false (by omega)
                    have d4 : decide (Y.length < Y.length) = false := decide_eq_false (by omega)
                    have NX := Lib.hid (thead_step hql ME.out (btr HB2.out hbi))
                    clear hbi ME MN MZ HY
                    generalize mdS X r K q Y Y.length = s2 at *
                    go_wp2
                    go_roundw
                    case rel => exact NX.out
                    case measure => simp [intOf] <;> omega
            · obtain rfl : q = X.length := by omega
              have d3 : decide ((X.length : Int) < (X.length : Int)) = false := decide_eq_false (by omega)
              have d4 : decide (X.length < X.length) = false := decide_eq_false (by omega)
              by_cases hqk : X.length = K
              · have e1 : ((X.length : Int) == (K : Int)) = true := beq_iff_eq.2 (by omega)
                have NX := Lib.hid (thead_step (X := X) (r := r) (k := K) (q := X.length) (z := rtS X r K X.length ++ ⟨#[32, 35]⟩ ++ r ++ ⟨#[10]⟩) (by omega) (by rw [← hqk]; exact zs.rtS_last X r) hbw)
                clear hbw T ZT ZM ZX hPX HS hqk
                generalize rtS X r K X.length = s1 at *
                go_wp2
                go_roundw
                case rel => exact NX.out
                case measure => simp [intOf] <;> omega
              · have e1 : ((X.length : Int) == (K : Int)) = false := by simp; omega
                have NX := Lib.hid (thead_step (X := X) (r := r) (k := K) (q := X.length) (by omega) (zs.rtS_end (by omega)) hbw)
                clear hbw T ZT ZM ZX hPX HS hqk
                generalize rtS X r K X.length = s1 at *
                go_wp2
                go_roundw
                case rel => exact NX.out
                case measure => simp [intOf] <;> omega
          · obtain rfl : q = X.length + 1 := by omega
            have d1 : decide (((X.length + 1 : Nat) : Int) ≤ (X.length : Int)) = false := decide_eq_false (by omega)
            have d2 : decide (X.length + 1 ≤ X.length) = false := decide_eq_false (by omega)
            have BR := Lib.hid (fun hs => BT.out hs NR.out)
            have HB := Lib.hid (btr hA1.out hbw)
            have ZTT := ZT.out (X.length + 1)
            clear BT NR hA1 hbw HS ZT ZM
            generalize hTT : rtS X r K (X.length + 1) = TT at *
            have TSZ : TT.size ≤ 9000 := by omega
            clear hTT
            go_wp2
            go_loop [14] (fun i => SHead s i) (fun i => s.size - (intOf i).toNat)
            case atStart => exact ⟨0, Nat.zero_le _, rfl, fun j hj => by omega⟩
            case round =>
              obtain ⟨q, hq, rfl, hno⟩ := hrel
              by_cases hlq : q < s.size
              · have b1 := bt_at s q hlq
                by_cases k35 : bt s q = 35
                · have t1 : ((bt s q : Int) == 35) = true := by simp; omega
                  clear hno T hPX k35 z1
                  go_wp2
                  go_ret
                  exact ⟨rfl, HB.out⟩
                · have t1 : ((bt s q : Int) == 35) = false := by simp; omega
                  by_cases k13 : bt s q = 13
                  · have t2 : ((bt s q : Int) == 13) = true := by simp; omega
                    clear hno T hPX k35 k13 z1
                    go_wp2
                    go_ret
                    exact ⟨rfl, HB.out⟩
                  · have t2 : ((bt s q : Int) == 13) = false := by simp; omega
                    have NX : Hid (SHead s (.int .i64 ((q : Int) + 1))) := ⟨q + 1, hlq, rfl, fun j hj => by
                      rcases Nat.lt_or_ge j q with h | h
                      · exact hno j h
                      · obtain rfl : q = j := by omega
                        exact ⟨k35, k13⟩⟩
                    clear hno T hPX k35 k13 z1
                    go_wp2
                    go_round
                    case rel => exact NX.out
                    case measure => simp [intOf] <;> omega
              · obtain rfl : q = s.size := by omega
                have BP := BR.out (no_rem hno)
                have PU : Hid (∀ W, Below w.heap.size w W → Calls Tryd.prog 11 #[.string s] W (zic.PTold (parse (X.map zic.wl)) W)) := fun W hb => by
                  have T' := T.below hb
                  have := zic.parse_at s W T'.tabs T'.ml T'.nm (by omega)
                  rw [HXX.out] at this
                  exact this
                have PT : Hid (∀ W, Below w.heap.size w W → Calls Tryd.prog 11 #[.string TT] W (zic.PTold (parse ((splitS TT).map zic.wl)) W)) := fun W hb => by
                  have T' := T.below hb
                  exact zic.parse_at TT W T'.tabs T'.ml T'.nm (by omega)
                have BP : parse ((splitS TT).map zic.wl) = { parse (X.map zic.wl) with line := shl K (parse (X.map zic.wl)).line } := BP
                rw [BP] at PT
                have LN : (parse (X.map zic.wl)).lv.length ≤ 200 := by
                  rcases zs.parse_right (X.map zic.wl) with ⟨_, _, h⟩ | ⟨_, _, _, _, h, _⟩
                  · exact (lm.good_of h).len
                  · rw [h]; simp
                have LB : (parse (X.map zic.wl)).line ≤ 10000 := by
                  have h1 := line_le (X.map zic.wl)
                  rw [List.length_map] at h1
                  omega
                unfold zic.PTold tcs zic.fcs at PU PT
                generalize parse (X.map zic.wl) = o at *
                obtain ⟨ln, cd, lv, has, x⟩ := o
                simp only at PU PT LN LB
                have SA : Hid (∀ A A' c c' W, Lps W A lv → Lps W A' lv → Calls Tryd.prog 12 #[.agg #[.slice A lv.length c, .bool has, .int .i64 x], .agg #[.slice A' lv.length c', .bool has, .int .i64 x]] W fun e w' => e = .returned (.bool true) ∧ Below W.heap.size W w') := fun A A' c c' W h h' => by
                  have := ref09.same_at lv lv A A' c c' has has x x W h h' (by omega) (by omega)
                  rw [sm_self] at this
                  exact this
                have hA1 := HB.out
                clear BP BR ZTT T hPX z1 HXX hno HB
                by_cases hsh : K < ln
                · rw [show shl K ln = ln + 1 from if_pos hsh, show ((ln + 1 : Nat) : Int) = (ln : Int) + 1 from rfl] at PT
                  have t1 : decide ((ln : Int) > (K : Int)) = true := decide_eq_true (by omega)
                  have t2 : decide ((K : Int) < (ln : Int)) = true := decide_eq_true (by omega)
                  have t3 : decide (K < ln) = true := decide_eq_true hsh
                  have EF := fun W => eqS ((ln : Int) + 1) cd W
                  go_wp2_with (first
                    | (go_at_call 11; first
                      | (with_reducible refine (PU.out _ hA1).mono ?_; rintro e w2 ⟨A1, c1, rfl, hl1, hc1, hb2⟩; have X2 := Lib.hid (fun a b => bx_two (bx_nil w2) a b); have B2 := Lib.hid (fun a b => bal (bal (btr hA1 hb2) a) b); have K2 := Lib.hid (fun a b => hl1.below (b2 w2 a b)); have hgw := Lib.hid (btr hA1 hb2).size; clear hA1 hl1)
                      | (with_reducible refine (PT.out _ (B2.out _ _)).mono ?_; rintro e w3 ⟨A2, c2, rfl, hl2, hc2, hb3⟩; have GM := Lib.hid (gap _ _ hb3); have X3 := Lib.hid (fun a b => bx_two (bx_below (X2.out _ _) hb3) a b); have B3 := Lib.hid (fun a b => bal (bal (btr (B2.out _ _) hb3) a) b); have K3 := Lib.hid (fun a b => ((K2.out _ _).below hb3).below (b2 w3 a b)); have J3 := Lib.hid (fun a b => hl2.below (b2 w3 a b)); clear hl2; have f0 := fun a b => (flt_cells (bx_at2 (X3.out a b))).1; have ff := fun a b => flt_open (bx_at2 (X3.out a b)); have S3 := Lib.hid (fun a b v => bx_set (v := v) (X3.out a b) GM.out); have SB := Lib.hid (fun a b v => store_below (g := w2.heap.size) (v := v) hgw.out (B3.out a b)); have SK := Lib.hid (fun a b v => lps_set (v := .int .i64 v) (K3.out a b) (bx_at2 (X3.out a b))); have SJ := Lib.hid (fun a b v => lps_set (v := .int .i64 v) (J3.out a b) (bx_at2 (X3.out a b))); have g0 := fun a b v => (tab_cells (bx_at3 (S3.out a b v))).1; have g1 := fun a b v => (tab_cells (bx_at3 (S3.out a b v))).2.1; have g2 := fun a b v => (tab_cells (bx_at3 (S3.out a b v))).2.2; have m0 := fun b v => (tab_cells (bx_at1 (S3.out (.cells #[.slice A2 lv.length c2, .bool has, .int .i64 x] 24) b v))).1; have m1 := fun b v => (tab_cells (bx_at1 (S3.out (.cells #[.slice A2 lv.length c2, .bool has, .int .i64 x] 24) b v))).2.1; have m2 := fun b v => (tab_cells (bx_at1 (S3.out (.cells #[.slice A2 lv.length c2, .bool has, .int .i64 x] 24) b v))).2.2))
                    | (go_at_call 12; with_reducible refine (SA.out _ _ _ _ _ (SK.out _ _ _) (SJ.out _ _ _)).mono ?_; rintro e w4 ⟨rfl, hb4⟩; have X4 := Lib.hid (bx_below (S3.out _ _ _) hb4); have B4 := Lib.hid (btr (SB.out _ _ _) hb4); obtain ⟨p0, p1⟩ := flt_cells (bx_at2 X4.out); obtain ⟨q0, q1⟩ := flt_cells (bx_at0 X4.out)))
                  go_ret
                  exact ⟨rfl, B4.out⟩
                · rw [show shl K ln = ln from if_neg hsh] at PT
                  have t1 : decide ((ln : Int) > (K : Int)) = false := decide_eq_false (by omega)
                  have t2 : decide ((K : Int) < (ln : Int)) = false := decide_eq_false (by omega)
                  have t3 : decide (K < ln) = false := decide_eq_false hsh
                  have EF := fun W => eqS (ln : Int) cd W
                  go_wp2_with (first
                    | (go_at_call 11; first
                      | (with_reducible refine (PU.out _ hA1).mono ?_; rintro e w2 ⟨A1, c1, rfl, hl1, hc1, hb2⟩; have X2 := Lib.hid (fun a b => bx_two (bx_nil w2) a b); have B2 := Lib.hid (fun a b => bal (bal (btr hA1 hb2) a) b); have K2 := Lib.hid (fun a b => hl1.below (b2 w2 a b)); have hgw := Lib.hid (btr hA1 hb2).size; clear hA1 hl1)
                      | (with_reducible refine (PT.out _ (B2.out _ _)).mono ?_; rintro e w3 ⟨A2, c2, rfl, hl2, hc2, hb3⟩; have GM := Lib.hid (gap _ _ hb3); have X3 := Lib.hid (fun a b => bx_two (bx_below (X2.out _ _) hb3) a b); have B3 := Lib.hid (fun a b => bal (bal (btr (B2.out _ _) hb3) a) b); have K3 := Lib.hid (fun a b => ((K2.out _ _).below hb3).below (b2 w3 a b)); have J3 := Lib.hid (fun a b => hl2.below (b2 w3 a b)); clear hl2; have f0 := fun a b => (flt_cells (bx_at2 (X3.out a b))).1; have g0 := fun a b => (tab_cells (bx_at3 (X3.out a b))).1; have g1 := fun a b => (tab_cells (bx_at3 (X3.out a b))).2.1; have g2 := fun a b => (tab_cells (bx_at3 (X3.out a b))).2.2))
                    | (go_at_call 12; with_reducible refine (SA.out _ _ _ _ _ (K3.out _ _) (J3.out _ _)).mono ?_; rintro e w4 ⟨rfl, hb4⟩; have X4 := Lib.hid (bx_below (X3.out _ _) hb4); have B4 := Lib.hid (btr (B3.out _ _) hb4); obtain ⟨p0, p1⟩ := flt_cells (bx_at2 X4.out); obtain ⟨q0, q1⟩ := flt_cells (bx_at0 X4.out)))
                  go_ret
                  exact ⟨rfl, B4.out⟩
theorem reads (os : Os) {H : Type} (enc : TypeId × Value → H) : ∃ places, DataW.whole enc Tryd.prog ((World.laidAll Tryd.prog os Rows.zicWordsUptoRow.laid).forCall (fun _ _ => 0) ⟨#[], #[.string ByteArray.empty, .string ByteArray.empty, .int .i64 0], []⟩).memory Tryd.f5.params.toList Rows.zicWordsSpec.vars false (#[.string ByteArray.empty, .string ByteArray.empty, .int .i64 0] : Array Value).toList 8 = some ([.lit (.string []), .lit (.string []), .lit (.int .i64 0)], [], places) := ⟨[], by kernel_rfl⟩
set_option maxRecDepth 100000 in
theorem lifted (os : Os) (started : os.Started) (H : Type) (enc : TypeId × Value → H) (F : Stop.Interp) :
    ReturnsInHanded {} Tryd.checked os 5 .any ((Rows.OpenSpec.upto Rows.zicWordsSpec).preRow enc Tryd.prog Tryd.f5 Rows.zicWordsUptoRow.domain false Rows.zicWordsUptoRow.laid) (((Rows.OpenSpec.upto Rows.zicWordsSpec).at F).post enc Tryd.prog Tryd.f5 false true false false) := by
  obtain ⟨places, hx⟩ := reads os enc
  refine returnsInHanded_of_row (C := Tryd.checked) (s := (Rows.OpenSpec.upto Rows.zicWordsSpec)) law.own started (by kernel_rfl) Tryd.func5
    (rowzip.witness_row_zip (enc := enc) (C := Tryd.checked) false (World.laidAll Tryd.prog os Rows.zicWordsUptoRow.laid) #[.string ByteArray.empty, .string ByteArray.empty, .int .i64 0] (World.laidAll_os _ _ _) (World.shaped_of_ZipB (by kernel_rfl) (by kernel_rfl)) (by kernel_rfl)
      (OpenSpec.preRow_of_cond 8 hx (by kernel_rfl) (fun k hk => by cases hk; kernel_rfl) (by kernel_rfl) (by rw [MakeChecks.laidMetH_plain _ _ _ (by kernel_rfl)]; exact laidMet_laidAll _ (by kernel_rfl) (by kernel_rfl)))) ?_
  intro W base args ds gs before hval0 hW _ hk_ _ hL hsh _
  have hb_ := of_decide_eq_true (hk_ _ rfl)
  rw [MakeChecks.laidMetH_plain _ _ _ (by kernel_rfl)] at hL
  have T0 := zic.all_of hL (by repeat first | exact List.Mem.head _ | refine List.Mem.tail _ ?_) (by repeat first | exact List.Mem.head _ | refine List.Mem.tail _ ?_) (by repeat first | exact List.Mem.head _ | refine List.Mem.tail _ ?_) (by repeat first | exact List.Mem.head _ | refine List.Mem.tail _ ?_) hsh
  have hval : ∀ (j : Nat) t v, Tryd.f5.params[j]? = some t → args[j]? = some v → Value.okWide Tryd.prog W .any base t v := hval0
  have hW' := hW
  obtain ⟨p, q, hA0, hV, rfl, hfz, hnd⟩ := hW
  have hA : DataW.TrodAll enc Tryd.prog W 0 (fun _ => true) true Tryd.f5.params.toList args.toList ds p := hA0
  rw [Tryd.params5] at hA hval
  obtain ⟨v0, vs0, d0, ds0, p0, q0, hargs, rfl, rfl, h0, r0⟩ := trodAll_cons hA
  obtain ⟨v1, vs1, d1, ds1, p1, q1, rfl, rfl, rfl, h1, r1⟩ := trodAll_cons r0
  obtain ⟨v2, vs2, d2, ds2, p2, q2, rfl, rfl, rfl, h2, r2⟩ := trodAll_cons r1
  obtain ⟨rfl, rfl, rfl⟩ := trodAll_nil r2
  obtain rfl : args = #[v0, v1, v2] := by cases args; simp_all
  obtain ⟨rfl, rfl⟩ := trodVars_none hV
  clear hA0 hval0
  obtain ⟨a0, rfl, hd0, hp0, w0⟩ := ChangeMaps.open_string Tryd.underlying9 (hval 0 9 v0 rfl rfl) h0
  obtain ⟨a1, rfl, hd1, hp1, w1⟩ := ChangeMaps.open_string Tryd.underlying9 (hval 1 9 v1 rfl rfl) h1
  obtain ⟨a2, rfl, hd2, hp2, w2⟩ := open_int Tryd.underlying3 (hval 2 3 v2 rfl rfl) h2
  have hb2_ : Rows.uptoBulkAll [d0, d1, d2] ≤ 1048576 := by simpa using hb_
  rw [hd0, hd1, hd2] at hb2_
  simp only [Rows.uptoBulkAll, Rows.uptoBulk] at hb2_
  have s0_ : a0.size ≤ 1048576 := by have : a0.data.toList.length = a0.size := rfl; omega
  have s1_ : a1.size ≤ 1048576 := by have : a1.data.toList.length = a1.size := rfl; omega
  refine (Calls.mono (R := fun e w' => e = .returned (.bool true) ∧ Below W.heap.size W w') ?_ fun e W' ⟨he, hb⟩ => ?_)
  · exact walk W a0 a1 a2 s0_ s1_ (bounds_i64 w2) T0
  · subst he
    exact ⟨_, rfl, law.post law.laidOut (by kernel_rfl) rfl rfl Tryd.underlying4 rfl hW' hb⟩

theorem over : Rows.zicWordsUptoRow.holds Tryd.pinned (Rows.OpenSpec.upto Rows.zicWordsSpec) :=
  OpenClaim.holds_of_cond 5 Tryd.f5 rfl rfl rfl rfl rfl rfl rfl ⟨rfl, rfl, rfl, rfl, rfl⟩ rfl rfl rfl rfl rfl (by kernel_rfl) Tryd.func5 (by kernel_rfl)
    (of_decide_eq_true (by kernel_rfl)) (by unfold Func.isWrapper; first | (rw [if_pos (by decide +kernel)]; kernel_rfl) | (rw [if_neg (by decide +kernel)]; exact ⟨rfl, rfl⟩))
    (fun os started H enc _ F => by rw [OpenClaim.pre_eq_preRow]; exact lifted os started H enc F)

theorem proved : Rows.ZicWordsUptoCardSaid :=
  Claim7.holds_tied_plain_at .later [] _ _ _ _ over (fun _ h => by cases h) (by kernel_rfl) (fun _ h => by cases h) zicWordsUpto_row_tie rfl ⟨rfl, rfl⟩ (by kernel_rfl) rfl
    (fun f fn hf hfn => by
      obtain rfl : f = 5 := Option.some.inj ((show Tryd.prog.funcNamed "epact/epactlaw11.ZicWords" = some 5 by kernel_rfl).symm.trans hf) |>.symm
      obtain rfl : fn = Tryd.f5 := (Option.some.inj (Tryd.func5.symm.trans hfn)).symm
      exact ⟨by kernel_rfl, fun j t ht => by
        have hall : (Tryd.f5.params.toList.all fun u => !Tryd.prog.wantsStandIn u) = true := by kernel_rfl
        have hm : t ∈ Tryd.f5.params.toList := by rw [Array.mem_toList_iff]; exact Array.mem_of_getElem? ht
        exact (show Tryd.prog.wantsStandIn t = false by simpa using List.all_eq_true.1 hall t hm)⟩)
    (by kernel_rfl)
end Go.Proofs.YtajfblfkohemeaaDoor.zicWords
