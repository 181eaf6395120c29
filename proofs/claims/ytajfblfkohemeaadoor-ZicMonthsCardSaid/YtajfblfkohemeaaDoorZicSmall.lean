/-
  The small case of layer 11 comes out true. Conditions: the listed tables hold what their initialisers lay; the library's variable MaxLen holds some number.
-/
import Derived.Test.YtajfblfkohemeaaDoorZicSmallMath
import Derived.Test.YtajfblfkohemeaaDoorRefSame
import Derived.ChangeKeysEq
import Derived.BigFrame
namespace Go.Proofs.YtajfblfkohemeaaDoor.zic
open Go.ChangeShapes Go.WideShapes Go.ChangeAt Go.RowKit
open lx zs mem
open leap (tcs Lps sm)
set_option linter.unusedVariables false
set_option maxRecDepth 100000

theorem eqF (a b c d : Int) (W : World) : (Op.equalIn 10000 31 (.agg #[.int .i64 a, .int .i64 b]) (.agg #[.int .i64 c, .int .i64 d])).run Tryd.prog W = .ok (a == c && b == d) W := by
  rw [run_equalIn_struct W 9999 31 _ _ (by kernel_rfl) (by kernel_rfl)]
  have hf : Tryd.prog.fieldsOf 31 = (match Tryd.prog.underlying 31 with | some (.struct fs) => fs | _ => #[]) := by kernel_rfl
  rw [Tryd.underlying31] at hf
  simp only at hf
  rw [hf]
  have p0 : ∀ x y : Int, (part 3 #[.int .i64 x, .int .i64 y] 0).run Tryd.prog W = .ok (.int .i64 x) W := fun x y => by simp [part, isAgg, run_underlying Tryd.underlying3]
  have p1 : ∀ x y : Int, (part 29 #[.int .i64 x, .int .i64 y] 1).run Tryd.prog W = .ok (.int .i64 y) W := fun x y => by simp [part, isAgg, run_underlying Tryd.underlying29]
  have e3 : ∀ x y : Int, (Op.equalIn 9999 3 (.int .i64 x) (.int .i64 y)).run Tryd.prog W = .ok (x == y) W := fun x y => run_equalIn_int W 9998 3 .i64 .i64 x y Tryd.underlying3
  have e4 : ∀ x y : Int, (Op.equalIn 9999 29 (.int .i64 x) (.int .i64 y)).run Tryd.prog W = .ok (x == y) W := fun x y => run_equalIn_int W 9998 29 .i64 .i64 x y Tryd.underlying29
  by_cases h : a = c <;> by_cases h2 : b = d <;> simp [Op.eqFields, Sem.run_bind, p0, p1, e3, e4, h, h2]
/-- blocks that hold what they hold. -/
def Bx (W : World) (l : List (Nat × Obj)) : Prop := ∀ (k : Nat) (p : Nat × Obj), l[k]? = some p → W.heap[p.1]? = some p.2
theorem bx_below {W W' : World} {l : List (Nat × Obj)} (h : Bx W l) (hb : Below W.heap.size W W') : Bx W' l := fun k p hp => kept (h k p hp) hb
theorem bx_one {W : World} {l : List (Nat × Obj)} (h : Bx W l) (a : Obj) : Bx (W.alloc a) ((W.heap.size, a) :: l) := fun k p hp => by
  cases k with
  | zero => cases hp; exact hp_new W a
  | succ k => exact hp_old (h k p hp) a
theorem bx_two {W : World} {l : List (Nat × Obj)} (h : Bx W l) (a b : Obj) : Bx ((W.alloc a).alloc b) ((W.heap.size + 1, b) :: (W.heap.size, a) :: l) := by
  have := bx_one (bx_one h a) b
  rw [show (W.alloc a).heap.size = W.heap.size + 1 by simp] at this
  exact this
theorem bx_at0 {W : World} {x0 : Nat × Obj} {l : List (Nat × Obj)} (h : Bx W (x0 :: l)) : W.heap[x0.1]? = some x0.2 := h 0 _ rfl
theorem bx_at1 {W : World} {x0 x1 : Nat × Obj} {l : List (Nat × Obj)} (h : Bx W (x0 :: x1 :: l)) : W.heap[x1.1]? = some x1.2 := h 1 _ rfl
theorem bx_at2 {W : World} {x0 x1 x2 : Nat × Obj} {l : List (Nat × Obj)} (h : Bx W (x0 :: x1 :: x2 :: l)) : W.heap[x2.1]? = some x2.2 := h 2 _ rfl
theorem bx_at4 {W : World} {x0 x1 x2 x3 x4 : Nat × Obj} {l : List (Nat × Obj)} (h : Bx W (x0 :: x1 :: x2 :: x3 :: x4 :: l)) : W.heap[x4.1]? = some x4.2 := h 4 _ rfl
theorem bx_at6 {W : World} {x0 x1 x2 x3 x4 x5 x6 : Nat × Obj} {l : List (Nat × Obj)} (h : Bx W (x0 :: x1 :: x2 :: x3 :: x4 :: x5 :: x6 :: l)) : W.heap[x6.1]? = some x6.2 := h 6 _ rfl
theorem bx_at8 {W : World} {x0 x1 x2 x3 x4 x5 x6 x7 x8 : Nat × Obj} {l : List (Nat × Obj)} (h : Bx W (x0 :: x1 :: x2 :: x3 :: x4 :: x5 :: x6 :: x7 :: x8 :: l)) : W.heap[x8.1]? = some x8.2 := h 8 _ rfl
theorem bx_at10 {W : World} {x0 x1 x2 x3 x4 x5 x6 x7 x8 x9 x10 : Nat × Obj} {l : List (Nat × Obj)} (h : Bx W (x0 :: x1 :: x2 :: x3 :: x4 :: x5 :: x6 :: x7 :: x8 :: x9 :: x10 :: l)) : W.heap[x10.1]? = some x10.2 := h 10 _ rfl
theorem bx_at12 {W : World} {x0 x1 x2 x3 x4 x5 x6 x7 x8 x9 x10 x11 x12 : Nat × Obj} {l : List (Nat × Obj)} (h : Bx W (x0 :: x1 :: x2 :: x3 :: x4 :: x5 :: x6 :: x7 :: x8 :: x9 :: x10 :: x11 :: x12 :: l)) : W.heap[x12.1]? = some x12.2 := h 12 _ rfl
theorem bx_at14 {W : World} {x0 x1 x2 x3 x4 x5 x6 x7 x8 x9 x10 x11 x12 x13 x14 : Nat × Obj} {l : List (Nat × Obj)} (h : Bx W (x0 :: x1 :: x2 :: x3 :: x4 :: x5 :: x6 :: x7 :: x8 :: x9 :: x10 :: x11 :: x12 :: x13 :: x14 :: l)) : W.heap[x14.1]? = some x14.2 := h 14 _ rfl
theorem bx_at15 {W : World} {x0 x1 x2 x3 x4 x5 x6 x7 x8 x9 x10 x11 x12 x13 x14 x15 : Nat × Obj} {l : List (Nat × Obj)} (h : Bx W (x0 :: x1 :: x2 :: x3 :: x4 :: x5 :: x6 :: x7 :: x8 :: x9 :: x10 :: x11 :: x12 :: x13 :: x14 :: x15 :: l)) : W.heap[x15.1]? = some x15.2 := h 15 _ rfl
theorem bx_four {W : World} {l : List (Nat × Obj)} (h : Bx W l) (a b c d : Obj) : Bx ((((W.alloc a).alloc b).alloc c).alloc d) ((W.heap.size + 1 + 1 + 1, d) :: (W.heap.size + 1 + 1, c) :: (W.heap.size + 1, b) :: (W.heap.size, a) :: l) := by
  have := bx_one (bx_one (bx_two h a b) c) d
  rw [show (((W.alloc a).alloc b).alloc c).heap.size = W.heap.size + 1 + 1 + 1 by simp, show ((W.alloc a).alloc b).heap.size = W.heap.size + 1 + 1 by simp] at this
  exact this
theorem tab_cells {W : World} {g : Nat} {A : Option Addr} {n c : Nat} {has : Bool} {x : Int} (h : W.heap[g]? = some (.cells #[.slice A n c, .bool has, .int .i64 x] 24)) : W.cell? ⟨g, 0, none⟩ = some (.slice A n c) ∧ W.cell? ⟨g, 1, none⟩ = some (.bool has) ∧ W.cell? ⟨g, 2, none⟩ = some (.int .i64 x) := leap.tcs_cells h
theorem b2 (W : World) (a b : Obj) : Below W.heap.size W ((W.alloc a).alloc b) := bal (bal (Below.refl _ _) a) b
/-- Parse of a text, where it is a fault. -/
theorem parse_bad {w : World} (T : All w) (s : ByteArray) (n : Nat) (c : Int) (hs : s.size ≤ 300000) (h : parse ((splitS s).map wl) = bad n c) (W : World) (hb : Below w.heap.size w W) :
    Calls Tryd.prog 11 #[.string s] W fun e w' => ∃ A c', e = .returned (.tuple #[.agg #[.slice A 0 c', .bool false, .int .i64 0], .agg #[.int .i64 (n : Nat), .int .i64 c]]) ∧ Below W.heap.size W w' := by
  have T' := T.below hb
  refine (parse_at s W T'.tabs T'.ml T'.nm hs).mono ?_
  rw [h]
  rintro e w' ⟨A, c', he, _, _, hb'⟩
  exact ⟨A, c', he, hb'⟩
/-- Parse of a text, where it is a table. -/
theorem parse_good {w : World} (T : All w) (s : ByteArray) (lv : List lm.Lp) (has : Bool) (x : Int) (hs : s.size ≤ 300000) (h : parse ((splitS s).map wl) = ⟨0, 0, lv, has, x⟩) (W : World) (hb : Below w.heap.size w W) :
    Calls Tryd.prog 11 #[.string s] W fun e w' => ∃ A c', e = .returned (.tuple #[.agg #[.slice A lv.length c', .bool has, .int .i64 x], .agg #[.int .i64 0, .int .i64 0]]) ∧ Lps w' A lv ∧ lv.length ≤ c' ∧ Below W.heap.size W w' := by
  have T' := T.below hb
  refine (parse_at s W T'.tabs T'.ml T'.nm hs).mono ?_
  rw [h]
  rintro e w' ⟨A, c', he, hl, hc, hb'⟩
  exact ⟨A, c', he, hl, hc, hb'⟩
theorem full_len {lv : List lm.Lp} {has : Bool} {x : Int} (h : lm.ce lv has x = 0) : (txw (full lv has x)).length ≤ 50000 := by
  have hg := lm.good_of h
  have hx := x_bd h
  have h1 := wls_len hg lv.length (Nat.le_refl _)
  have hl := hg.len
  unfold full
  cases has with
  | false => simp; omega
  | true =>
    simp only [if_true] at hx ⊢
    rw [txw_snoc, List.length_append, List.length_append, List.length_singleton]
    obtain ⟨v, _⟩ := dtm_spec (n := x / 86400) (by omega) (by omega)
    have dm := cal.dim_bd (dtm (x / 86400)).1 (dtm (x / 86400)).2.1
    unfold cal.Vld at v
    have : (tabs (wExp x)).length ≤ 200 := line_ws (by decide) ⟨by omega, by omega, by omega, by omega, by omega, by omega⟩ (fun w hw => by cases hw) (by decide)
    omega
/-- a text, read again. -/
theorem parse_text {w : World} (T : All w) (lv : List lm.Lp) (has : Bool) (x : Int) (h : lm.ce lv has x = 0) (W : World) (hb : Below w.heap.size w W) :
    Calls Tryd.prog 11 #[.string (B (txw (full lv has x)))] W fun e w' => ∃ A c', e = .returned (.tuple #[.agg #[.slice A lv.length c', .bool has, .int .i64 x], .agg #[.int .i64 0, .int .i64 0]]) ∧ Lps w' A lv ∧ lv.length ≤ c' ∧ Below W.heap.size W w' := by
  refine parse_good T _ lv has x ?_ (by rw [wl_txw (full_pr h)]; exact parse_full h) W hb
  rw [B_size]
  have := full_len h
  omega
theorem text_yes {w : World} (T : All w) (lv : List lm.Lp) (has : Bool) (x : Int) (h : lm.ce lv has x = 0) (A : Option Addr) (c : Nat) (W : World) (hb : Below w.heap.size w W) (hl : Lps W A lv) : Calls Tryd.prog 9 #[.agg #[.slice A lv.length c, .bool has, .int .i64 x]] W fun e w' => e = .returned (.tuple #[.string (B (txw (full lv has x))), .bool true]) ∧ Below W.heap.size W w' := by
  have hg := (lm.good_of h).len
  refine (text_at lv A c has x W (T.below hb) hl (by omega)).mono ?_
  rintro e w' ⟨hb', ⟨_, he⟩ | ⟨hn, _⟩⟩
  · exact ⟨he, hb'⟩
  · exact absurd h hn
theorem lps_lit (w : World) (a b d : Obj) : Lps ((((w.alloc a).alloc b).alloc (.cells #[.int .i64 911, .int .i64 1, .bool false, .int .i64 1095, .int .i64 (-1), .bool true] 44)).alloc d) (some ⟨w.heap.size + 1 + 1, 0, none⟩) lA := by
  intro _
  have h : ((((w.alloc a).alloc b).alloc (.cells #[.int .i64 911, .int .i64 1, .bool false, .int .i64 1095, .int .i64 (-1), .bool true] 44)).alloc d).heap[w.heap.size + 1 + 1]? = some (.cells #[.int .i64 911, .int .i64 1, .bool false, .int .i64 1095, .int .i64 (-1), .bool true] 44) := by
    have := hp_new ((w.alloc a).alloc b) (.cells #[.int .i64 911, .int .i64 1, .bool false, .int .i64 1095, .int .i64 (-1), .bool true] 44)
    rw [show ((w.alloc a).alloc b).heap.size = w.heap.size + 1 + 1 by simp] at this
    exact hp_old this d
  refine ⟨w.heap.size + 1 + 1, 0, rfl, by simp, fun k hk => ?_⟩
  match k, hk with
  | 0, _ => exact ⟨row_cell h 0, row_cell h 1, row_cell h 2⟩
  | 1, _ => exact ⟨row_cell h 3, row_cell h 4, row_cell h 5⟩
theorem bx_nil (W : World) : Bx W [] := fun k p h => by simp at h
theorem flt_cells {W : World} {g : Nat} {a b : Int} (h : W.heap[g]? = some (.cells #[.int .i64 a, .int .i64 b] 31)) : W.cell? ⟨g, 0, none⟩ = some (.int .i64 a) ∧ W.cell? ⟨g, 1, none⟩ = some (.int .i64 b) := ⟨row_cell h 0, row_cell h 1⟩
set_option maxHeartbeats 8000000 in
theorem small_at (w : World) (T : All w) : Calls Tryd.prog 7 #[] w fun e w' => e = .returned (.bool true) ∧ Below w.heap.size w w' := by
  have P1 := Lib.hid (fun W hb => parse_good T tA lA true 126230405 (by decide) parse_a W hb)
  have P2 : Hid (∀ W, Below w.heap.size w W → Calls Tryd.prog 11 #[.string ⟨#[76, 101, 97, 112, 32, 49, 57, 55, 50, 32, 74, 117, 110, 32, 51, 48, 32, 50, 51, 58, 53, 57, 58, 53, 57, 32, 43, 32, 83]⟩] W fun e w' => ∃ A c', e = .returned (.tuple #[.agg #[.slice A 0 c', .bool false, .int .i64 0], .agg #[.int .i64 1, .int .i64 6]]) ∧ Below W.heap.size W w') := fun W hb => parse_bad T tC 1 6 (by decide) parse_c W hb
  have P3 : Hid (∀ W, Below w.heap.size w W → Calls Tryd.prog 11 #[.string ⟨#[10, 76, 101, 97, 112, 32, 49, 57, 55, 50, 32, 74, 117, 110, 32, 50, 57, 32, 50, 51, 58, 53, 57, 58, 54, 48, 32, 43, 32, 83]⟩] W fun e w' => ∃ A c', e = .returned (.tuple #[.agg #[.slice A 0 c', .bool false, .int .i64 0], .agg #[.int .i64 2, .int .i64 5]]) ∧ Below W.heap.size W w') := fun W hb => parse_bad T tD 2 5 (by decide) parse_d W hb
  have P4 : Hid (∀ W, Below w.heap.size w W → Calls Tryd.prog 11 #[.string ⟨#[76, 101, 97, 112, 32, 49, 57, 55, 50, 32, 74, 117, 110, 32, 51, 49, 32, 50, 51, 58, 53, 57, 58, 54, 48, 32, 43, 32, 83]⟩] W fun e w' => ∃ A c', e = .returned (.tuple #[.agg #[.slice A 0 c', .bool false, .int .i64 0], .agg #[.int .i64 1, .int .i64 9]]) ∧ Below W.heap.size W w') := fun W hb => parse_bad T tE 1 9 (by decide) parse_e W hb
  have P5 : Hid (∀ W, Below w.heap.size w W → Calls Tryd.prog 11 #[.string ⟨#[76, 101, 97, 112, 32, 49, 57, 55, 50, 32, 74, 117, 32, 51, 48, 32, 50, 51, 58, 53, 57, 58, 54, 48, 32, 43, 32, 83]⟩] W fun e w' => ∃ A c', e = .returned (.tuple #[.agg #[.slice A 0 c', .bool false, .int .i64 0], .agg #[.int .i64 1, .int .i64 2]]) ∧ Below W.heap.size W w') := fun W hb => parse_bad T tF 1 2 (by decide) parse_f W hb
  have P6 : Hid (∀ W, Below w.heap.size w W → Calls Tryd.prog 11 #[.string ⟨#[69, 120, 112, 105, 114, 101, 115, 32, 49, 57, 55, 51, 32, 74, 97, 110, 32, 49, 32, 48, 58, 48, 58, 48, 10, 69, 120, 112, 105, 114, 101, 115, 32, 49, 57, 55, 51, 32, 74, 97, 110, 32, 49, 32, 48, 58, 48, 58, 48]⟩] W fun e w' => ∃ A c', e = .returned (.tuple #[.agg #[.slice A 0 c', .bool false, .int .i64 0], .agg #[.int .i64 2, .int .i64 2]]) ∧ Below W.heap.size W w') := fun W hb => parse_bad T tG 2 2 (by decide) parse_g W hb
  have P8 := Lib.hid (fun W hb => parse_text T lA true 126230405 ceA W hb)
  have TY := Lib.hid (fun A c W hb hl => text_yes T lA true 126230405 ceA A c W hb hl)
  have M1 : Hid (∀ W, Below w.heap.size w W → Calls Tryd.prog 16 #[.string ⟨#[115, 69, 112, 116]⟩] W fun e w' => e = .returned (.tuple #[.int .i64 9, .bool true]) ∧ Below W.heap.size W w') := fun W hb => by
    have := month_at ⟨#[115, 69, 112, 116]⟩ W (T.below hb).nm (by decide)
    rw [show L ⟨#[115, 69, 112, 116]⟩ = [115, 69, 112, 116] from rfl, small_months.1] at this
    exact this
  have M2 : Hid (∀ W, Below w.heap.size w W → Calls Tryd.prog 16 #[.string ⟨#[109, 97]⟩] W fun e w' => e = .returned (.tuple #[.int .i64 0, .bool false]) ∧ Below W.heap.size W w') := fun W hb => by
    have := month_at ⟨#[109, 97]⟩ W (T.below hb).nm (by decide)
    rw [show L ⟨#[109, 97]⟩ = [109, 97] from rfl, small_months.2] at this
    exact this
  obtain ⟨k1, k2, k3, k4, k5, k6⟩ := small_clocks
  have K1 : Hid (∀ W, Below w.heap.size w W → Calls Tryd.prog 17 #[.string ⟨#[49, 58, 50, 58, 51]⟩] W fun e w' => e = .returned (.tuple #[.int .i64 3723, .bool true]) ∧ Below W.heap.size W w') := fun W hb => by
    have := clock_at [49, 58, 50, 58, 51] W (T.below hb).ml (by decide)
    rw [k1, k2] at this
    exact this
  have K2 : Hid (∀ W, Below w.heap.size w W → Calls Tryd.prog 17 #[.string ⟨#[49, 58, 50]⟩] W fun e w' => e = .returned (.tuple #[.int .i64 0, .bool false]) ∧ Below W.heap.size W w') := fun W hb => by
    have := clock_at [49, 58, 50] W (T.below hb).ml (by decide)
    rw [k3, k5] at this
    exact this
  have K3 : Hid (∀ W, Below w.heap.size w W → Calls Tryd.prog 17 #[.string ⟨#[48, 48, 49, 58, 50, 58, 51]⟩] W fun e w' => e = .returned (.tuple #[.int .i64 0, .bool false]) ∧ Below W.heap.size W w') := fun W hb => by
    have := clock_at [48, 48, 49, 58, 50, 58, 51] W (T.below hb).ml (by decide)
    rw [k4, k6] at this
    exact this
  clear k1 k2 k3 k4 k5 k6
  have SM : Hid (∀ A B c d W, Lps W A lA → Lps W B lA → Calls Tryd.prog 12 #[.agg #[.slice A 2 c, .bool true, .int .i64 126230405], .agg #[.slice B 2 d, .bool true, .int .i64 126230405]] W fun e w' => e = .returned (.bool true) ∧ Below W.heap.size W w') := fun A B c d W h g => by
    have := ref09.same_at lA lA A B c d true true 126230405 126230405 W h g (by decide) (by decide)
    rw [leap.sm_self] at this
    exact this
  have lenA : lA.length = 2 := rfl
  rw [lenA] at P1 P8
  simp only [lenA] at TY
  clear lenA
  have E1 := fun W => eqF 0 0 0 0 W
  have E2 := fun W => eqF 1 6 1 6 W
  have E3 := fun W => eqF 2 5 2 5 W
  have E4 := fun W => eqF 1 9 1 9 W
  have E5 := fun W => eqF 1 2 1 2 W
  have E6 := fun W => eqF 2 2 2 2 W
  have hA : Below w.heap.size w w := Below.refl _ _
  clear T
  have hq : B (txw (full lA true 126230405)) = tS := text_lits
  rw [hq] at P8
  simp only [hq] at TY
  clear hq
  unfold tS at P8 TY
  unfold tA at P1
  have s1 : True := trivial
  go_enter Tryd.func7, Tryd.ntmps7
  go_wp2_with (first
    | (go_at_call 11; first
      | (with_reducible refine (P1.out _ hA).mono ?_; rintro e w1 ⟨A1, c1, rfl, hl1, _, hb1⟩; have HL1 := Lib.hid hl1; have HA1 := Lib.hid (fun a b c d => bal (bal (bal (bal (btr hA hb1) a) b) c) d); have BX1 := Lib.hid (fun a b c d => bx_four (bx_nil w1) a b c d); have LT1 := Lib.hid (fun a b d => lps_lit w1 a b d); have HB1 := Lib.hid (fun a b c d => bal (bal (bal (bal (Below.refl w1.heap.size w1) a) b) c) d); clear hl1)
      | (with_reducible refine (P2.out _ (HA1.out _ _ _ _)).mono ?_; rintro e w2 ⟨A2, c2, rfl, hb2⟩; have BX2 := Lib.hid (bx_below (BX1.out _ _ _ _) hb2); have LT2 := Lib.hid ((LT1.out _ _ _).below hb2); have LA2 := Lib.hid (HL1.out.below (btr (HB1.out _ _ _ _) hb2)); have HA2 := Lib.hid (fun a b => bal (bal (btr (HA1.out _ _ _ _) hb2) a) b); clear hb2)
      | (with_reducible refine (P3.out _ (HA2.out _ _)).mono ?_; rintro e w3 ⟨A3, c3, rfl, hb3⟩; have BX3 := Lib.hid (bx_below (bx_two BX2.out _ _) hb3); have LT3 := Lib.hid ((LT2.out.below (b2 _ _ _)).below hb3); have LA3 := Lib.hid ((LA2.out.below (b2 _ _ _)).below hb3); have HA3 := Lib.hid (fun a b => bal (bal (btr (HA2.out _ _) hb3) a) b); clear hb3)
      | (with_reducible refine (P4.out _ (HA3.out _ _)).mono ?_; rintro e w4 ⟨A4, c4, rfl, hb4⟩; have BX4 := Lib.hid (bx_below (bx_two BX3.out _ _) hb4); have LT4 := Lib.hid ((LT3.out.below (b2 _ _ _)).below hb4); have LA4 := Lib.hid ((LA3.out.below (b2 _ _ _)).below hb4); have HA4 := Lib.hid (fun a b => bal (bal (btr (HA3.out _ _) hb4) a) b); clear hb4)
      | (with_reducible refine (P5.out _ (HA4.out _ _)).mono ?_; rintro e w5 ⟨A5, c5, rfl, hb5⟩; have BX5 := Lib.hid (bx_below (bx_two BX4.out _ _) hb5); have LT5 := Lib.hid ((LT4.out.below (b2 _ _ _)).below hb5); have LA5 := Lib.hid ((LA4.out.below (b2 _ _ _)).below hb5); have HA5 := Lib.hid (fun a b => bal (bal (btr (HA4.out _ _) hb5) a) b); clear hb5)
      | (with_reducible refine (P6.out _ (HA5.out _ _)).mono ?_; rintro e w6 ⟨A6, c6, rfl, hb6⟩; have BX6 := Lib.hid (bx_below (bx_two BX5.out _ _) hb6); have LT6 := Lib.hid ((LT5.out.below (b2 _ _ _)).below hb6); have LA6 := Lib.hid ((LA5.out.below (b2 _ _ _)).below hb6); have HA6 := Lib.hid (fun a b => bal (bal (btr (HA5.out _ _) hb6) a) b); clear hb6; have tx0 := fun a b => (tab_cells (bx_at10 (bx_two BX6.out a b))).1; have tx1 := fun a b => (tab_cells (bx_at10 (bx_two BX6.out a b))).2.1; have tx2 := fun a b => (tab_cells (bx_at10 (bx_two BX6.out a b))).2.2)
      | (with_reducible refine (P8.out _ HA7.out).mono ?_; rintro e w8 ⟨A8, c8, rfl, hl8, _, hb8⟩; have BX8 := Lib.hid (bx_below BX7.out hb8); have LT8 := Lib.hid (LT7.out.below hb8); have LA8 := Lib.hid (LA7.out.below hb8); have LU8 := Lib.hid hl8; have HA8 := Lib.hid (fun a b => bal (bal (btr HA7.out hb8) a) b); clear hl8 hb8))
    | (go_at_call 9; with_reducible refine (TY.out _ _ _ (HA6.out _ _) (LT6.out.below (b2 _ _ _))).mono ?_; rintro e w7 ⟨rfl, hb7⟩; have BX7 := Lib.hid (bx_below (bx_two BX6.out _ _) hb7); have LT7 := Lib.hid ((LT6.out.below (b2 _ _ _)).below hb7); have LA7 := Lib.hid ((LA6.out.below (b2 _ _ _)).below hb7); have HA7 := Lib.hid (btr (HA6.out _ _) hb7); clear hb7)
    | (go_at_call 16; first
      | (with_reducible refine (M1.out _ (HA8.out _ _)).mono ?_; rintro e w9 ⟨rfl, hb9⟩; have BX9 := Lib.hid (bx_below (bx_two BX8.out _ _) hb9); have LT9 := Lib.hid ((LT8.out.below (b2 _ _ _)).below hb9); have LA9 := Lib.hid ((LA8.out.below (b2 _ _ _)).below hb9); have LU9 := Lib.hid ((LU8.out.below (b2 _ _ _)).below hb9); have HA9 := Lib.hid (btr (HA8.out _ _) hb9); clear hb9)
      | (with_reducible refine (M2.out _ HA9.out).mono ?_; rintro e w10 ⟨rfl, hb10⟩; have HA10 := Lib.hid (btr HA9.out hb10)))
    | (go_at_call 17; first
      | (with_reducible refine (K1.out _ HA10.out).mono ?_; rintro e w11 ⟨rfl, hb11⟩; have hb11 := btr hb10 hb11; have HA11 := Lib.hid (btr HA9.out hb11))
      | (with_reducible refine (K2.out _ HA11.out).mono ?_; rintro e w12 ⟨rfl, hb12⟩; have hb12 := btr hb11 hb12; have HA12 := Lib.hid (btr HA9.out hb12))
      | (with_reducible refine (K3.out _ HA12.out).mono ?_; rintro e w13 ⟨rfl, hb13⟩; have hb13 := btr hb12 hb13; have HA13 := Lib.hid (btr HA9.out hb13); have BX13 := Lib.hid (bx_below BX9.out hb13); have LT13 := Lib.hid (LT9.out.below hb13); have LA13 := Lib.hid (LA9.out.below hb13); have LU13 := Lib.hid (LU9.out.below hb13); obtain ⟨a0, a1, a2⟩ := tab_cells (bx_at15 BX13.out); obtain ⟨t0, t1, t2⟩ := tab_cells (bx_at12 BX13.out)))
    | (go_at_call 12; first
      | (have _t := s1; with_reducible refine (SM.out _ _ _ _ _ LA13.out LT13.out).mono ?_; rintro e w14 ⟨rfl, hb14⟩; clear s1; have BXa := Lib.hid (bx_below BX13.out hb14); have LTa := Lib.hid (LT13.out.below hb14); have LUa := Lib.hid (LU13.out.below hb14); have HAa := Lib.hid (btr HA13.out hb14); clear hb14 a0 a1 a2 t0 t1 t2; obtain ⟨t0, t1, t2⟩ := tab_cells (bx_at12 BXa.out); obtain ⟨u0, u1, u2⟩ := tab_cells (bx_at1 BXa.out); obtain ⟨f10, f11⟩ := flt_cells (bx_at14 BXa.out); obtain ⟨f20, f21⟩ := flt_cells (bx_at10 BXa.out); obtain ⟨f30, f31⟩ := flt_cells (bx_at8 BXa.out); obtain ⟨f40, f41⟩ := flt_cells (bx_at6 BXa.out); obtain ⟨f50, f51⟩ := flt_cells (bx_at4 BXa.out); obtain ⟨f60, f61⟩ := flt_cells (bx_at2 BXa.out))
      | (with_reducible refine (SM.out _ _ _ _ _ LUa.out LTa.out).mono ?_; rintro e w15 ⟨rfl, hb15⟩; obtain ⟨g0, g1⟩ := flt_cells (bx_at0 (bx_below BXa.out hb15)); have HAb := Lib.hid (btr HAa.out hb15))))
  go_ret
  exact ⟨rfl, HAb.out⟩
end Go.Proofs.YtajfblfkohemeaaDoor.zic
