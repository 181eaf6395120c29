/-
  The small case of layer 11 comes out true. Conditions: the listed tables hold what their initialisers lay; the library's variable MaxLen holds some number.
-/
import Derived.Test.YtpkohihnocblfaaGreatDoorG16
import Derived.ChangeKeysEq
import Derived.BigFrame
import Derived.Test.YtpkohihnocblfaaGreatDoorRows
import Derived.WalkKit
import Derived.ProofKit
import Derived.OpenShut
import Derived.Carry
import Derived.Test.YtpkohihnocblfaaGreatDoorG03
import Derived.LaidMore
import Derived.Lib.LaidTab
import Derived.Deep.Strs
import Derived.Stop.Joined
import Derived.Test.YtpkohihnocblfaaGreatDoorG08
import Derived.Deep.Slices
import Derived.Lib.SmallJoins
namespace Go.Proofs.YtpkohihnocblfaaGreatDoor.zic
open Go.ChangeShapes Go.WideShapes Go.ChangeAt Go.RowKit
open lx zs mem
open leap (tcs Lps sm)
set_option linter.unusedVariables false
set_option maxRecDepth 100000

theorem eqF (a b c d : Int) (W : World) : (Op.equalIn 10000 32 (.agg #[.int .i64 a, .int .i64 b]) (.agg #[.int .i64 c, .int .i64 d])).run Tryz.prog W = .ok (a == c && b == d) W := by
  rw [run_equalIn_struct W 9999 32 _ _ (by kernel_rfl) (by kernel_rfl)]
  have hf : Tryz.prog.fieldsOf 32 = (match Tryz.prog.underlying 32 with | some (.struct fs) => fs | _ => #[]) := by kernel_rfl
  rw [Tryz.underlying32] at hf
  simp only at hf
  rw [hf]
  have p0 : ∀ x y : Int, (part 3 #[.int .i64 x, .int .i64 y] 0).run Tryz.prog W = .ok (.int .i64 x) W := fun x y => by simp [part, isAgg, run_underlying Tryz.underlying3]
  have p1 : ∀ x y : Int, (part 30 #[.int .i64 x, .int .i64 y] 1).run Tryz.prog W = .ok (.int .i64 y) W := fun x y => by simp [part, isAgg, run_underlying Tryz.underlying30]
  have e3 : ∀ x y : Int, (Op.equalIn 9999 3 (.int .i64 x) (.int .i64 y)).run Tryz.prog W = .ok (x == y) W := fun x y => run_equalIn_int W 9998 3 .i64 .i64 x y Tryz.underlying3
  have e4 : ∀ x y : Int, (Op.equalIn 9999 30 (.int .i64 x) (.int .i64 y)).run Tryz.prog W = .ok (x == y) W := fun x y => run_equalIn_int W 9998 30 .i64 .i64 x y Tryz.underlying30
  by_cases h : a = c <;> by_cases h2 : b = d <;> simp [Op.eqFields, Sem.run_bind, p0, p1, e3, e4, h, h2]
/-- blocks that hold what they hold. -/
def Bx (W : World) (l : List (Nat × Obj)) : Prop := ∀ (k : Nat) (p : Nat × Obj), l[k]? = some p → W.heap[p.1]? = some p.2
theorem bx_below {W W' : World} {l : List (Nat × Obj)} (h : Bx W l) (hb : Below W.heap.size W W') : Bx W' l := fun k p hp => kept (h k p hp) hb
theorem bx_one {W : World} {l : List (Nat × Obj)} (h : Bx W l) (a : Obj) : Bx (W.alloc a) ((W.heap.size, a) :: l) := fun k p hp => by
  cases k with
  | zero => cases hp; exact hp_new W a
  | succ k => exact hp_old (h k p hp) a
theorem bx_two {W : World} {l : List (Nat × Obj)} (h : Bx W l) (a b : Obj) : Bx ((W.alloc a).alloc b) ((W.heap.size + 1, b) :: (W.heap.size, a) :: l) := by
  have := bx_one (bx_one h a) b
  rw [show (W.alloc a).heap.size = W.heap.size + 1 by simp] at this
  exact this
theorem bx_at0 {W : World} {x0 : Nat × Obj} {l : List (Nat × Obj)} (h : Bx W (x0 :: l)) : W.heap[x0.1]? = some x0.2 := h 0 _ rfl
theorem bx_at1 {W : World} {x0 x1 : Nat × Obj} {l : List (Nat × Obj)} (h : Bx W (x0 :: x1 :: l)) : W.heap[x1.1]? = some x1.2 := h 1 _ rfl
theorem bx_at2 {W : World} {x0 x1 x2 : Nat × Obj} {l : List (Nat × Obj)} (h : Bx W (x0 :: x1 :: x2 :: l)) : W.heap[x2.1]? = some x2.2 := h 2 _ rfl
theorem bx_at4 {W : World} {x0 x1 x2 x3 x4 : Nat × Obj} {l : List (Nat × Obj)} (h : Bx W (x0 :: x1 :: x2 :: x3 :: x4 :: l)) : W.heap[x4.1]? = some x4.2 := h 4 _ rfl
theorem bx_at6 {W : World} {x0 x1 x2 x3 x4 x5 x6 : Nat × Obj} {l : List (Nat × Obj)} (h : Bx W (x0 :: x1 :: x2 :: x3 :: x4 :: x5 :: x6 :: l)) : W.heap[x6.1]? = some x6.2 := h 6 _ rfl
theorem bx_at8 {W : World} {x0 x1 x2 x3 x4 x5 x6 x7 x8 : Nat × Obj} {l : List (Nat × Obj)} (h : Bx W (x0 :: x1 :: x2 :: x3 :: x4 :: x5 :: x6 :: x7 :: x8 :: l)) : W.heap[x8.1]? = some x8.2 := h 8 _ rfl
theorem bx_at10 {W : World} {x0 x1 x2 x3 x4 x5 x6 x7 x8 x9 x10 : Nat × Obj} {l : List (Nat × Obj)} (h : Bx W (x0 :: x1 :: x2 :: x3 :: x4 :: x5 :: x6 :: x7 :: x8 :: x9 :: x10 :: l)) : W.heap[x10.1]? = some x10.2 := h 10 _ rfl
theorem bx_at12 {W : World} {x0 x1 x2 x3 x4 x5 x6 x7 x8 x9 x10 x11 x12 : Nat × Obj} {l : List (Nat × Obj)} (h : Bx W (x0 :: x1 :: x2 :: x3 :: x4 :: x5 :: x6 :: x7 :: x8 :: x9 :: x10 :: x11 :: x12 :: l)) : W.heap[x12.1]? = some x12.2 := h 12 _ rfl
theorem bx_at14 {W : World} {x0 x1 x2 x3 x4 x5 x6 x7 x8 x9 x10 x11 x12 x13 x14 : Nat × Obj} {l : List (Nat × Obj)} (h : Bx W (x0 :: x1 :: x2 :: x3 :: x4 :: x5 :: x6 :: x7 :: x8 :: x9 :: x10 :: x11 :: x12 :: x13 :: x14 :: l)) : W.heap[x14.1]? = some x14.2 := h 14 _ rfl
theorem bx_at15 {W : World} {x0 x1 x2 x3 x4 x5 x6 x7 x8 x9 x10 x11 x12 x13 x14 x15 : Nat × Obj} {l : List (Nat × Obj)} (h : Bx W (x0 :: x1 :: x2 :: x3 :: x4 :: x5 :: x6 :: x7 :: x8 :: x9 :: x10 :: x11 :: x12 :: x13 :: x14 :: x15 :: l)) : W.heap[x15.1]? = some x15.2 := h 15 _ rfl
theorem bx_four {W : World} {l : List (Nat × Obj)} (h : Bx W l) (a b c d : Obj) : Bx ((((W.alloc a).alloc b).alloc c).alloc d) ((W.heap.size + 1 + 1 + 1, d) :: (W.heap.size + 1 + 1, c) :: (W.heap.size + 1, b) :: (W.heap.size, a) :: l) := by
  have := bx_one (bx_one (bx_two h a b) c) d
  rw [show (((W.alloc a).alloc b).alloc c).heap.size = W.heap.size + 1 + 1 + 1 by simp, show ((W.alloc a).alloc b).heap.size = W.heap.size + 1 + 1 by simp] at this
  exact this
theorem tab_cells {W : World} {g : Nat} {A : Option Addr} {n c : Nat} {has : Bool} {x : Int} (h : W.heap[g]? = some (.cells #[.slice A n c, .bool has, .int .i64 x] 24)) : W.cell? ⟨g, 0, none⟩ = some (.slice A n c) ∧ W.cell? ⟨g, 1, none⟩ = some (.bool has) ∧ W.cell? ⟨g, 2, none⟩ = some (.int .i64 x) := leap.tcs_cells h
theorem b2 (W : World) (a b : Obj) : Below W.heap.size W ((W.alloc a).alloc b) := bal (bal (Below.refl _ _) a) b
/-- Parse of a text, where it is a fault. -/
theorem parse_bad {w : World} (T : All w) (s : ByteArray) (n : Nat) (c : Int) (hs : s.size ≤ 300000) (h : parse ((splitS s).map wl) = bad n c) (W : World) (hb : Below w.heap.size w W) :
    Calls Tryz.prog 9 #[.string s] W fun e w' => ∃ A c', e = .returned (.tuple #[.agg #[.slice A 0 c', .bool false, .int .i64 0], .agg #[.int .i64 (n : Nat), .int .i64 c]]) ∧ Below W.heap.size W w' := by
  have T' := T.below hb
  refine (parse_at s W T'.tabs T'.ml T'.nm hs).mono ?_
  rw [h]
  rintro e w' ⟨A, c', he, _, _, hb'⟩
  exact ⟨A, c', he, hb'⟩
/-- Parse of a text, where it is a table. -/
theorem parse_good {w : World} (T : All w) (s : ByteArray) (lv : List lm.Lp) (has : Bool) (x : Int) (hs : s.size ≤ 300000) (h : parse ((splitS s).map wl) = ⟨0, 0, lv, has, x⟩) (W : World) (hb : Below w.heap.size w W) :
    Calls Tryz.prog 9 #[.string s] W fun e w' => ∃ A c', e = .returned (.tuple #[.agg #[.slice A lv.length c', .bool has, .int .i64 x], .agg #[.int .i64 0, .int .i64 0]]) ∧ Lps w' A lv ∧ lv.length ≤ c' ∧ Below W.heap.size W w' := by
  have T' := T.below hb
  refine (parse_at s W T'.tabs T'.ml T'.nm hs).mono ?_
  rw [h]
  rintro e w' ⟨A, c', he, hl, hc, hb'⟩
  exact ⟨A, c', he, hl, hc, hb'⟩
theorem full_len {lv : List lm.Lp} {has : Bool} {x : Int} (h : lm.ce lv has x = 0) : (txw (full lv has x)).length ≤ 50000 := by
  have hg := lm.good_of h
  have hx := x_bd h
  have h1 := wls_len hg lv.length (Nat.le_refl _)
  have hl := hg.len
  unfold full
  cases has with
  | false => simp; omega
  | true =>
    simp only [if_true] at hx ⊢
    rw [txw_snoc, List.length_append, List.length_append, List.length_singleton]
    obtain ⟨v, _⟩ := dtm_spec (n := x / 86400) (by omega) (by omega)
    have dm := cal.dim_bd (dtm (x / 86400)).1 (dtm (x / 86400)).2.1
    unfold cal.Vld at v
    have : (tabs (wExp x)).length ≤ 200 := line_ws (by decide) ⟨by omega, by omega, by omega, by omega, by omega, by omega⟩ (fun w hw => by cases hw) (by decide)
    omega
/-- a text, read again. -/
theorem parse_text {w : World} (T : All w) (lv : List lm.Lp) (has : Bool) (x : Int) (h : lm.ce lv has x = 0) (W : World) (hb : Below w.heap.size w W) :
    Calls Tryz.prog 9 #[.string (B (txw (full lv has x)))] W fun e w' => ∃ A c', e = .returned (.tuple #[.agg #[.slice A lv.length c', .bool has, .int .i64 x], .agg #[.int .i64 0, .int .i64 0]]) ∧ Lps w' A lv ∧ lv.length ≤ c' ∧ Below W.heap.size W w' := by
  refine parse_good T _ lv has x ?_ (by rw [wl_txw (full_pr h)]; exact parse_full h) W hb
  rw [B_size]
  have := full_len h
  omega
theorem text_yes {w : World} (T : All w) (lv : List lm.Lp) (has : Bool) (x : Int) (h : lm.ce lv has x = 0) (A : Option Addr) (c : Nat) (W : World) (hb : Below w.heap.size w W) (hl : Lps W A lv) : Calls Tryz.prog 7 #[.agg #[.slice A lv.length c, .bool has, .int .i64 x]] W fun e w' => e = .returned (.tuple #[.string (B (txw (full lv has x))), .bool true]) ∧ Below W.heap.size W w' := by
  have hg := (lm.good_of h).len
  refine (text_at lv A c has x W (T.below hb) hl (by omega)).mono ?_
  rintro e w' ⟨hb', ⟨_, he⟩ | ⟨hn, _⟩⟩
  · exact ⟨he, hb'⟩
  · exact absurd h hn
theorem lps_lit (w : World) (a b d : Obj) : Lps ((((w.alloc a).alloc b).alloc (.cells #[.int .i64 911, .int .i64 1, .bool false, .int .i64 1095, .int .i64 (-1), .bool true] 38)).alloc d) (some ⟨w.heap.size + 1 + 1, 0, none⟩) lA := by
  intro _
  have h : ((((w.alloc a).alloc b).alloc (.cells #[.int .i64 911, .int .i64 1, .bool false, .int .i64 1095, .int .i64 (-1), .bool true] 38)).alloc d).heap[w.heap.size + 1 + 1]? = some (.cells #[.int .i64 911, .int .i64 1, .bool false, .int .i64 1095, .int .i64 (-1), .bool true] 38) := by
    have := hp_new ((w.alloc a).alloc b) (.cells #[.int .i64 911, .int .i64 1, .bool false, .int .i64 1095, .int .i64 (-1), .bool true] 38)
    rw [show ((w.alloc a).alloc b).heap.size = w.heap.size + 1 + 1 by simp] at this
    exact hp_old this d
  refine ⟨w.heap.size + 1 + 1, 0, rfl, by simp, fun k hk => ?_⟩
  match k, hk with
  | 0, _ => exact ⟨row_cell h 0, row_cell h 1, row_cell h 2⟩
  | 1, _ => exact ⟨row_cell h 3, row_cell h 4, row_cell h 5⟩
theorem bx_nil (W : World) : Bx W [] := fun k p h => by simp at h
theorem flt_cells {W : World} {g : Nat} {a b : Int} (h : W.heap[g]? = some (.cells #[.int .i64 a, .int .i64 b] 32)) : W.cell? ⟨g, 0, none⟩ = some (.int .i64 a) ∧ W.cell? ⟨g, 1, none⟩ = some (.int .i64 b) := ⟨row_cell h 0, row_cell h 1⟩
set_option maxHeartbeats 8000000 in
theorem small_at (w : World) (T : All w) : Calls Tryz.prog 4 #[] w fun e w' => e = .returned (.bool true) ∧ Below w.heap.size w w' := by
  have P1 := Lib.hid (fun W hb => parse_good T tA lA true 126230405 (by decide) parse_a W hb)
  have P2 : Hid (∀ W, Below w.heap.size w W → Calls Tryz.prog 9 #[.string ⟨#[76, 101, 97, 112, 32, 49, 57, 55, 50, 32, 74, 117, 110, 32, 51, 48, 32, 50, 51, 58, 53, 57, 58, 53, 57, 32, 43, 32, 83]⟩] W fun e w' => ∃ A c', e = .returned (.tuple #[.agg #[.slice A 0 c', .bool false, .int .i64 0], .agg #[.int .i64 1, .int .i64 6]]) ∧ Below W.heap.size W w') := fun W hb => parse_bad T tC 1 6 (by decide) parse_c W hb
  have P3 : Hid (∀ W, Below w.heap.size w W → Calls Tryz.prog 9 #[.string ⟨#[10, 76, 101, 97, 112, 32, 49, 57, 55, 50, 32, 74, 117, 110, 32, 50, 57, 32, 50, 51, 58, 53, 57, 58, 54, 48, 32, 43, 32, 83]⟩] W fun e w' => ∃ A c', e = .returned (.tuple #[.agg #[.slice A 0 c', .bool false, .int .i64 0], .agg #[.int .i64 2, .int .i64 5]]) ∧ Below W.heap.size W w') := fun W hb => parse_bad T tD 2 5 (by decide) parse_d W hb
  have P4 : Hid (∀ W, Below w.heap.size w W → Calls Tryz.prog 9 #[.string ⟨#[76, 101, 97, 112, 32, 49, 57, 55, 50, 32, 74, 117, 110, 32, 51, 49, 32, 50, 51, 58, 53, 57, 58, 54, 48, 32, 43, 32, 83]⟩] W fun e w' => ∃ A c', e = .returned (.tuple #[.agg #[.slice A 0 c', .bool false, .int .i64 0], .agg #[.int .i64 1, .int .i64 9]]) ∧ Below W.heap.size W w') := fun W hb => parse_bad T tE 1 9 (by decide) parse_e W hb
  have P5 : Hid (∀ W, Below w.heap.size w W → Calls Tryz.prog 9 #[.string ⟨#[76, 101, 97, 112, 32, 49, 57, 55, 50, 32, 74, 117, 32, 51, 48, 32, 50, 51, 58, 53, 57, 58, 54, 48, 32, 43, 32, 83]⟩] W fun e w' => ∃ A c', e = .returned (.tuple #[.agg #[.slice A 0 c', .bool false, .int .i64 0], .agg #[.int .i64 1, .int .i64 2]]) ∧ Below W.heap.size W w') := fun W hb => parse_bad T tF 1 2 (by decide) parse_f W hb
  have P6 : Hid (∀ W, Below w.heap.size w W → Calls Tryz.prog 9 #[.string ⟨#[69, 120, 112, 105, 114, 101, 115, 32, 49, 57, 55, 51, 32, 74, 97, 110, 32, 49, 32, 48, 58, 48, 58, 48, 10, 69, 120, 112, 105, 114, 101, 115, 32, 49, 57, 55, 51, 32, 74, 97, 110, 32, 49, 32, 48, 58, 48, 58, 48]⟩] W fun e w' => ∃ A c', e = .returned (.tuple #[.agg #[.slice A 0 c', .bool false, .int .i64 0], .agg #[.int .i64 2, .int .i64 2]]) ∧ Below W.heap.size W w') := fun W hb => parse_bad T tG 2 2 (by decide) parse_g W hb
  have P8 := Lib.hid (fun W hb => parse_text T lA true 126230405 ceA W hb)
  have TY := Lib.hid (fun A c W hb hl => text_yes T lA true 126230405 ceA A c W hb hl)
  have M1 : Hid (∀ W, Below w.heap.size w W → Calls Tryz.prog 11 #[.string ⟨#[115, 69, 112, 116]⟩] W fun e w' => e = .returned (.tuple #[.int .i64 9, .bool true]) ∧ Below W.heap.size W w') := fun W hb => by
    have := month_at ⟨#[115, 69, 112, 116]⟩ W (T.below hb).nm (by decide)
    rw [show L ⟨#[115, 69, 112, 116]⟩ = [115, 69, 112, 116] from rfl, small_months.1] at this
    exact this
  have M2 : Hid (∀ W, Below w.heap.size w W → Calls Tryz.prog 11 #[.string ⟨#[109, 97]⟩] W fun e w' => e = .returned (.tuple #[.int .i64 0, .bool false]) ∧ Below W.heap.size W w') := fun W hb => by
    have := month_at ⟨#[109, 97]⟩ W (T.below hb).nm (by decide)
    rw [show L ⟨#[109, 97]⟩ = [109, 97] from rfl, small_months.2] at this
    exact this
  obtain ⟨k1, k2, k3, k4, k5, k6⟩ := small_clocks
  have K1 : Hid (∀ W, Below w.heap.size w W → Calls Tryz.prog 12 #[.string ⟨#[49, 58, 50, 58, 51]⟩] W fun e w' => e = .returned (.tuple #[.int .i64 3723, .bool true]) ∧ Below W.heap.size W w') := fun W hb => by
    have := clock_at [49, 58, 50, 58, 51] W (T.below hb).ml (by decide)
    rw [k1, k2] at this
    exact this
  have K2 : Hid (∀ W, Below w.heap.size w W → Calls Tryz.prog 12 #[.string ⟨#[49, 58, 50]⟩] W fun e w' => e = .returned (.tuple #[.int .i64 0, .bool false]) ∧ Below W.heap.size W w') := fun W hb => by
    have := clock_at [49, 58, 50] W (T.below hb).ml (by decide)
    rw [k3, k5] at this
    exact this
  have K3 : Hid (∀ W, Below w.heap.size w W → Calls Tryz.prog 12 #[.string ⟨#[48, 48, 49, 58, 50, 58, 51]⟩] W fun e w' => e = .returned (.tuple #[.int .i64 0, .bool false]) ∧ Below W.heap.size W w') := fun W hb => by
    have := clock_at [48, 48, 49, 58, 50, 58, 51] W (T.below hb).ml (by decide)
    rw [k4, k6] at this
    exact this
  clear k1 k2 k3 k4 k5 k6
  have SM : Hid (∀ A B c d W, Lps W A lA → Lps W B lA → Calls Tryz.prog 10 #[.agg #[.slice A 2 c, .bool true, .int .i64 126230405], .agg #[.slice B 2 d, .bool true, .int .i64 126230405]] W fun e w' => e = .returned (.bool true) ∧ Below W.heap.size W w') := fun A B c d W h g => by
    have := ref09.same_at lA lA A B c d true true 126230405 126230405 W h g (by decide) (by decide)
    rw [leap.sm_self] at this
    exact this
  have lenA : lA.length = 2 := rfl
  rw [lenA] at P1 P8
  simp only [lenA] at TY
  clear lenA
  have E1 := fun W => eqF 0 0 0 0 W
  have E2 := fun W => eqF 1 6 1 6 W
  have E3 := fun W => eqF 2 5 2 5 W
  have E4 := fun W => eqF 1 9 1 9 W
  have E5 := fun W => eqF 1 2 1 2 W
  have E6 := fun W => eqF 2 2 2 2 W
  have hA : Below w.heap.size w w := Below.refl _ _
  clear T
  have hq : B (txw (full lA true 126230405)) = tS := text_lits
  rw [hq] at P8
  simp only [hq] at TY
  clear hq
  unfold tS at P8 TY
  unfold tA at P1
  have s1 : True := trivial
  go_enter Tryz.func4, Tryz.ntmps4
  go_wp2_with (first
    | (go_at_call 9; first
      | (with_reducible refine (P1.out _ hA).mono ?_; rintro e w1 ⟨A1, c1, rfl, hl1, _, hb1⟩; have HL1 := Lib.hid hl1; have HA1 := Lib.hid (fun a b c d => bal (bal (bal (bal (btr hA hb1) a) b) c) d); have BX1 := Lib.hid (fun a b c d => bx_four (bx_nil w1) a b c d); have LT1 := Lib.hid (fun a b d => lps_lit w1 a b d); have HB1 := Lib.hid (fun a b c d => bal (bal (bal (bal (Below.refl w1.heap.size w1) a) b) c) d); clear hl1)
      | (with_reducible refine (P2.out _ (HA1.out _ _ _ _)).mono ?_; rintro e w2 ⟨A2, c2, rfl, hb2⟩; have BX2 := Lib.hid (bx_below (BX1.out _ _ _ _) hb2); have LT2 := Lib.hid ((LT1.out _ _ _).below hb2); have LA2 := Lib.hid (HL1.out.below (btr (HB1.out _ _ _ _) hb2)); have HA2 := Lib.hid (fun a b => bal (bal (btr (HA1.out _ _ _ _) hb2) a) b); clear hb2)
      | (with_reducible refine (P3.out _ (HA2.out _ _)).mono ?_; rintro e w3 ⟨A3, c3, rfl, hb3⟩; have BX3 := Lib.hid (bx_below (bx_two BX2.out _ _) hb3); have LT3 := Lib.hid ((LT2.out.below (b2 _ _ _)).below hb3); have LA3 := Lib.hid ((LA2.out.below (b2 _ _ _)).below hb3); have HA3 := Lib.hid (fun a b => bal (bal (btr (HA2.out _ _) hb3) a) b); clear hb3)
      | (with_reducible refine (P4.out _ (HA3.out _ _)).mono ?_; rintro e w4 ⟨A4, c4, rfl, hb4⟩; have BX4 := Lib.hid (bx_below (bx_two BX3.out _ _) hb4); have LT4 := Lib.hid ((LT3.out.below (b2 _ _ _)).below hb4); have LA4 := Lib.hid ((LA3.out.below (b2 _ _ _)).below hb4); have HA4 := Lib.hid (fun a b => bal (bal (btr (HA3.out _ _) hb4) a) b); clear hb4)
      | (with_reducible refine (P5.out _ (HA4.out _ _)).mono ?_; rintro e w5 ⟨A5, c5, rfl, hb5⟩; have BX5 := Lib.hid (bx_below (bx_two BX4.out _ _) hb5); have LT5 := Lib.hid ((LT4.out.below (b2 _ _ _)).below hb5); have LA5 := Lib.hid ((LA4.out.below (b2 _ _ _)).below hb5); have HA5 := Lib.hid (fun a b => bal (bal (btr (HA4.out _ _) hb5) a) b); clear hb5)
      | (with_reducible refine (P6.out _ (HA5.out _ _)).mono ?_; rintro e w6 ⟨A6, c6, rfl, hb6⟩; have BX6 := Lib.hid (bx_below (bx_two BX5.out _ _) hb6); have LT6 := Lib.hid ((LT5.out.below (b2 _ _ _)).below hb6); have LA6 := Lib.hid ((LA5.out.below (b2 _ _ _)).below hb6); have HA6 := Lib.hid (fun a b => bal (bal (btr (HA5.out _ _) hb6) a) b); clear hb6; have tx0 := fun a b => (tab_cells (bx_at10 (bx_two BX6.out a b))).1; have tx1 := fun a b => (tab_cells (bx_at10 (bx_two BX6.out a b))).2.1; have tx2 := fun a b => (tab_cells (bx_at10 (bx_two BX6.out a b))).2.2)
      | (with_reducible refine (P8.out _ HA7.out).mono ?_; rintro e w8 ⟨A8, c8, rfl, hl8, _, hb8⟩; have BX8 := Lib.hid (bx_below BX7.out hb8); have LT8 := Lib.hid (LT7.out.below hb8); have LA8 := Lib.hid (LA7.out.below hb8); have LU8 := Lib.hid hl8; have HA8 := Lib.hid (fun a b => bal (bal (btr HA7.out hb8) a) b); clear hl8 hb8))
    | (go_at_call 7; with_reducible refine (TY.out _ _ _ (HA6.out _ _) (LT6.out.below (b2 _ _ _))).mono ?_; rintro e w7 ⟨rfl, hb7⟩; have BX7 := Lib.hid (bx_below (bx_two BX6.out _ _) hb7); have LT7 := Lib.hid ((LT6.out.below (b2 _ _ _)).below hb7); have LA7 := Lib.hid ((LA6.out.below (b2 _ _ _)).below hb7); have HA7 := Lib.hid (btr (HA6.out _ _) hb7); clear hb7)
    | (go_at_call 11; first
      | (with_reducible refine (M1.out _ (HA8.out _ _)).mono ?_; rintro e w9 ⟨rfl, hb9⟩; have BX9 := Lib.hid (bx_below (bx_two BX8.out _ _) hb9); have LT9 := Lib.hid ((LT8.out.below (b2 _ _ _)).below hb9); have LA9 := Lib.hid ((LA8.out.below (b2 _ _ _)).below hb9); have LU9 := Lib.hid ((LU8.out.below (b2 _ _ _)).below hb9); have HA9 := Lib.hid (btr (HA8.out _ _) hb9); clear hb9)
      | (with_reducible refine (M2.out _ HA9.out).mono ?_; rintro e w10 ⟨rfl, hb10⟩; have HA10 := Lib.hid (btr HA9.out hb10)))
    | (go_at_call 12; first
      | (with_reducible refine (K1.out _ HA10.out).mono ?_; rintro e w11 ⟨rfl, hb11⟩; have hb11 := btr hb10 hb11; have HA11 := Lib.hid (btr HA9.out hb11))
      | (with_reducible refine (K2.out _ HA11.out).mono ?_; rintro e w12 ⟨rfl, hb12⟩; have hb12 := btr hb11 hb12; have HA12 := Lib.hid (btr HA9.out hb12))
      | (with_reducible refine (K3.out _ HA12.out).mono ?_; rintro e w13 ⟨rfl, hb13⟩; have hb13 := btr hb12 hb13; have HA13 := Lib.hid (btr HA9.out hb13); have BX13 := Lib.hid (bx_below BX9.out hb13); have LT13 := Lib.hid (LT9.out.below hb13); have LA13 := Lib.hid (LA9.out.below hb13); have LU13 := Lib.hid (LU9.out.below hb13); obtain ⟨a0, a1, a2⟩ := tab_cells (bx_at15 BX13.out); obtain ⟨t0, t1, t2⟩ := tab_cells (bx_at12 BX13.out)))
    | (go_at_call 10; first
      | (have _t := s1; with_reducible refine (SM.out _ _ _ _ _ LA13.out LT13.out).mono ?_; rintro e w14 ⟨rfl, hb14⟩; clear s1; have BXa := Lib.hid (bx_below BX13.out hb14); have LTa := Lib.hid (LT13.out.below hb14); have LUa := Lib.hid (LU13.out.below hb14); have HAa := Lib.hid (btr HA13.out hb14); clear hb14 a0 a1 a2 t0 t1 t2; obtain ⟨t0, t1, t2⟩ := tab_cells (bx_at12 BXa.out); obtain ⟨u0, u1, u2⟩ := tab_cells (bx_at1 BXa.out); obtain ⟨f10, f11⟩ := flt_cells (bx_at14 BXa.out); obtain ⟨f20, f21⟩ := flt_cells (bx_at10 BXa.out); obtain ⟨f30, f31⟩ := flt_cells (bx_at8 BXa.out); obtain ⟨f40, f41⟩ := flt_cells (bx_at6 BXa.out); obtain ⟨f50, f51⟩ := flt_cells (bx_at4 BXa.out); obtain ⟨f60, f61⟩ := flt_cells (bx_at2 BXa.out))
      | (with_reducible refine (SM.out _ _ _ _ _ LUa.out LTa.out).mono ?_; rintro e w15 ⟨rfl, hb15⟩; obtain ⟨g0, g1⟩ := flt_cells (bx_at0 (bx_below BXa.out hb15)); have HAb := Lib.hid (btr HAa.out hb15))))
  go_ret
  exact ⟨rfl, HAb.out⟩
end Go.Proofs.YtpkohihnocblfaaGreatDoor.zic

/-
  One frame for all laws of this seat: if a call returns true and leaves all old memory as it was, the law's row holds. Conditions: the law's specification is the given one, it reads no package variable, its parameters are readable.
-/
namespace Go.Proofs.YtpkohihnocblfaaGreatDoor.law
open Go.ChangeShapes Go.WideShapes Go.ChangeAt Go.RowKit
set_option linter.unusedVariables false

theorem own : ownKnob Tryz.prog.godebug = none := by kernel_rfl
theorem laidOut : laidOutB Tryz.prog = true := by kernel_rfl

def readB (P : Program) (ts : List TypeId) : Bool := ts.all fun t => P.readableRec t && decide (t < P.types.size)

theorem trodAll_stays {H : Type} {enc : TypeId × Value → H} {P : Program} (hl : laidOutB P = true) {W W' : World} (hb : Below W.heap.size W W') :
    ∀ (ts : List TypeId) (vs : List Value) (ds : List (DataW H)) (ps : List MemPlace), readB P ts = true → (∀ x ∈ ps, x.block < W.heap.size) →
      DataW.TrodAll enc P W 0 (fun _ => true) true ts vs ds ps → DataW.TrodAll enc P W' 0 (fun b => decide (b < W.heap.size)) true ts vs ds ps
  | [], [], [], ps, _, _, h => h
  | t :: ts, v :: vs, d :: ds, ps, hr, hlt, h => by
    obtain ⟨p, q, h1, h2, rfl⟩ := h
    simp only [readB, List.all_cons, Bool.and_eq_true, decide_eq_true_eq] at hr
    refine ⟨p, q, Below.trod hl hr.1.1 hr.1.2 h1 hb (fun x hx => hlt x (List.mem_append_left _ hx)), ?_, rfl⟩
    exact trodAll_stays hl hb ts vs ds q hr.2 (fun x hx => hlt x (List.mem_append_right _ hx)) h2
  | [], [], _ :: _, _, _, _, h => h.elim
  | [], _ :: _, _, _, _, _, h => h.elim
  | _ :: _, [], _, _, _, _, h => h.elim
  | _ :: _, _ :: _, [], _, _, _, h => h.elim

/-- what is left of a law's row when its call is known: it returned true, old memory is as it was. -/
theorem post {H : Type} {enc : TypeId × Value → H} {P : Program} {f : Func} {s : ChangeSpec} {W W' : World} {args : Array Value} {ds gs : List (DataW H)} {before : List MemPlace} {tb : TypeId}
    (hl : laidOutB P = true) (hr : readB P f.params.toList = true) (hs : s.vars = []) (hrt : f.resultTypes = #[tb]) (hu : P.underlying tb = some .bool)
    (hfn : s.fn H (ds ++ gs) = { results := [.lit (.bool true)], args := ds })
    (hW : DataW.Whole enc P f.params.toList s.vars false W args.toList ds gs before) (hb : Below W.heap.size W W') :
    s.post enc P f false true false false W args (.bool true) W' := by
  have hlt := hW.lt
  have hW' := hW
  obtain ⟨p, q, hA, hV, rfl, _, _⟩ := hW
  rw [hs] at hV
  obtain ⟨rfl, rfl⟩ := trodVars_none hV
  refine ⟨ds, [], p ++ [], [], p, [], hW', ?_, ?_, ?_, hb.frame _, fun h => by cases h⟩
  · rw [hfn, hrt]; exact trodAll_mk1 (shut_bool hu _)
  · rw [hfn]; exact trodAll_stays hl hb _ _ _ _ hr (fun x hx => hlt x (List.mem_append_left _ hx)) hA
  · rw [hfn, hs]; rfl
end Go.Proofs.YtpkohihnocblfaaGreatDoor.law

/-
  From the row's condition on the listed variables to what day's contracts ask of the memory: the two tables of package day hold what their initialisers lay. Condition: the row's own.
-/
namespace Go.Proofs.YtpkohihnocblfaaGreatDoor.day
open Go.ChangeShapes Go.WideShapes Go.ChangeAt Go.RowKit
set_option linter.unusedVariables false
set_option maxRecDepth 100000

theorem laid_at {P : Program} {W : World} {n : String} {d : DataW Unit} {g : Nat} {t : TypeId} (hg : P.globalNamed n = some g) (ht : (P.globals[g]?).map (·.type) = some t) :
    ∀ (l : List (String × DataW Unit)) (ps : List MemPlace), DataW.LaidVars P W l ps → (n, d) ∈ l → ∃ (cs : Array Value) (fuel : Nat) (p : List MemPlace), W.var? P n = some cs ∧ DataW.trod (fun _ => ()) P W 0 (fun _ => true) false fuel t cs.toList = some (d, p)
  | [], _, _, h => by cases h
  | (n', d') :: r, ps, h, hm => by
    obtain ⟨g', t', cs, fuel, p, q, h1, h2, h3, h4, h5, rfl⟩ := h
    rcases List.mem_cons.1 hm with e | hm
    · cases e
      obtain rfl := Option.some.inj (hg.symm.trans h1)
      obtain rfl := Option.some.inj (ht.symm.trans h2)
      exact ⟨cs, fuel, p, h3, h4⟩
    · exact laid_at hg ht r q h5 hm

theorem gLens : Tryz.prog.globalNamed "epact/day.lengths" = some 3 := by kernel_rfl
theorem gSpans : Tryz.prog.globalNamed "epact/day.spans" = some 2 := by kernel_rfl
theorem tLens : (Tryz.prog.globals[3]?).map (·.type) = some 147 := by kernel_rfl
theorem tSpans : (Tryz.prog.globals[2]?).map (·.type) = some 146 := by kernel_rfl
theorem cSpan : Tryz.prog.cellsOf 145 = 3 := by kernel_rfl
theorem cSpans : Tryz.prog.cellsOf 146 = 12 := by kernel_rfl
theorem cInt : Tryz.prog.cellsOf 3 = 1 := by kernel_rfl

theorem span_cells {W : World} {fuel : Nat} {cs : List Value} {a b c : Int} {x : DataW Unit × List MemPlace} (h : DataW.trod (fun _ => ()) Tryz.prog W 0 (fun _ => true) false fuel 145 cs = some x)
    (hx : x.1 = .agg [.lit (.int .i64 a), .lit (.int .i64 b), .lit (.int .i64 c)]) : cs = [.int .i64 a, .int .i64 b, .int .i64 c] := by
  obtain ⟨y0, y1, y2, n, rfl, hl, h0, h1, h2⟩ := Deep.trod_struct3 Tryz.underlying145 h
  obtain ⟨n0, e0, rfl, _⟩ := DataW.trod_int Tryz.underlying3 h0
  obtain ⟨n1, e1, rfl, _⟩ := DataW.trod_int Tryz.underlying3 h1
  obtain ⟨n2, e2, rfl, _⟩ := DataW.trod_int Tryz.underlying3 h2
  simp only [DataW.agg.injEq, List.cons.injEq, DataW.lit.injEq, Lit.int.injEq, true_and, and_true] at hx
  obtain ⟨rfl, rfl, rfl⟩ := hx
  rw [cSpan] at hl
  rw [cInt] at e0 e1 e2
  match cs, hl with
  | [c0, c1, c2], _ => simp at e0 e1 e2; simp [e0, e1, e2]

theorem spans_cells {W : World} {fuel : Nat} {cs : List Value} {p : List MemPlace} (h : DataW.trod (fun _ => ()) Tryz.prog W 0 (fun _ => true) false fuel 146 cs = some (Rows.laid_epact_day_spans, p)) : cs = spanCells := by
  obtain ⟨xs, m, _, hx, hl, hn, hel⟩ := DataW.trod_array Tryz.underlying146 h
  have hd := congrArg Prod.fst hx
  simp only [Rows.laid_epact_day_spans, DataW.agg.injEq] at hd
  rw [cSpans] at hl
  match xs, hn, hd with
  | [x0, x1, x2, x3], _, hd =>
    simp only [List.map_cons, List.map_nil, List.cons.injEq, and_true] at hd
    obtain ⟨d0, d1, d2, d3⟩ := hd
    have k0 := span_cells (hel 0 (by decide)) d0.symm
    have k1 := span_cells (hel 1 (by decide)) d1.symm
    have k2 := span_cells (hel 2 (by decide)) d2.symm
    have k3 := span_cells (hel 3 (by decide)) d3.symm
    rw [cSpan] at k0 k1 k2 k3
    match cs, hl with
    | [c0, c1, c2, c3, c4, c5, c6, c7, c8, c9, c10, c11], _ =>
      simp at k0 k1 k2 k3
      simp [spanCells, k0, k1, k2, k3]

theorem tabs_of {W : World} {l : List (String × DataW Unit)} (h : laidMet Tryz.prog l W) (h1 : ("epact/day.lengths", Rows.laid_epact_day_lengths) ∈ l) (h2 : ("epact/day.spans", Rows.laid_epact_day_spans) ∈ l) : Tabs W := by
  obtain ⟨ps, hL, _, _⟩ := h
  obtain ⟨cs, f, p, hv, ht⟩ := laid_at gLens tLens l ps hL h1
  obtain ⟨cs', f', p', hv', ht'⟩ := laid_at gSpans tSpans l ps hL h2
  have e1 : cs.toList = lens.map fun z => Value.int .i64 z := Lib.cells_of_tab (zs := lens) Tryz.underlying147 Tryz.underlying3 cInt (by kernel_rfl) ht
  have e2 : cs'.toList = spanCells := spans_cells ht'
  refine ⟨fun i hi => ?_, fun j v hv'' => ?_⟩
  · have := World.var?_cell gLens hv i
    rw [this, ← Array.getElem?_toList, e1]
    have hl : i < lens.length := hi
    simp [List.getD, hl]
  · have := World.var?_cell gSpans hv' j
    rw [Nat.zero_add, this, ← Array.getElem?_toList, e2]
    exact hv''
end Go.Proofs.YtpkohihnocblfaaGreatDoor.day

/-
  Tables and leaps that came in, as they are read. Conditions: the row's own.
-/
namespace Go.Proofs.YtpkohihnocblfaaGreatDoor.leap
open Go.ChangeShapes Go.WideShapes Go.ChangeAt Go.RowKit
open lm mem
set_option linter.unusedVariables false
set_option maxRecDepth 100000

theorem cL : Tryz.prog.cellsOf 38 = 3 := by kernel_rfl
theorem cT : Tryz.prog.cellsOf 24 = 3 := by kernel_rfl
theorem cI : Tryz.prog.cellsOf 3 = 1 := by kernel_rfl
theorem cB : Tryz.prog.cellsOf 4 = 1 := by kernel_rfl
def boolOf : Value → Bool
  | .bool b => b
  | _ => false
def at0 (w : World) (a : Addr) (j : Nat) : Value := (w.cell? (a.add j)).getD undef
/-- the leaps that a slice reads as. -/
def lpsOf (w : World) (a : Addr) (n : Nat) : List Lp := (List.range n).map fun i => (intOf (at0 w a (i * 3)), intOf (at0 w a (i * 3 + 1)), boolOf (at0 w a (i * 3 + 2)))
theorem lpsOf_len (w : World) (a : Addr) (n : Nat) : (lpsOf w a n).length = n := by simp [lpsOf]
theorem lpsOf_at (w : World) (a : Addr) (n k : Nat) (h : k < n) : dy (lpsOf w a n) k = intOf (at0 w a (k * 3)) ∧ lm.st (lpsOf w a n) k = intOf (at0 w a (k * 3 + 1)) ∧ rl (lpsOf w a n) k = boolOf (at0 w a (k * 3 + 2)) := by
  have e : (lpsOf w a n).getD k z3 = (intOf (at0 w a (k * 3)), intOf (at0 w a (k * 3 + 1)), boolOf (at0 w a (k * 3 + 2))) := by
    rw [List.getD_eq_getElem?_getD, List.getElem?_eq_getElem (by rw [lpsOf_len]; exact h)]
    simp [lpsOf]
  unfold dy lm.st rl
  rw [e]
  exact ⟨rfl, rfl, rfl⟩
theorem open_lps {H : Type} {enc : TypeId × Value → H} {W : World} {held : Bool} {fuel : Nat} {v : Value} {x : DataW H × List MemPlace} (h : DataW.trod enc Tryz.prog W 0 (fun _ => true) held fuel 22 [v] = some x) :
    ∃ A c l, v = .slice A (List.length l) c ∧ Lps W A l ∧ List.length l ≤ 9223372036854775807 ∧ List.length l ≤ c := by
  rcases Deep.open_slice Tryz.underlying22 h with ⟨h1, _⟩ | ⟨a, len, cap, m, n, D, Pl, h1, _, h3, h4, h5, _, h7⟩
  · obtain rfl := (List.cons.inj h1).1
    exact ⟨none, 0, [], rfl, fun h => absurd rfl h, by decide, by decide⟩
  · obtain rfl := (List.cons.inj h1).1
    simp only [if_true] at h5
    unfold maxLen at h4
    have cells : ∀ k, k < len → W.cell? (a.add (k * 3)) = some (.int .i64 (dy (lpsOf W a len) k)) ∧ W.cell? (a.add (k * 3 + 1)) = some (.int .i64 (lm.st (lpsOf W a len) k)) ∧ W.cell? (a.add (k * 3 + 2)) = some (.bool (rl (lpsOf W a len) k)) := by
      intro k hk
      obtain ⟨cs', g1, g2⟩ := h7 k (by omega)
      rw [cL] at g1
      obtain ⟨_, hlen, hcell⟩ := World.cells?_some g1
      obtain ⟨xs, n', _, _, _, hxl, hf⟩ := DataW.trod_struct Tryz.underlying38 g2
      match cs', hlen, xs, hxl with
      | [u0, u1, u2], _, [y0, y1, y2], _ =>
        have f0 := hf 0 _ rfl
        have f1 := hf 1 _ rfl
        have f2 := hf 2 _ rfl
        change DataW.trod _ _ _ _ _ _ _ 3 (([u0, u1, u2].drop 0).take (Tryz.prog.cellsOf 3)) = some y0 at f0
        change DataW.trod _ _ _ _ _ _ _ 3 (([u0, u1, u2].drop 1).take (Tryz.prog.cellsOf 3)) = some y1 at f1
        change DataW.trod _ _ _ _ _ _ _ 4 (([u0, u1, u2].drop 2).take (Tryz.prog.cellsOf 4)) = some y2 at f2
        rw [cI] at f0 f1
        rw [cB] at f2
        have c0 := hcell 0 (by decide)
        have c1 := hcell 1 (by decide)
        have c2 := hcell 2 (by decide)
        rw [Deep.add_add] at c0 c1 c2
        obtain ⟨k0, e0, _, _⟩ := DataW.trod_int Tryz.underlying3 f0
        obtain ⟨k1, e1, _, _⟩ := DataW.trod_int Tryz.underlying3 f1
        obtain ⟨k2, e2, _⟩ := DataW.trod_bool Tryz.underlying4 f2
        obtain rfl : u0 = .int .i64 k0 := (List.cons.inj e0).1
        obtain rfl : u1 = .int .i64 k1 := (List.cons.inj e1).1
        obtain rfl : u2 = .bool k2 := (List.cons.inj e2).1
        obtain ⟨i0, i1, i2⟩ := lpsOf_at W a len k hk
        have d0 : W.cell? (a.add (k * 3)) = some (.int .i64 k0) := by simpa using c0
        have d1 : W.cell? (a.add (k * 3 + 1)) = some (.int .i64 k1) := by simpa using c1
        have d2 : W.cell? (a.add (k * 3 + 2)) = some (.bool k2) := by simpa using c2
        rw [i0, i1, i2]
        unfold at0
        rw [d0, d1, d2]
        exact ⟨rfl, rfl, rfl⟩
    refine ⟨some a, cap, lpsOf W a len, by rw [lpsOf_len], fun hne => ?_, by rw [lpsOf_len]; omega, by rw [lpsOf_len]; exact h3⟩
    rw [lpsOf_len] at hne
    obtain ⟨b, off, spot⟩ := a
    have hspot : spot = none := by simpa [Addr.add] using World.cell?_spot (cells 0 (by omega)).1
    subst hspot
    have hz := (cells 0 (by omega)).1
    refine ⟨b, off, rfl, ?_, fun k hk => ?_⟩
    · have := World.block_lt_of_cell? W _ hz
      simpa [Addr.add] using this
    · rw [lpsOf_len] at hk
      obtain ⟨a0, a1, a2⟩ := cells k hk
      rw [Addr.add_mid] at a0 a1 a2
      exact ⟨a0, a1, a2⟩
theorem open_table {H : Type} {enc : TypeId × Value → H} {W : World} {base : Nat} {v : Value} {d : DataW H} {p : List MemPlace} (hv : Value.okWide Tryz.prog W .any base 24 v) (h : DataW.Trod enc Tryz.prog W 0 (fun _ => true) true 24 v d p) :
    ∃ A c l has x, v = .agg #[.slice A (List.length l) c, .bool has, .int .i64 x] ∧ Lps W A l ∧ List.length l ≤ 9223372036854775807 ∧ List.length l ≤ c ∧ (-9223372036854775808 ≤ x ∧ x ≤ 9223372036854775807) := by
  obtain ⟨c0, c1, c2, y0, y1, y2, m, rfl, _, _, hy0, hy1, hy2⟩ := Joins.open_agg3 Tryz.underlying24 (by kernel_rfl) cT hv h
  obtain ⟨A, c, l, rfl, hl, hn, hc⟩ := open_lps hy0
  obtain ⟨b, e1, _⟩ := DataW.trod_bool Tryz.underlying4 hy1
  obtain ⟨x, e2, _, w2⟩ := DataW.trod_int Tryz.underlying3 hy2
  obtain rfl := (List.cons.inj e1).1
  obtain rfl := (List.cons.inj e2).1
  exact ⟨A, c, l, b, x, rfl, hl, hn, hc, bounds_i64 w2⟩
theorem open_leap {H : Type} {enc : TypeId × Value → H} {W : World} {base : Nat} {v : Value} {d : DataW H} {p : List MemPlace} (hv : Value.okWide Tryz.prog W .any base 38 v) (h : DataW.Trod enc Tryz.prog W 0 (fun _ => true) true 38 v d p) :
    ∃ z : Lp, v = .agg #[.int .i64 z.1, .int .i64 z.2.1, .bool z.2.2] := by
  obtain ⟨c0, c1, c2, y0, y1, y2, m, rfl, _, _, hy0, hy1, hy2⟩ := Joins.open_agg3 Tryz.underlying38 (by kernel_rfl) cL hv h
  obtain ⟨a, e0, _, _⟩ := DataW.trod_int Tryz.underlying3 hy0
  obtain ⟨b, e1, _, _⟩ := DataW.trod_int Tryz.underlying3 hy1
  obtain ⟨c, e2, _⟩ := DataW.trod_bool Tryz.underlying4 hy2
  obtain rfl := (List.cons.inj e0).1
  obtain rfl := (List.cons.inj e1).1
  obtain rfl := (List.cons.inj e2).1
  exact ⟨(a, b, c), rfl⟩
end Go.Proofs.YtpkohihnocblfaaGreatDoor.leap
