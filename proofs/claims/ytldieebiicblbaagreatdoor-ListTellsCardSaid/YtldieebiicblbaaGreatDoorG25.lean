/-
  The small case of layer 10 comes out true. Conditions: the listed tables hold what their initialisers lay; the library's variable MaxLen holds some number.
-/
import Derived.Test.YtldieebiicblbaaGreatDoorG24
import Derived.ChangeKeysEq
import Derived.BigFrame
import Derived.Test.YtldieebiicblbaaGreatDoorG07
import Derived.Test.YtldieebiicblbaaGreatDoorG11
import Derived.LaidMore
import Derived.Lib.LaidTab
import Derived.Deep.Strs
import Derived.Stop.Joined
import Derived.Test.YtldieebiicblbaaGreatDoorG17
import Derived.Deep.Slices
import Derived.Lib.SmallJoins
namespace Go.Proofs.YtldieebiicblbaaGreatDoor.list
open Go.ChangeShapes Go.WideShapes Go.ChangeAt Go.RowKit
open lx ls mem
open leap (tcs Lps sm)
set_option linter.unusedVariables false
set_option maxRecDepth 100000

/-- what layer 10 asks of the memory. -/
structure All (w : World) : Prop where
  tabs : day.Tabs w
  ml : lines.ML w
  st : sha.St w
  pw : Pw w
  tz : ntp.Tz w
theorem All.below {w W : World} (h : All w) (hb : Below w.heap.size w W) : All W := ⟨h.tabs.below hb, h.ml.below hb, h.st.below hb, h.pw.below hb, h.tz.below hb⟩
theorem eqF (a b c d : Int) (W : World) : (Op.equalIn 10000 29 (.agg #[.int .i64 a, .int .i64 b]) (.agg #[.int .i64 c, .int .i64 d])).run Tryz.prog W = .ok (a == c && b == d) W := by
  rw [run_equalIn_struct W 9999 29 _ _ (by kernel_rfl) (by kernel_rfl)]
  have hf : Tryz.prog.fieldsOf 29 = (match Tryz.prog.underlying 29 with | some (.struct fs) => fs | _ => #[]) := by kernel_rfl
  rw [Tryz.underlying29] at hf
  simp only at hf
  rw [hf]
  have p0 : ∀ x y : Int, (part 3 #[.int .i64 x, .int .i64 y] 0).run Tryz.prog W = .ok (.int .i64 x) W := fun x y => by simp [part, isAgg, run_underlying Tryz.underlying3]
  have p1 : ∀ x y : Int, (part 27 #[.int .i64 x, .int .i64 y] 1).run Tryz.prog W = .ok (.int .i64 y) W := fun x y => by simp [part, isAgg, run_underlying Tryz.underlying27]
  have e3 : ∀ x y : Int, (Op.equalIn 9999 3 (.int .i64 x) (.int .i64 y)).run Tryz.prog W = .ok (x == y) W := fun x y => run_equalIn_int W 9998 3 .i64 .i64 x y Tryz.underlying3
  have e4 : ∀ x y : Int, (Op.equalIn 9999 27 (.int .i64 x) (.int .i64 y)).run Tryz.prog W = .ok (x == y) W := fun x y => run_equalIn_int W 9998 27 .i64 .i64 x y Tryz.underlying27
  by_cases h : a = c <;> by_cases h2 : b = d <;> simp [Op.eqFields, Sem.run_bind, p0, p1, e3, e4, h, h2]
/-! the method, asked of the interface -/
/-- blocks that hold what they hold. -/
def Bx (W : World) (l : List (Nat × Obj)) : Prop := ∀ (k : Nat) (p : Nat × Obj), l[k]? = some p → W.heap[p.1]? = some p.2
theorem bx_below {W W' : World} {l : List (Nat × Obj)} (h : Bx W l) (hb : Below W.heap.size W W') : Bx W' l := fun k p hp => kept (h k p hp) hb
theorem bx_one {W : World} {l : List (Nat × Obj)} (h : Bx W l) (a : Obj) : Bx (W.alloc a) ((W.heap.size, a) :: l) := fun k p hp => by
  cases k with
  | zero => cases hp; exact hp_new W a
  | succ k => exact hp_old (h k p hp) a
theorem bx_two {W : World} {l : List (Nat × Obj)} (h : Bx W l) (a b : Obj) : Bx ((W.alloc a).alloc b) ((W.heap.size + 1, b) :: (W.heap.size, a) :: l) := by
  have := bx_one (bx_one h a) b
  rw [show (W.alloc a).heap.size = W.heap.size + 1 by simp] at this
  exact this
theorem bx_at0 {W : World} {x0 : Nat × Obj} {l : List (Nat × Obj)} (h : Bx W (x0 :: l)) : W.heap[x0.1]? = some x0.2 := h 0 _ rfl
theorem bx_at1 {W : World} {x0 x1 : Nat × Obj} {l : List (Nat × Obj)} (h : Bx W (x0 :: x1 :: l)) : W.heap[x1.1]? = some x1.2 := h 1 _ rfl
theorem bx_at2 {W : World} {x0 x1 x2 : Nat × Obj} {l : List (Nat × Obj)} (h : Bx W (x0 :: x1 :: x2 :: l)) : W.heap[x2.1]? = some x2.2 := h 2 _ rfl
theorem bx_at4 {W : World} {x0 x1 x2 x3 x4 : Nat × Obj} {l : List (Nat × Obj)} (h : Bx W (x0 :: x1 :: x2 :: x3 :: x4 :: l)) : W.heap[x4.1]? = some x4.2 := h 4 _ rfl
theorem bx_at6 {W : World} {x0 x1 x2 x3 x4 x5 x6 : Nat × Obj} {l : List (Nat × Obj)} (h : Bx W (x0 :: x1 :: x2 :: x3 :: x4 :: x5 :: x6 :: l)) : W.heap[x6.1]? = some x6.2 := h 6 _ rfl
theorem bx_at8 {W : World} {x0 x1 x2 x3 x4 x5 x6 x7 x8 : Nat × Obj} {l : List (Nat × Obj)} (h : Bx W (x0 :: x1 :: x2 :: x3 :: x4 :: x5 :: x6 :: x7 :: x8 :: l)) : W.heap[x8.1]? = some x8.2 := h 8 _ rfl
theorem bx_at10 {W : World} {x0 x1 x2 x3 x4 x5 x6 x7 x8 x9 x10 : Nat × Obj} {l : List (Nat × Obj)} (h : Bx W (x0 :: x1 :: x2 :: x3 :: x4 :: x5 :: x6 :: x7 :: x8 :: x9 :: x10 :: l)) : W.heap[x10.1]? = some x10.2 := h 10 _ rfl
theorem bx_at12 {W : World} {x0 x1 x2 x3 x4 x5 x6 x7 x8 x9 x10 x11 x12 : Nat × Obj} {l : List (Nat × Obj)} (h : Bx W (x0 :: x1 :: x2 :: x3 :: x4 :: x5 :: x6 :: x7 :: x8 :: x9 :: x10 :: x11 :: x12 :: l)) : W.heap[x12.1]? = some x12.2 := h 12 _ rfl
theorem bx_at14 {W : World} {x0 x1 x2 x3 x4 x5 x6 x7 x8 x9 x10 x11 x12 x13 x14 : Nat × Obj} {l : List (Nat × Obj)} (h : Bx W (x0 :: x1 :: x2 :: x3 :: x4 :: x5 :: x6 :: x7 :: x8 :: x9 :: x10 :: x11 :: x12 :: x13 :: x14 :: l)) : W.heap[x14.1]? = some x14.2 := h 14 _ rfl
theorem bx_at15 {W : World} {x0 x1 x2 x3 x4 x5 x6 x7 x8 x9 x10 x11 x12 x13 x14 x15 : Nat × Obj} {l : List (Nat × Obj)} (h : Bx W (x0 :: x1 :: x2 :: x3 :: x4 :: x5 :: x6 :: x7 :: x8 :: x9 :: x10 :: x11 :: x12 :: x13 :: x14 :: x15 :: l)) : W.heap[x15.1]? = some x15.2 := h 15 _ rfl
theorem bx_four {W : World} {l : List (Nat × Obj)} (h : Bx W l) (a b c d : Obj) : Bx ((((W.alloc a).alloc b).alloc c).alloc d) ((W.heap.size + 1 + 1 + 1, d) :: (W.heap.size + 1 + 1, c) :: (W.heap.size + 1, b) :: (W.heap.size, a) :: l) := by
  have := bx_one (bx_one (bx_two h a b) c) d
  rw [show (((W.alloc a).alloc b).alloc c).heap.size = W.heap.size + 1 + 1 + 1 by simp, show ((W.alloc a).alloc b).heap.size = W.heap.size + 1 + 1 by simp] at this
  exact this
theorem tab_cells {W : World} {g : Nat} {A : Option Addr} {n c : Nat} {has : Bool} {x : Int} (h : W.heap[g]? = some (.cells #[.slice A n c, .bool has, .int .i64 x] 24)) : W.cell? ⟨g, 0, none⟩ = some (.slice A n c) ∧ W.cell? ⟨g, 1, none⟩ = some (.bool has) ∧ W.cell? ⟨g, 2, none⟩ = some (.int .i64 x) := leap.tcs_cells h
theorem b2 (W : World) (a b : Obj) : Below W.heap.size W ((W.alloc a).alloc b) := bal (bal (Below.refl _ _) a) b
/-- Parse of a text, where it is a fault. -/
theorem parse_bad {w : World} (T : All w) (s : ByteArray) (n : Nat) (c : Int) (hs : s.size ≤ 300000) (h : parse ((splitS s).map L) = bad n c) (W : World) (hb : Below w.heap.size w W) :
    Calls Tryz.prog 6 #[.string s] W fun e w' => ∃ A c', e = .returned (.tuple #[.agg #[.slice A 0 c', .bool false, .int .i64 0], .agg #[.int .i64 (n : Nat), .int .i64 c]]) ∧ Below W.heap.size W w' := by
  have T' := T.below hb
  refine (parse_at s W T'.tabs T'.ml T'.st hs).mono ?_
  rw [h]
  rintro e w' ⟨A, c', he, _, _, hb'⟩
  exact ⟨A, c', he, hb'⟩
/-- Parse of a text, where it is a table. -/
theorem parse_good {w : World} (T : All w) (s : ByteArray) (lv : List lm.Lp) (has : Bool) (x : Int) (hs : s.size ≤ 300000) (h : parse ((splitS s).map L) = ⟨0, 0, lv, has, x⟩) (W : World) (hb : Below w.heap.size w W) :
    Calls Tryz.prog 6 #[.string s] W fun e w' => ∃ A c', e = .returned (.tuple #[.agg #[.slice A lv.length c', .bool has, .int .i64 x], .agg #[.int .i64 0, .int .i64 0]]) ∧ Lps w' A lv ∧ Below W.heap.size W w' := by
  have T' := T.below hb
  refine (parse_at s W T'.tabs T'.ml T'.st hs).mono ?_
  rw [h]
  rintro e w' ⟨A, c', he, hl, _, hb'⟩
  exact ⟨A, c', he, hl, hb'⟩
/-- a text, read again. -/
theorem parse_text {w : World} (T : All w) (lv : List lm.Lp) (has : Bool) (x stamp : Int) (h : TOK lv has x stamp) (hs : stamp ≤ 9223372036854775807) (W : World) (hb : Below w.heap.size w W) :
    Calls Tryz.prog 6 #[.string (B (byl (full lv has x stamp)))] W fun e w' => ∃ A c', e = .returned (.tuple #[.agg #[.slice A lv.length c', .bool has, .int .i64 x], .agg #[.int .i64 0, .int .i64 0]]) ∧ Lps w' A lv ∧ Below W.heap.size W w' := by
  have e : (splitS (B (byl (full lv has x stamp)))).map L = full lv has x stamp := by
    unfold splitS
    rw [L_B, spl_all (fin1_full _ _ _ _), List.map_map, show (L ∘ B) = id from funext fun l => L_B l, List.map_id]
  refine parse_good T _ lv has x ?_ (by rw [e]; exact parse_full h hs) W hb
  rw [B_size]
  have hc := h.2.1
  have hg := lm.good_of hc
  have hx := x_bd hc
  have hx2 : x ≤ 9000000000000000000 := by cases has <;> simp at hx <;> omega
  have := part_len (has := has) (x := x) (stamp := stamp) hg hs hx2 lv.length (Nat.le_refl _)
  have h44 : (L (nx.txt (hq (pre lv has x stamp)))).length = 44 := by rw [L_len, nx.txt_size]
  unfold full
  rw [bytes_app, List.length_append]
  have h2 : (byl [hl 9 (hq (pre lv has x stamp))]).length ≤ 100 := by
    unfold byl hl
    simp
    omega
  have h3 : (byl (pre lv has x stamp)).length ≤ 20000 := this
  omega
def tReal : ByteArray := ⟨#[35, 9, 114, 101, 109, 97, 114, 107, 10, 35, 36, 9, 32, 51, 54, 55, 54, 57, 50, 52, 56, 48, 48, 10, 35, 10, 35, 64, 9, 51, 55, 48, 55, 53, 57, 54, 56, 48, 48, 10, 35, 10, 50, 50, 55, 50, 48, 54, 48, 56, 48, 48, 9, 49, 48, 9, 35, 32, 49, 32, 74, 97, 110, 32, 49, 57, 55, 50, 10, 50, 50, 56, 55, 55, 56, 53, 54, 48, 48, 9, 49, 49, 9, 35, 32, 49, 32, 74, 117, 108, 32, 49, 57, 55, 50, 13, 10, 50, 51, 48, 51, 54, 56, 51, 50, 48, 48, 32, 49, 50, 10]⟩
theorem real_lines : (splitS tReal).map L = real := by decide +kernel
theorem realg_lines : (splitS (tReal ++ ⟨#[35, 104, 32, 49, 32, 50, 32, 51, 32, 52, 32, 53, 10]⟩)).map L = real ++ [r9] := by decide +kernel
theorem c_lines : (splitS ⟨#[50, 50, 55, 50, 48, 54, 48, 56, 48, 48, 32, 49, 48, 10, 50, 50, 56, 55, 55, 56, 53, 54, 48, 48, 32, 49, 50, 10]⟩).map L = [ra, rb] := by decide +kernel
theorem d_lines : (splitS ⟨#[35, 32, 97, 10, 10, 50, 50, 55, 50, 48, 54, 48, 56, 48, 48, 32, 57, 10]⟩).map L = [rc', [], rd'] := by decide +kernel
theorem e_lines : (splitS ⟨#[35, 10]⟩).map L = [r3] := by decide +kernel
theorem f_lines : (splitS ⟨#[50, 50, 55, 50, 48, 54, 48, 56, 48, 48, 32, 49, 48, 10, 50, 50, 56, 55, 55, 56, 53, 54, 48, 49, 32, 49, 49, 10]⟩).map L = [ra, re] := by decide +kernel
theorem tokA : TOK lA true 1498608000 7 := ⟨by decide, ceA, by decide⟩
theorem lps_lit (w : World) (a b d : Obj) : Lps ((((w.alloc a).alloc b).alloc (.cells #[.int .i64 911, .int .i64 1, .bool false, .int .i64 1095, .int .i64 1, .bool false] 40)).alloc d) (some ⟨w.heap.size + 1 + 1, 0, none⟩) lA := by
  intro _
  have h : ((((w.alloc a).alloc b).alloc (.cells #[.int .i64 911, .int .i64 1, .bool false, .int .i64 1095, .int .i64 1, .bool false] 40)).alloc d).heap[w.heap.size + 1 + 1]? = some (.cells #[.int .i64 911, .int .i64 1, .bool false, .int .i64 1095, .int .i64 1, .bool false] 40) := by
    have := hp_new ((w.alloc a).alloc b) (.cells #[.int .i64 911, .int .i64 1, .bool false, .int .i64 1095, .int .i64 1, .bool false] 40)
    rw [show ((w.alloc a).alloc b).heap.size = w.heap.size + 1 + 1 by simp] at this
    exact hp_old this d
  refine ⟨w.heap.size + 1 + 1, 0, rfl, by simp, fun k hk => ?_⟩
  match k, hk with
  | 0, _ => exact ⟨row_cell h 0, row_cell h 1, row_cell h 2⟩
  | 1, _ => exact ⟨row_cell h 3, row_cell h 4, row_cell h 5⟩
theorem text_yes {w : World} (T : All w) (A : Option Addr) (c : Nat) (W : World) (hb : Below w.heap.size w W) (hl : Lps W A lA) : Calls Tryz.prog 8 #[.agg #[.slice A 2 c, .bool true, .int .i64 1498608000], .int .i64 7] W fun e w' => e = .returned (.tuple #[.string (B (byl (full lA true 1498608000 7))), .bool true]) ∧ Below W.heap.size W w' := by
  have T' := T.below hb
  refine (text_at lA A c true 1498608000 7 W T'.tabs T'.ml T'.st T'.pw T'.tz hl (by decide) ⟨by decide, by decide⟩).mono ?_
  rintro e w' ⟨hb', ⟨_, he⟩ | ⟨hn, _⟩⟩
  · exact ⟨he, hb'⟩
  · exact absurd tokA hn
theorem text_no {w : World} (T : All w) (A : Option Addr) (c : Nat) (W : World) (hb : Below w.heap.size w W) (hl : Lps W A lA) : Calls Tryz.prog 8 #[.agg #[.slice A 2 c, .bool true, .int .i64 1498608000], .int .i64 (-1)] W fun e w' => e = .returned (.tuple #[.string ⟨#[]⟩, .bool false]) ∧ Below W.heap.size W w' := by
  have T' := T.below hb
  refine (text_at lA A c true 1498608000 (-1) W T'.tabs T'.ml T'.st T'.pw T'.tz hl (by decide) ⟨by decide, by decide⟩).mono ?_
  rintro e w' ⟨hb', ⟨hn, _⟩ | ⟨_, he⟩⟩
  · exact absurd hn.1 (by decide)
  · exact ⟨he, hb'⟩
theorem bx_nil (W : World) : Bx W [] := fun k p h => by simp at h
theorem flt_cells {W : World} {g : Nat} {a b : Int} (h : W.heap[g]? = some (.cells #[.int .i64 a, .int .i64 b] 29)) : W.cell? ⟨g, 0, none⟩ = some (.int .i64 a) ∧ W.cell? ⟨g, 1, none⟩ = some (.int .i64 b) := ⟨row_cell h 0, row_cell h 1⟩
set_option maxHeartbeats 8000000 in
theorem small_at (w : World) (T : All w) : Calls Tryz.prog 4 #[] w fun e w' => e = .returned (.bool true) ∧ Below w.heap.size w w' := by
  obtain ⟨RL, hRL⟩ : ∃ RL, RL = tReal := ⟨_, rfl⟩
  have hsz : RL.size ≤ 1000 := by rw [hRL]; decide
  have RE : Hid (∀ W, Calls Tryz.prog 13 #[] W fun e w' => e = .returned (.string RL) ∧ W = w') := fun W => by
    rw [hRL]
    unfold tReal
    go_enter Tryz.func13, Tryz.ntmps13
    go_wp2
    go_ret
    exact ⟨rfl, rfl⟩
  have P1 := Lib.hid (fun W hb => parse_good T RL lA true 1498608000 (by omega) (by rw [hRL, real_lines]; exact parse_real) W hb)
  have P2 : Hid (∀ W, Below w.heap.size w W → Calls Tryz.prog 6 #[.string ⟨#[50, 50, 55, 50, 48, 54, 48, 56, 48, 48, 32, 49, 48, 10, 50, 50, 56, 55, 55, 56, 53, 54, 48, 48, 32, 49, 50, 10]⟩] W fun e w' => ∃ A c', e = .returned (.tuple #[.agg #[.slice A 0 c', .bool false, .int .i64 0], .agg #[.int .i64 2, .int .i64 6]]) ∧ Below W.heap.size W w') := fun W hb => parse_bad T _ 2 6 (by decide) (by rw [c_lines]; exact parse_c) W hb
  have P3 : Hid (∀ W, Below w.heap.size w W → Calls Tryz.prog 6 #[.string ⟨#[35, 32, 97, 10, 10, 50, 50, 55, 50, 48, 54, 48, 56, 48, 48, 32, 57, 10]⟩] W fun e w' => ∃ A c', e = .returned (.tuple #[.agg #[.slice A 0 c', .bool false, .int .i64 0], .agg #[.int .i64 3, .int .i64 9]]) ∧ Below W.heap.size W w') := fun W hb => parse_bad T _ 3 9 (by decide) (by rw [d_lines]; exact parse_d) W hb
  have P4 : Hid (∀ W, Below w.heap.size w W → Calls Tryz.prog 6 #[.string ⟨#[35, 10]⟩] W fun e w' => ∃ A c', e = .returned (.tuple #[.agg #[.slice A 0 c', .bool false, .int .i64 0], .agg #[.int .i64 2, .int .i64 2]]) ∧ Below W.heap.size W w') := fun W hb => parse_bad T _ 2 2 (by decide) (by rw [e_lines]; exact parse_e) W hb
  have P5 : Hid (∀ W, Below w.heap.size w W → Calls Tryz.prog 6 #[.string ⟨#[50, 50, 55, 50, 48, 54, 48, 56, 48, 48, 32, 49, 48, 10, 50, 50, 56, 55, 55, 56, 53, 54, 48, 49, 32, 49, 49, 10]⟩] W fun e w' => ∃ A c', e = .returned (.tuple #[.agg #[.slice A 0 c', .bool false, .int .i64 0], .agg #[.int .i64 2, .int .i64 5]]) ∧ Below W.heap.size W w') := fun W hb => parse_bad T _ 2 5 (by decide) (by rw [f_lines]; exact parse_f) W hb
  have P6 : Hid (∀ W, Below w.heap.size w W → Calls Tryz.prog 6 #[.string (RL ++ ⟨#[35, 104, 32, 49, 32, 50, 32, 51, 32, 52, 32, 53, 10]⟩)] W fun e w' => ∃ A c', e = .returned (.tuple #[.agg #[.slice A 0 c', .bool false, .int .i64 0], .agg #[.int .i64 9, .int .i64 3]]) ∧ Below W.heap.size W w') := fun W hb => parse_bad T _ 9 3 (by rw [hRL]; decide) (by rw [hRL, realg_lines]; exact parse_g) W hb
  have P8 := Lib.hid (fun W hb => parse_text T lA true 1498608000 7 tokA (by decide) W hb)
  have TY := Lib.hid (fun A c W hb hl => text_yes T A c W hb hl)
  have TN := Lib.hid (fun A c W hb hl => text_no T A c W hb hl)
  have SM : Hid (∀ A B c d W, Lps W A lA → Lps W B lA → Calls Tryz.prog 10 #[.agg #[.slice A 2 c, .bool true, .int .i64 1498608000], .agg #[.slice B 2 d, .bool true, .int .i64 1498608000]] W fun e w' => e = .returned (.bool true) ∧ Below W.heap.size W w') := fun A B c d W h g => by
    have := ref09.same_at lA lA A B c d true true 1498608000 1498608000 W h g (by decide) (by decide)
    rw [leap.sm_self] at this
    exact this
  have lenA : lA.length = 2 := rfl
  rw [lenA] at P1 P8
  clear lenA
  have E1 := fun W => eqF 0 0 0 0 W
  have E2 := fun W => eqF 2 6 2 6 W
  have E3 := fun W => eqF 3 9 3 9 W
  have E4 := fun W => eqF 2 2 2 2 W
  have E5 := fun W => eqF 2 5 2 5 W
  have E6 := fun W => eqF 9 3 9 3 W
  have hA : Below w.heap.size w w := Below.refl _ _
  clear T hRL
  obtain ⟨SS, hSS⟩ : ∃ SS, B (byl (full lA true 1498608000 7)) = SS := ⟨_, rfl⟩
  rw [hSS] at P8
  simp only [hSS] at TY
  clear hSS
  have k1 : True := trivial
  have k6 : True := trivial
  have s1 : True := trivial
  have glue : ∀ W, (9223372036854775807 < RL.size + 13) = False := fun _ => by simp; omega
  go_enter Tryz.func4, Tryz.ntmps4
  go_wp2_with (first
    | (go_at_call 13; with_reducible refine (RE.out _).mono ?_; rintro e w0 ⟨rfl, rfl⟩)
    | (go_at_call 6; first
      | (with_reducible refine (P1.out _ hA).mono ?_; rintro e w1 ⟨A1, c1, rfl, hl1, hb1⟩; have HL1 := Lib.hid hl1; have HA1 := Lib.hid (fun a b c d => bal (bal (bal (bal (btr hA hb1) a) b) c) d); have BX1 := Lib.hid (fun a b c d => bx_four (bx_nil w1) a b c d); have LT1 := Lib.hid (fun a b d => lps_lit w1 a b d); have HB1 := Lib.hid (fun a b c d => bal (bal (bal (bal (Below.refl w1.heap.size w1) a) b) c) d); clear hl1)
      | (with_reducible refine (P2.out _ (HA1.out _ _ _ _)).mono ?_; rintro e w2 ⟨A2, c2, rfl, hb2⟩; have BX2 := Lib.hid (bx_below (BX1.out _ _ _ _) hb2); have LT2 := Lib.hid ((LT1.out _ _ _).below hb2); have LA2 := Lib.hid (HL1.out.below (btr (HB1.out _ _ _ _) hb2)); have HA2 := Lib.hid (fun a b => bal (bal (btr (HA1.out _ _ _ _) hb2) a) b); clear hb2)
      | (with_reducible refine (P3.out _ (HA2.out _ _)).mono ?_; rintro e w3 ⟨A3, c3, rfl, hb3⟩; have BX3 := Lib.hid (bx_below (bx_two BX2.out _ _) hb3); have LT3 := Lib.hid ((LT2.out.below (b2 _ _ _)).below hb3); have LA3 := Lib.hid ((LA2.out.below (b2 _ _ _)).below hb3); have HA3 := Lib.hid (fun a b => bal (bal (btr (HA2.out _ _) hb3) a) b); clear hb3)
      | (with_reducible refine (P4.out _ (HA3.out _ _)).mono ?_; rintro e w4 ⟨A4, c4, rfl, hb4⟩; have BX4 := Lib.hid (bx_below (bx_two BX3.out _ _) hb4); have LT4 := Lib.hid ((LT3.out.below (b2 _ _ _)).below hb4); have LA4 := Lib.hid ((LA3.out.below (b2 _ _ _)).below hb4); have HA4 := Lib.hid (fun a b => bal (bal (btr (HA3.out _ _) hb4) a) b); clear hb4)
      | (with_reducible refine (P5.out _ (HA4.out _ _)).mono ?_; rintro e w5 ⟨A5, c5, rfl, hb5⟩; have BX5 := Lib.hid (bx_below (bx_two BX4.out _ _) hb5); have LT5 := Lib.hid ((LT4.out.below (b2 _ _ _)).below hb5); have LA5 := Lib.hid ((LA4.out.below (b2 _ _ _)).below hb5); have HA5 := Lib.hid (fun a b => bal (bal (btr (HA4.out _ _) hb5) a) b); clear hb5)
      | (with_reducible refine (P6.out _ (HA5.out _ _)).mono ?_; rintro e w6 ⟨A6, c6, rfl, hb6⟩; have BX6 := Lib.hid (bx_below (bx_two BX5.out _ _) hb6); have LT6 := Lib.hid ((LT5.out.below (b2 _ _ _)).below hb6); have LA6 := Lib.hid ((LA5.out.below (b2 _ _ _)).below hb6); have HA6 := Lib.hid (fun a b => bal (bal (btr (HA5.out _ _) hb6) a) b); clear hb6; have tx0 := fun a b => (tab_cells (bx_at10 (bx_two BX6.out a b))).1; have tx1 := fun a b => (tab_cells (bx_at10 (bx_two BX6.out a b))).2.1; have tx2 := fun a b => (tab_cells (bx_at10 (bx_two BX6.out a b))).2.2)
      | (with_reducible refine (P8.out _ HA7.out).mono ?_; rintro e w8 ⟨A8, c8, rfl, hl8, hb8⟩; have BX8 := Lib.hid (bx_below BX7.out hb8); have LT8 := Lib.hid (LT7.out.below hb8); have LA8 := Lib.hid (LA7.out.below hb8); have LU8 := Lib.hid hl8; have HA8 := Lib.hid (fun a b => bal (bal (btr HA7.out hb8) a) b); have ty0 := fun a b => (tab_cells (bx_at12 (bx_two BX8.out a b))).1; have ty1 := fun a b => (tab_cells (bx_at12 (bx_two BX8.out a b))).2.1; have ty2 := fun a b => (tab_cells (bx_at12 (bx_two BX8.out a b))).2.2; clear hl8 hb8))
    | (go_at_call 8; first
      | (with_reducible refine (TY.out _ _ _ (HA6.out _ _) (LT6.out.below (b2 _ _ _))).mono ?_; rintro e w7 ⟨rfl, hb7⟩; have BX7 := Lib.hid (bx_below (bx_two BX6.out _ _) hb7); have LT7 := Lib.hid ((LT6.out.below (b2 _ _ _)).below hb7); have LA7 := Lib.hid ((LA6.out.below (b2 _ _ _)).below hb7); have HA7 := Lib.hid (btr (HA6.out _ _) hb7); clear hb7)
      | (with_reducible refine (TN.out _ _ _ (HA8.out _ _) (LT8.out.below (b2 _ _ _))).mono ?_; rintro e w9 ⟨rfl, hb9⟩; have BX9 := Lib.hid (bx_below (bx_two BX8.out _ _) hb9); have LT9 := Lib.hid ((LT8.out.below (b2 _ _ _)).below hb9); have LA9 := Lib.hid ((LA8.out.below (b2 _ _ _)).below hb9); have LU9 := Lib.hid ((LU8.out.below (b2 _ _ _)).below hb9); have HA9 := Lib.hid (btr (HA8.out _ _) hb9); clear hb9; obtain ⟨a0, a1, a2⟩ := tab_cells (bx_at15 BX9.out); obtain ⟨t0, t1, t2⟩ := tab_cells (bx_at12 BX9.out)))
    | (go_at_call 10; first
      | (have _t := s1; with_reducible refine (SM.out _ _ _ _ _ LA9.out LT9.out).mono ?_; rintro e w10 ⟨rfl, hb10⟩; clear s1; have BXa := Lib.hid (bx_below BX9.out hb10); have LTa := Lib.hid (LT9.out.below hb10); have LUa := Lib.hid (LU9.out.below hb10); have HAa := Lib.hid (btr HA9.out hb10); clear hb10 a0 a1 a2 t0 t1 t2; obtain ⟨t0, t1, t2⟩ := tab_cells (bx_at12 BXa.out); obtain ⟨u0, u1, u2⟩ := tab_cells (bx_at1 BXa.out); obtain ⟨f10, f11⟩ := flt_cells (bx_at14 BXa.out); obtain ⟨f20, f21⟩ := flt_cells (bx_at10 BXa.out); obtain ⟨f30, f31⟩ := flt_cells (bx_at8 BXa.out); obtain ⟨f40, f41⟩ := flt_cells (bx_at6 BXa.out); obtain ⟨f50, f51⟩ := flt_cells (bx_at4 BXa.out); obtain ⟨f60, f61⟩ := flt_cells (bx_at2 BXa.out))
      | (with_reducible refine (SM.out _ _ _ _ _ LUa.out LTa.out).mono ?_; rintro e w11 ⟨rfl, hb11⟩; obtain ⟨g0, g1⟩ := flt_cells (bx_at0 (bx_below BXa.out hb11)); have HAb := Lib.hid (btr HAa.out hb11))))
  go_ret
  exact ⟨rfl, HAb.out⟩
end Go.Proofs.YtldieebiicblbaaGreatDoor.list

/-
  From the row's condition on the listed variables to what day's contracts ask of the memory: the two tables of package day hold what their initialisers lay. Condition: the row's own.
-/
namespace Go.Proofs.YtldieebiicblbaaGreatDoor.day
open Go.ChangeShapes Go.WideShapes Go.ChangeAt Go.RowKit
set_option linter.unusedVariables false
set_option maxRecDepth 100000

theorem laid_at {P : Program} {W : World} {n : String} {d : DataW Unit} {g : Nat} {t : TypeId} (hg : P.globalNamed n = some g) (ht : (P.globals[g]?).map (·.type) = some t) :
    ∀ (l : List (String × DataW Unit)) (ps : List MemPlace), DataW.LaidVars P W l ps → (n, d) ∈ l → ∃ (cs : Array Value) (fuel : Nat) (p : List MemPlace), W.var? P n = some cs ∧ DataW.trod (fun _ => ()) P W 0 (fun _ => true) false fuel t cs.toList = some (d, p)
  | [], _, _, h => by cases h
  | (n', d') :: r, ps, h, hm => by
    obtain ⟨g', t', cs, fuel, p, q, h1, h2, h3, h4, h5, rfl⟩ := h
    rcases List.mem_cons.1 hm with e | hm
    · cases e
      obtain rfl := Option.some.inj (hg.symm.trans h1)
      obtain rfl := Option.some.inj (ht.symm.trans h2)
      exact ⟨cs, fuel, p, h3, h4⟩
    · exact laid_at hg ht r q h5 hm

theorem gLens : Tryz.prog.globalNamed "epact/day.lengths" = some 3 := by kernel_rfl
theorem gSpans : Tryz.prog.globalNamed "epact/day.spans" = some 4 := by kernel_rfl
theorem tLens : (Tryz.prog.globals[3]?).map (·.type) = some 158 := by kernel_rfl
theorem tSpans : (Tryz.prog.globals[4]?).map (·.type) = some 162 := by kernel_rfl
theorem cSpan : Tryz.prog.cellsOf 161 = 3 := by kernel_rfl
theorem cSpans : Tryz.prog.cellsOf 162 = 12 := by kernel_rfl
theorem cInt : Tryz.prog.cellsOf 3 = 1 := by kernel_rfl

theorem span_cells {W : World} {fuel : Nat} {cs : List Value} {a b c : Int} {x : DataW Unit × List MemPlace} (h : DataW.trod (fun _ => ()) Tryz.prog W 0 (fun _ => true) false fuel 161 cs = some x)
    (hx : x.1 = .agg [.lit (.int .i64 a), .lit (.int .i64 b), .lit (.int .i64 c)]) : cs = [.int .i64 a, .int .i64 b, .int .i64 c] := by
  obtain ⟨y0, y1, y2, n, rfl, hl, h0, h1, h2⟩ := Deep.trod_struct3 Tryz.underlying161 h
  obtain ⟨n0, e0, rfl, _⟩ := DataW.trod_int Tryz.underlying3 h0
  obtain ⟨n1, e1, rfl, _⟩ := DataW.trod_int Tryz.underlying3 h1
  obtain ⟨n2, e2, rfl, _⟩ := DataW.trod_int Tryz.underlying3 h2
  simp only [DataW.agg.injEq, List.cons.injEq, DataW.lit.injEq, Lit.int.injEq, true_and, and_true] at hx
  obtain ⟨rfl, rfl, rfl⟩ := hx
  rw [cSpan] at hl
  rw [cInt] at e0 e1 e2
  match cs, hl with
  | [c0, c1, c2], _ => simp at e0 e1 e2; simp [e0, e1, e2]

theorem spans_cells {W : World} {fuel : Nat} {cs : List Value} {p : List MemPlace} (h : DataW.trod (fun _ => ()) Tryz.prog W 0 (fun _ => true) false fuel 162 cs = some (Rows.laid_epact_day_spans, p)) : cs = spanCells := by
  obtain ⟨xs, m, _, hx, hl, hn, hel⟩ := DataW.trod_array Tryz.underlying162 h
  have hd := congrArg Prod.fst hx
  simp only [Rows.laid_epact_day_spans, DataW.agg.injEq] at hd
  rw [cSpans] at hl
  match xs, hn, hd with
  | [x0, x1, x2, x3], _, hd =>
    simp only [List.map_cons, List.map_nil, List.cons.injEq, and_true] at hd
    obtain ⟨d0, d1, d2, d3⟩ := hd
    have k0 := span_cells (hel 0 (by decide)) d0.symm
    have k1 := span_cells (hel 1 (by decide)) d1.symm
    have k2 := span_cells (hel 2 (by decide)) d2.symm
    have k3 := span_cells (hel 3 (by decide)) d3.symm
    rw [cSpan] at k0 k1 k2 k3
    match cs, hl with
    | [c0, c1, c2, c3, c4, c5, c6, c7, c8, c9, c10, c11], _ =>
      simp at k0 k1 k2 k3
      simp [spanCells, k0, k1, k2, k3]

theorem tabs_of {W : World} {l : List (String × DataW Unit)} (h : laidMet Tryz.prog l W) (h1 : ("epact/day.lengths", Rows.laid_epact_day_lengths) ∈ l) (h2 : ("epact/day.spans", Rows.laid_epact_day_spans) ∈ l) : Tabs W := by
  obtain ⟨ps, hL, _, _⟩ := h
  obtain ⟨cs, f, p, hv, ht⟩ := laid_at gLens tLens l ps hL h1
  obtain ⟨cs', f', p', hv', ht'⟩ := laid_at gSpans tSpans l ps hL h2
  have e1 : cs.toList = lens.map fun z => Value.int .i64 z := Lib.cells_of_tab (zs := lens) Tryz.underlying158 Tryz.underlying3 cInt (by kernel_rfl) ht
  have e2 : cs'.toList = spanCells := spans_cells ht'
  refine ⟨fun i hi => ?_, fun j v hv'' => ?_⟩
  · have := World.var?_cell gLens hv i
    rw [this, ← Array.getElem?_toList, e1]
    have hl : i < lens.length := hi
    simp [List.getD, hl]
  · have := World.var?_cell gSpans hv' j
    rw [Nat.zero_add, this, ← Array.getElem?_toList, e2]
    exact hv''
end Go.Proofs.YtldieebiicblbaaGreatDoor.day

/-
  Tables and leaps that came in, as they are read. Conditions: the row's own.
-/
namespace Go.Proofs.YtldieebiicblbaaGreatDoor.leap
open Go.ChangeShapes Go.WideShapes Go.ChangeAt Go.RowKit
open lm mem
set_option linter.unusedVariables false
set_option maxRecDepth 100000

theorem cL : Tryz.prog.cellsOf 40 = 3 := by kernel_rfl
theorem cT : Tryz.prog.cellsOf 24 = 3 := by kernel_rfl
theorem cI : Tryz.prog.cellsOf 3 = 1 := by kernel_rfl
theorem cB : Tryz.prog.cellsOf 4 = 1 := by kernel_rfl
def boolOf : Value → Bool
  | .bool b => b
  | _ => false
def at0 (w : World) (a : Addr) (j : Nat) : Value := (w.cell? (a.add j)).getD undef
/-- the leaps that a slice reads as. -/
def lpsOf (w : World) (a : Addr) (n : Nat) : List Lp := (List.range n).map fun i => (intOf (at0 w a (i * 3)), intOf (at0 w a (i * 3 + 1)), boolOf (at0 w a (i * 3 + 2)))
theorem lpsOf_len (w : World) (a : Addr) (n : Nat) : (lpsOf w a n).length = n := by simp [lpsOf]
theorem lpsOf_at (w : World) (a : Addr) (n k : Nat) (h : k < n) : dy (lpsOf w a n) k = intOf (at0 w a (k * 3)) ∧ lm.st (lpsOf w a n) k = intOf (at0 w a (k * 3 + 1)) ∧ rl (lpsOf w a n) k = boolOf (at0 w a (k * 3 + 2)) := by
  have e : (lpsOf w a n).getD k z3 = (intOf (at0 w a (k * 3)), intOf (at0 w a (k * 3 + 1)), boolOf (at0 w a (k * 3 + 2))) := by
    rw [List.getD_eq_getElem?_getD, List.getElem?_eq_getElem (by rw [lpsOf_len]; exact h)]
    simp [lpsOf]
  unfold dy lm.st rl
  rw [e]
  exact ⟨rfl, rfl, rfl⟩
theorem open_lps {H : Type} {enc : TypeId × Value → H} {W : World} {held : Bool} {fuel : Nat} {v : Value} {x : DataW H × List MemPlace} (h : DataW.trod enc Tryz.prog W 0 (fun _ => true) held fuel 22 [v] = some x) :
    ∃ A c l, v = .slice A (List.length l) c ∧ Lps W A l ∧ List.length l ≤ 9223372036854775807 ∧ List.length l ≤ c := by
  rcases Deep.open_slice Tryz.underlying22 h with ⟨h1, _⟩ | ⟨a, len, cap, m, n, D, Pl, h1, _, h3, h4, h5, _, h7⟩
  · obtain rfl := (List.cons.inj h1).1
    exact ⟨none, 0, [], rfl, fun h => absurd rfl h, by decide, by decide⟩
  · obtain rfl := (List.cons.inj h1).1
    simp only [if_true] at h5
    unfold maxLen at h4
    have cells : ∀ k, k < len → W.cell? (a.add (k * 3)) = some (.int .i64 (dy (lpsOf W a len) k)) ∧ W.cell? (a.add (k * 3 + 1)) = some (.int .i64 (lm.st (lpsOf W a len) k)) ∧ W.cell? (a.add (k * 3 + 2)) = some (.bool (rl (lpsOf W a len) k)) := by
      intro k hk
      obtain ⟨cs', g1, g2⟩ := h7 k (by omega)
      rw [cL] at g1
      obtain ⟨_, hlen, hcell⟩ := World.cells?_some g1
      obtain ⟨xs, n', _, _, _, hxl, hf⟩ := DataW.trod_struct Tryz.underlying40 g2
      match cs', hlen, xs, hxl with
      | [u0, u1, u2], _, [y0, y1, y2], _ =>
        have f0 := hf 0 _ rfl
        have f1 := hf 1 _ rfl
        have f2 := hf 2 _ rfl
        change DataW.trod _ _ _ _ _ _ _ 3 (([u0, u1, u2].drop 0).take (Tryz.prog.cellsOf 3)) = some y0 at f0
        change DataW.trod _ _ _ _ _ _ _ 3 (([u0, u1, u2].drop 1).take (Tryz.prog.cellsOf 3)) = some y1 at f1
        change DataW.trod _ _ _ _ _ _ _ 4 (([u0, u1, u2].drop 2).take (Tryz.prog.cellsOf 4)) = some y2 at f2
        rw [cI] at f0 f1
        rw [cB] at f2
        have c0 := hcell 0 (by decide)
        have c1 := hcell 1 (by decide)
        have c2 := hcell 2 (by decide)
        rw [Deep.add_add] at c0 c1 c2
        obtain ⟨k0, e0, _, _⟩ := DataW.trod_int Tryz.underlying3 f0
        obtain ⟨k1, e1, _, _⟩ := DataW.trod_int Tryz.underlying3 f1
        obtain ⟨k2, e2, _⟩ := DataW.trod_bool Tryz.underlying4 f2
        obtain rfl : u0 = .int .i64 k0 := (List.cons.inj e0).1
        obtain rfl : u1 = .int .i64 k1 := (List.cons.inj e1).1
        obtain rfl : u2 = .bool k2 := (List.cons.inj e2).1
        obtain ⟨i0, i1, i2⟩ := lpsOf_at W a len k hk
        have d0 : W.cell? (a.add (k * 3)) = some (.int .i64 k0) := by simpa using c0
        have d1 : W.cell? (a.add (k * 3 + 1)) = some (.int .i64 k1) := by simpa using c1
        have d2 : W.cell? (a.add (k * 3 + 2)) = some (.bool k2) := by simpa using c2
        rw [i0, i1, i2]
        unfold at0
        rw [d0, d1, d2]
        exact ⟨rfl, rfl, rfl⟩
    refine ⟨some a, cap, lpsOf W a len, by rw [lpsOf_len], fun hne => ?_, by rw [lpsOf_len]; omega, by rw [lpsOf_len]; exact h3⟩
    rw [lpsOf_len] at hne
    obtain ⟨b, off, spot⟩ := a
    have hspot : spot = none := by simpa [Addr.add] using World.cell?_spot (cells 0 (by omega)).1
    subst hspot
    have hz := (cells 0 (by omega)).1
    refine ⟨b, off, rfl, ?_, fun k hk => ?_⟩
    · have := World.block_lt_of_cell? W _ hz
      simpa [Addr.add] using this
    · rw [lpsOf_len] at hk
      obtain ⟨a0, a1, a2⟩ := cells k hk
      rw [Addr.add_mid] at a0 a1 a2
      exact ⟨a0, a1, a2⟩
theorem open_table {H : Type} {enc : TypeId × Value → H} {W : World} {base : Nat} {v : Value} {d : DataW H} {p : List MemPlace} (hv : Value.okWide Tryz.prog W .any base 24 v) (h : DataW.Trod enc Tryz.prog W 0 (fun _ => true) true 24 v d p) :
    ∃ A c l has x, v = .agg #[.slice A (List.length l) c, .bool has, .int .i64 x] ∧ Lps W A l ∧ List.length l ≤ 9223372036854775807 ∧ List.length l ≤ c ∧ (-9223372036854775808 ≤ x ∧ x ≤ 9223372036854775807) := by
  obtain ⟨c0, c1, c2, y0, y1, y2, m, rfl, _, _, hy0, hy1, hy2⟩ := Joins.open_agg3 Tryz.underlying24 (by kernel_rfl) cT hv h
  obtain ⟨A, c, l, rfl, hl, hn, hc⟩ := open_lps hy0
  obtain ⟨b, e1, _⟩ := DataW.trod_bool Tryz.underlying4 hy1
  obtain ⟨x, e2, _, w2⟩ := DataW.trod_int Tryz.underlying3 hy2
  obtain rfl := (List.cons.inj e1).1
  obtain rfl := (List.cons.inj e2).1
  exact ⟨A, c, l, b, x, rfl, hl, hn, hc, bounds_i64 w2⟩
theorem open_leap {H : Type} {enc : TypeId × Value → H} {W : World} {base : Nat} {v : Value} {d : DataW H} {p : List MemPlace} (hv : Value.okWide Tryz.prog W .any base 40 v) (h : DataW.Trod enc Tryz.prog W 0 (fun _ => true) true 40 v d p) :
    ∃ z : Lp, v = .agg #[.int .i64 z.1, .int .i64 z.2.1, .bool z.2.2] := by
  obtain ⟨c0, c1, c2, y0, y1, y2, m, rfl, _, _, hy0, hy1, hy2⟩ := Joins.open_agg3 Tryz.underlying40 (by kernel_rfl) cL hv h
  obtain ⟨a, e0, _, _⟩ := DataW.trod_int Tryz.underlying3 hy0
  obtain ⟨b, e1, _, _⟩ := DataW.trod_int Tryz.underlying3 hy1
  obtain ⟨c, e2, _⟩ := DataW.trod_bool Tryz.underlying4 hy2
  obtain rfl := (List.cons.inj e0).1
  obtain rfl := (List.cons.inj e1).1
  obtain rfl := (List.cons.inj e2).1
  exact ⟨(a, b, c), rfl⟩
end Go.Proofs.YtldieebiicblbaaGreatDoor.leap
