/-
  The small case of layer 10, as plain mathematics: what is read of its texts. No condition.
-/
import Derived.Test.YtpkohihnocblfaaGreatDoorG32
import Derived.Test.YtpkohihnocblfaaGreatDoorG16
import Derived.ChangeKeysEq
import Derived.BigFrame
import Derived.Test.YtpkohihnocblfaaGreatDoorG17
import Derived.Test.YtpkohihnocblfaaGreatDoorG23
import Derived.HandedShaped
import Derived.Lib.LaidTab
namespace Go.Proofs.YtpkohihnocblfaaGreatDoor.ls
open lx nx
open lm (Lp ce dy st)
open list (stE_mark stS_mark stE_data stS_data stE_skip stS_skip mS dS)
set_option linter.unusedVariables false
set_option maxRecDepth 100000

def r1 : List UInt8 := [35, 9, 114, 101, 109, 97, 114, 107]
def r2 : List UInt8 := [35, 36, 9, 32, 51, 54, 55, 54, 57, 50, 52, 56, 48, 48]
def r3 : List UInt8 := [35]
def r4 : List UInt8 := [35, 64, 9, 51, 55, 48, 55, 53, 57, 54, 56, 48, 48]
def r6 : List UInt8 := [50, 50, 55, 50, 48, 54, 48, 56, 48, 48, 9, 49, 48, 9, 35, 32, 49, 32, 74, 97, 110, 32, 49, 57, 55, 50]
def r7 : List UInt8 := [50, 50, 56, 55, 55, 56, 53, 54, 48, 48, 9, 49, 49, 9, 35, 32, 49, 32, 74, 117, 108, 32, 49, 57, 55, 50]
def r8 : List UInt8 := [50, 51, 48, 51, 54, 56, 51, 50, 48, 48, 32, 49, 50]
def r9 : List UInt8 := [35, 104, 32, 49, 32, 50, 32, 51, 32, 52, 32, 53]
def ra : List UInt8 := [50, 50, 55, 50, 48, 54, 48, 56, 48, 48, 32, 49, 48]
def rb : List UInt8 := [50, 50, 56, 55, 55, 56, 53, 54, 48, 48, 32, 49, 50]
def rc' : List UInt8 := [35, 32, 97]
def rd' : List UInt8 := [50, 50, 55, 50, 48, 54, 48, 56, 48, 48, 32, 57]
def re : List UInt8 := [50, 50, 56, 55, 55, 56, 53, 54, 48, 49, 32, 49, 49]
def real : List (List UInt8) := [r1, r2, r3, r4, r3, r6, r7, r8]
def lA : List Lp := [(911, 1, false), (1095, 1, false)]
theorem goodA : lm.Good lA := by
  intro i hi
  match i, hi with
  | 0, _ => exact lm.wr_ok.2 ⟨by decide, by decide, by decide, lm.end_911, by decide, by decide⟩
  | 1, _ => exact lm.wr_ok.2 ⟨by decide, by decide, by decide, lm.end_1095, by decide, by decide⟩
theorem ceA : ce lA true 1498608000 = 0 := lm.ce_ok.2 ⟨goodA, by decide⟩
theorem ce1 : ce [(911, 1, false)] false 0 = 0 := ce_good (good_take goodA 1)
theorem ce2 : ce lA false 0 = 0 := ce_good goodA
theorem skip {l : List UInt8} {s : S} (h : kd l = 0 ∨ kd l = 4) (r : List (List UInt8)) (k : Nat) : run (l :: r) k s = run r (k + 1) (stS l (k + 1) s) := run_go (stE_skip h) r k
theorem mark {l : List UInt8} {s : S} {i : Nat} (hk : kd l = i) (hi : i = 1 ∨ i = 2 ∨ i = 3) (hp : s.p i = 0) (ho : ok l = true) (r : List (List UInt8)) (k : Nat) : run (l :: r) k s = run r (k + 1) (stS l (k + 1) s) := run_go (by rw [stE_mark hk hi, if_pos ⟨hp, ho⟩]) r k
theorem first {l : List UInt8} {s : S} (hk : kd l = 5) (ho : ok l = true) (hp : s.p 5 = 0) (h1 : g1 l = 2272060800) (h2 : g2 l = 10) (r : List (List UInt8)) (k : Nat) : run (l :: r) k s = run r (k + 1) (stS l (k + 1) s) :=
  run_go (by rw [stE_data hk]; unfold dE; rw [ho, if_neg (by decide), if_neg (fun h => h hp), h1, h2]; rfl) r k
theorem next {l : List UInt8} {s : S} (hk : kd l = 5) (ho : ok l = true) (hp : s.p 5 ≠ 0) (h : lE (g1 l) (g2 l - s.ct) s.lv = 0) (r : List (List UInt8)) (k : Nat) : run (l :: r) k s = run r (k + 1) (stS l (k + 1) s) :=
  run_go (by rw [stE_data hk]; unfold dE; rw [ho, if_neg (by decide), if_pos hp, h]) r k
def q1 : S := stS r1 1 S0
def q2 : S := stS r2 2 q1
def q3 : S := stS r3 3 q2
def q4 : S := stS r4 4 q3
def q5 : S := stS r3 5 q4
def q6 : S := stS r6 6 q5
def q7 : S := stS r7 7 q6
def q8 : S := stS r8 8 q7
theorem lE7 : lE (g1 r7) (g2 r7 - q6.ct) q6.lv = 0 := by
  unfold lE
  rw [if_neg (by decide +kernel), if_neg (by decide +kernel), show q6.lv ++ [lp (g1 r7) (g2 r7 - q6.ct)] = [(911, 1, false)] from by decide +kernel]
  exact ce1
theorem lE8 : lE (g1 r8) (g2 r8 - q7.ct) q7.lv = 0 := by
  unfold lE
  rw [if_neg (by decide +kernel), if_neg (by decide +kernel), show q7.lv ++ [lp (g1 r8) (g2 r8 - q7.ct)] = lA from by decide +kernel]
  exact ce2
theorem run_real (r : List (List UInt8)) : run (real ++ r) 0 S0 = run r 8 q8 := by
  show run (r1 :: r2 :: r3 :: r4 :: r3 :: r6 :: r7 :: r8 :: r) 0 S0 = _
  rw [skip (.inr (by decide +kernel)), mark (i := 1) (by decide +kernel) (by decide) (by decide +kernel) (by decide +kernel), skip (.inr (by decide +kernel)), mark (i := 2) (by decide +kernel) (by decide) (by decide +kernel) (by decide +kernel), skip (.inr (by decide +kernel)),
    first (by decide +kernel) (by decide +kernel) (by decide +kernel) (by decide +kernel) (by decide +kernel)]
  show run (r7 :: r8 :: r) 6 q6 = _
  rw [next (by decide +kernel) (by decide +kernel) (by decide +kernel) lE7]
  show run (r8 :: r) 7 q7 = _
  rw [next (by decide +kernel) (by decide +kernel) (by decide +kernel) lE8]
  rfl
theorem q8_facts : q8.p 5 = 6 ∧ q8.p 2 = 4 ∧ q8.p 3 = 0 ∧ q8.lv = lA ∧ q8.ex = 1498608000 := by decide +kernel
theorem parse_real : parse real = ⟨0, 0, lA, true, 1498608000⟩ := by
  have h := run_real []
  rw [List.append_nil, run_nil] at h
  obtain ⟨a, b, c, d, e⟩ := q8_facts
  unfold parse
  rw [h, if_neg (fun k => k rfl)]
  unfold fin
  rw [a, b, c, d, e, if_neg (by decide), if_neg (fun k => k.2 ceA), if_neg (by decide)]
  rfl
theorem bad_run {ls : List (List UInt8)} {n : Nat} {c : Int} {s : S} (h : run ls 0 S0 = ((n, c), s)) (hc : c ≠ 0) : parse ls = bad n c := by
  unfold parse
  rw [h, if_pos hc]
def p1 : S := stS ra 1 S0
theorem parse_c : parse [ra, rb] = bad 2 6 := by
  refine bad_run (s := p1) ?_ (by decide)
  rw [first (by decide +kernel) (by decide +kernel) (by decide +kernel) (by decide +kernel) (by decide +kernel)]
  show run [rb] 1 p1 = _
  have e : stE rb p1 = 6 := by
    rw [stE_data (by decide +kernel)]
    unfold dE
    rw [if_neg (by decide +kernel), if_pos (by decide +kernel)]
    unfold lE
    rw [if_neg (by decide +kernel), if_pos (by decide +kernel)]
  rw [run_no (by rw [e]; decide), e]
theorem parse_d : parse [rc', [], rd'] = bad 3 9 := by
  refine bad_run (s := stS [] 2 (stS rc' 1 S0)) ?_ (by decide)
  rw [skip (.inr (by decide +kernel)), skip (.inl (by decide +kernel))]
  show run [rd'] 2 (stS [] 2 (stS rc' 1 S0)) = _
  have e : stE rd' (stS [] 2 (stS rc' 1 S0)) = 9 := by
    rw [stE_data (by decide +kernel)]
    unfold dE
    rw [if_neg (by decide +kernel), if_neg (by decide +kernel), if_pos (by decide +kernel)]
  rw [run_no (by rw [e]; decide), e]
theorem parse_e : parse [r3] = bad 2 2 := by
  have h : run [r3] 0 S0 = ((0, 0), stS r3 1 S0) := by rw [skip (.inr (by decide +kernel)), run_nil]
  unfold parse
  rw [h, if_neg (fun k => k rfl)]
  unfold fin
  rw [if_pos (by decide +kernel)]
  rfl
theorem parse_f : parse [ra, re] = bad 2 5 := by
  refine bad_run (s := p1) ?_ (by decide)
  rw [first (by decide +kernel) (by decide +kernel) (by decide +kernel) (by decide +kernel) (by decide +kernel)]
  show run [re] 1 p1 = _
  have e : stE re p1 = 5 := by
    rw [stE_data (by decide +kernel)]
    unfold dE
    rw [if_neg (by decide +kernel), if_pos (by decide +kernel)]
    unfold lE
    rw [if_pos (by decide +kernel)]
  rw [run_no (by rw [e]; decide), e]
def q9 : S := stS r9 9 q8
theorem hq_real : hq (real ++ [r9]) 0 ≠ 1 := by
  unfold hq
  rw [show sha.nats (hsh (real ++ [r9])) = [51, 54, 55, 54, 57, 50, 52, 56, 48, 48, 51, 55, 48, 55, 53, 57, 54, 56, 48, 48, 50, 50, 55, 50, 48, 54, 48, 56, 48, 48, 49, 48, 50, 50, 56, 55, 55, 56, 53, 54, 48, 48, 49, 49, 50, 51, 48, 51, 54, 56, 51, 50, 48, 48, 49, 50] from by decide +kernel]
  decide +kernel
theorem parse_g : parse (real ++ [r9]) = bad 9 3 := by
  have h : run (real ++ [r9]) 0 S0 = ((0, 0), q9) := by
    rw [run_real, mark (i := 3) (by decide +kernel) (by decide) (by decide +kernel) (by decide +kernel), run_nil]
    rfl
  have f : q9.p 5 = 6 ∧ q9.p 2 = 4 ∧ q9.p 3 = 9 ∧ q9.lv = lA ∧ q9.ex = 1498608000 ∧ q9.h 0 = 1 := by decide +kernel
  obtain ⟨a, b, c, d, e, g⟩ := f
  unfold parse
  rw [h, if_neg (fun k => k rfl)]
  unfold fin
  have hh : h5 q9.h (hq (real ++ [r9])) = false := by
    cases hx : h5 q9.h (hq (real ++ [r9])) with
    | false => rfl
    | true => exact absurd ((h5_iff.1 hx 0 (by decide)).symm.trans g) hq_real
  rw [a, b, c, d, e, hh, if_neg (by decide), if_neg (fun k => k.2 ceA), if_pos (by decide)]
end Go.Proofs.YtpkohihnocblfaaGreatDoor.ls

/-
  The small case of layer 10 comes out true. Conditions: the listed tables hold what their initialisers lay; the library's variable MaxLen holds some number.
-/
namespace Go.Proofs.YtpkohihnocblfaaGreatDoor.list
open Go.ChangeShapes Go.WideShapes Go.ChangeAt Go.RowKit
open lx ls mem
open leap (tcs Lps sm)
set_option linter.unusedVariables false
set_option maxRecDepth 100000

/-- what layer 10 asks of the memory. -/
structure All (w : World) : Prop where
  tabs : day.Tabs w
  ml : lines.ML w
  st : sha.St w
  pw : Pw w
  tz : ntp.Tz w
theorem All.below {w W : World} (h : All w) (hb : Below w.heap.size w W) : All W := ⟨h.tabs.below hb, h.ml.below hb, h.st.below hb, h.pw.below hb, h.tz.below hb⟩
theorem eqF (a b c d : Int) (W : World) : (Op.equalIn 10000 32 (.agg #[.int .i64 a, .int .i64 b]) (.agg #[.int .i64 c, .int .i64 d])).run Tryz.prog W = .ok (a == c && b == d) W := by
  rw [run_equalIn_struct W 9999 32 _ _ (by kernel_rfl) (by kernel_rfl)]
  have hf : Tryz.prog.fieldsOf 32 = (match Tryz.prog.underlying 32 with | some (.struct fs) => fs | _ => #[]) := by kernel_rfl
  rw [Tryz.underlying32] at hf
  simp only at hf
  rw [hf]
  have p0 : ∀ x y : Int, (part 3 #[.int .i64 x, .int .i64 y] 0).run Tryz.prog W = .ok (.int .i64 x) W := fun x y => by simp [part, isAgg, run_underlying Tryz.underlying3]
  have p1 : ∀ x y : Int, (part 30 #[.int .i64 x, .int .i64 y] 1).run Tryz.prog W = .ok (.int .i64 y) W := fun x y => by simp [part, isAgg, run_underlying Tryz.underlying30]
  have e3 : ∀ x y : Int, (Op.equalIn 9999 3 (.int .i64 x) (.int .i64 y)).run Tryz.prog W = .ok (x == y) W := fun x y => run_equalIn_int W 9998 3 .i64 .i64 x y Tryz.underlying3
  have e4 : ∀ x y : Int, (Op.equalIn 9999 30 (.int .i64 x) (.int .i64 y)).run Tryz.prog W = .ok (x == y) W := fun x y => run_equalIn_int W 9998 30 .i64 .i64 x y Tryz.underlying30
  by_cases h : a = c <;> by_cases h2 : b = d <;> simp [Op.eqFields, Sem.run_bind, p0, p1, e3, e4, h, h2]
/-! the method, asked of the interface -/
/-- blocks that hold what they hold. -/
def Bx (W : World) (l : List (Nat × Obj)) : Prop := ∀ (k : Nat) (p : Nat × Obj), l[k]? = some p → W.heap[p.1]? = some p.2
theorem bx_below {W W' : World} {l : List (Nat × Obj)} (h : Bx W l) (hb : Below W.heap.size W W') : Bx W' l := fun k p hp => kept (h k p hp) hb
theorem bx_one {W : World} {l : List (Nat × Obj)} (h : Bx W l) (a : Obj) : Bx (W.alloc a) ((W.heap.size, a) :: l) := fun k p hp => by
  cases k with
  | zero => cases hp; exact hp_new W a
  | succ k => exact hp_old (h k p hp) a
theorem bx_two {W : World} {l : List (Nat × Obj)} (h : Bx W l) (a b : Obj) : Bx ((W.alloc a).alloc b) ((W.heap.size + 1, b) :: (W.heap.size, a) :: l) := by
  have := bx_one (bx_one h a) b
  rw [show (W.alloc a).heap.size = W.heap.size + 1 by simp] at this
  exact this
theorem bx_at0 {W : World} {x0 : Nat × Obj} {l : List (Nat × Obj)} (h : Bx W (x0 :: l)) : W.heap[x0.1]? = some x0.2 := h 0 _ rfl
theorem bx_at1 {W : World} {x0 x1 : Nat × Obj} {l : List (Nat × Obj)} (h : Bx W (x0 :: x1 :: l)) : W.heap[x1.1]? = some x1.2 := h 1 _ rfl
theorem bx_at2 {W : World} {x0 x1 x2 : Nat × Obj} {l : List (Nat × Obj)} (h : Bx W (x0 :: x1 :: x2 :: l)) : W.heap[x2.1]? = some x2.2 := h 2 _ rfl
theorem bx_at4 {W : World} {x0 x1 x2 x3 x4 : Nat × Obj} {l : List (Nat × Obj)} (h : Bx W (x0 :: x1 :: x2 :: x3 :: x4 :: l)) : W.heap[x4.1]? = some x4.2 := h 4 _ rfl
theorem bx_at6 {W : World} {x0 x1 x2 x3 x4 x5 x6 : Nat × Obj} {l : List (Nat × Obj)} (h : Bx W (x0 :: x1 :: x2 :: x3 :: x4 :: x5 :: x6 :: l)) : W.heap[x6.1]? = some x6.2 := h 6 _ rfl
theorem bx_at8 {W : World} {x0 x1 x2 x3 x4 x5 x6 x7 x8 : Nat × Obj} {l : List (Nat × Obj)} (h : Bx W (x0 :: x1 :: x2 :: x3 :: x4 :: x5 :: x6 :: x7 :: x8 :: l)) : W.heap[x8.1]? = some x8.2 := h 8 _ rfl
theorem bx_at10 {W : World} {x0 x1 x2 x3 x4 x5 x6 x7 x8 x9 x10 : Nat × Obj} {l : List (Nat × Obj)} (h : Bx W (x0 :: x1 :: x2 :: x3 :: x4 :: x5 :: x6 :: x7 :: x8 :: x9 :: x10 :: l)) : W.heap[x10.1]? = some x10.2 := h 10 _ rfl
theorem bx_at12 {W : World} {x0 x1 x2 x3 x4 x5 x6 x7 x8 x9 x10 x11 x12 : Nat × Obj} {l : List (Nat × Obj)} (h : Bx W (x0 :: x1 :: x2 :: x3 :: x4 :: x5 :: x6 :: x7 :: x8 :: x9 :: x10 :: x11 :: x12 :: l)) : W.heap[x12.1]? = some x12.2 := h 12 _ rfl
theorem bx_at14 {W : World} {x0 x1 x2 x3 x4 x5 x6 x7 x8 x9 x10 x11 x12 x13 x14 : Nat × Obj} {l : List (Nat × Obj)} (h : Bx W (x0 :: x1 :: x2 :: x3 :: x4 :: x5 :: x6 :: x7 :: x8 :: x9 :: x10 :: x11 :: x12 :: x13 :: x14 :: l)) : W.heap[x14.1]? = some x14.2 := h 14 _ rfl
theorem bx_at15 {W : World} {x0 x1 x2 x3 x4 x5 x6 x7 x8 x9 x10 x11 x12 x13 x14 x15 : Nat × Obj} {l : List (Nat × Obj)} (h : Bx W (x0 :: x1 :: x2 :: x3 :: x4 :: x5 :: x6 :: x7 :: x8 :: x9 :: x10 :: x11 :: x12 :: x13 :: x14 :: x15 :: l)) : W.heap[x15.1]? = some x15.2 := h 15 _ rfl
theorem bx_four {W : World} {l : List (Nat × Obj)} (h : Bx W l) (a b c d : Obj) : Bx ((((W.alloc a).alloc b).alloc c).alloc d) ((W.heap.size + 1 + 1 + 1, d) :: (W.heap.size + 1 + 1, c) :: (W.heap.size + 1, b) :: (W.heap.size, a) :: l) := by
  have := bx_one (bx_one (bx_two h a b) c) d
  rw [show (((W.alloc a).alloc b).alloc c).heap.size = W.heap.size + 1 + 1 + 1 by simp, show ((W.alloc a).alloc b).heap.size = W.heap.size + 1 + 1 by simp] at this
  exact this
theorem tab_cells {W : World} {g : Nat} {A : Option Addr} {n c : Nat} {has : Bool} {x : Int} (h : W.heap[g]? = some (.cells #[.slice A n c, .bool has, .int .i64 x] 24)) : W.cell? ⟨g, 0, none⟩ = some (.slice A n c) ∧ W.cell? ⟨g, 1, none⟩ = some (.bool has) ∧ W.cell? ⟨g, 2, none⟩ = some (.int .i64 x) := leap.tcs_cells h
theorem b2 (W : World) (a b : Obj) : Below W.heap.size W ((W.alloc a).alloc b) := bal (bal (Below.refl _ _) a) b
/-- Parse of a text, where it is a fault. -/
theorem parse_bad {w : World} (T : All w) (s : ByteArray) (n : Nat) (c : Int) (hs : s.size ≤ 300000) (h : parse ((splitS s).map L) = bad n c) (W : World) (hb : Below w.heap.size w W) :
    Calls Tryz.prog 8 #[.string s] W fun e w' => ∃ A c', e = .returned (.tuple #[.agg #[.slice A 0 c', .bool false, .int .i64 0], .agg #[.int .i64 (n : Nat), .int .i64 c]]) ∧ Below W.heap.size W w' := by
  have T' := T.below hb
  refine (parse_at s W T'.tabs T'.ml T'.st hs).mono ?_
  rw [h]
  rintro e w' ⟨A, c', he, _, _, hb'⟩
  exact ⟨A, c', he, hb'⟩
/-- Parse of a text, where it is a table. -/
theorem parse_good {w : World} (T : All w) (s : ByteArray) (lv : List lm.Lp) (has : Bool) (x : Int) (hs : s.size ≤ 300000) (h : parse ((splitS s).map L) = ⟨0, 0, lv, has, x⟩) (W : World) (hb : Below w.heap.size w W) :
    Calls Tryz.prog 8 #[.string s] W fun e w' => ∃ A c', e = .returned (.tuple #[.agg #[.slice A lv.length c', .bool has, .int .i64 x], .agg #[.int .i64 0, .int .i64 0]]) ∧ Lps w' A lv ∧ Below W.heap.size W w' := by
  have T' := T.below hb
  refine (parse_at s W T'.tabs T'.ml T'.st hs).mono ?_
  rw [h]
  rintro e w' ⟨A, c', he, hl, _, hb'⟩
  exact ⟨A, c', he, hl, hb'⟩
/-- a text, read again. -/
theorem parse_text {w : World} (T : All w) (lv : List lm.Lp) (has : Bool) (x stamp : Int) (h : TOK lv has x stamp) (hs : stamp ≤ 9223372036854775807) (W : World) (hb : Below w.heap.size w W) :
    Calls Tryz.prog 8 #[.string (B (byl (full lv has x stamp)))] W fun e w' => ∃ A c', e = .returned (.tuple #[.agg #[.slice A lv.length c', .bool has, .int .i64 x], .agg #[.int .i64 0, .int .i64 0]]) ∧ Lps w' A lv ∧ Below W.heap.size W w' := by
  have e : (splitS (B (byl (full lv has x stamp)))).map L = full lv has x stamp := by
    unfold splitS
    rw [L_B, spl_all (fin1_full _ _ _ _), List.map_map, show (L ∘ B) = id from funext fun l => L_B l, List.map_id]
  refine parse_good T _ lv has x ?_ (by rw [e]; exact parse_full h hs) W hb
  rw [B_size]
  have hc := h.2.1
  have hg := lm.good_of hc
  have hx := x_bd hc
  have hx2 : x ≤ 9000000000000000000 := by cases has <;> simp at hx <;> omega
  have := part_len (has := has) (x := x) (stamp := stamp) hg hs hx2 lv.length (Nat.le_refl _)
  have h44 : (L (nx.txt (hq (pre lv has x stamp)))).length = 44 := by rw [L_len, nx.txt_size]
  unfold full
  rw [bytes_app, List.length_append]
  have h2 : (byl [hl 9 (hq (pre lv has x stamp))]).length ≤ 100 := by
    unfold byl hl
    simp
    omega
  have h3 : (byl (pre lv has x stamp)).length ≤ 20000 := this
  omega
def tReal : ByteArray := ⟨#[35, 9, 114, 101, 109, 97, 114, 107, 10, 35, 36, 9, 32, 51, 54, 55, 54, 57, 50, 52, 56, 48, 48, 10, 35, 10, 35, 64, 9, 51, 55, 48, 55, 53, 57, 54, 56, 48, 48, 10, 35, 10, 50, 50, 55, 50, 48, 54, 48, 56, 48, 48, 9, 49, 48, 9, 35, 32, 49, 32, 74, 97, 110, 32, 49, 57, 55, 50, 10, 50, 50, 56, 55, 55, 56, 53, 54, 48, 48, 9, 49, 49, 9, 35, 32, 49, 32, 74, 117, 108, 32, 49, 57, 55, 50, 13, 10, 50, 51, 48, 51, 54, 56, 51, 50, 48, 48, 32, 49, 50, 10]⟩
theorem real_lines : (splitS tReal).map L = real := by decide +kernel
theorem realg_lines : (splitS (tReal ++ ⟨#[35, 104, 32, 49, 32, 50, 32, 51, 32, 52, 32, 53, 10]⟩)).map L = real ++ [r9] := by decide +kernel
theorem c_lines : (splitS ⟨#[50, 50, 55, 50, 48, 54, 48, 56, 48, 48, 32, 49, 48, 10, 50, 50, 56, 55, 55, 56, 53, 54, 48, 48, 32, 49, 50, 10]⟩).map L = [ra, rb] := by decide +kernel
theorem d_lines : (splitS ⟨#[35, 32, 97, 10, 10, 50, 50, 55, 50, 48, 54, 48, 56, 48, 48, 32, 57, 10]⟩).map L = [rc', [], rd'] := by decide +kernel
theorem e_lines : (splitS ⟨#[35, 10]⟩).map L = [r3] := by decide +kernel
theorem f_lines : (splitS ⟨#[50, 50, 55, 50, 48, 54, 48, 56, 48, 48, 32, 49, 48, 10, 50, 50, 56, 55, 55, 56, 53, 54, 48, 49, 32, 49, 49, 10]⟩).map L = [ra, re] := by decide +kernel
theorem tokA : TOK lA true 1498608000 7 := ⟨by decide, ceA, by decide⟩
theorem lps_lit (w : World) (a b d : Obj) : Lps ((((w.alloc a).alloc b).alloc (.cells #[.int .i64 911, .int .i64 1, .bool false, .int .i64 1095, .int .i64 1, .bool false] 38)).alloc d) (some ⟨w.heap.size + 1 + 1, 0, none⟩) lA := by
  intro _
  have h : ((((w.alloc a).alloc b).alloc (.cells #[.int .i64 911, .int .i64 1, .bool false, .int .i64 1095, .int .i64 1, .bool false] 38)).alloc d).heap[w.heap.size + 1 + 1]? = some (.cells #[.int .i64 911, .int .i64 1, .bool false, .int .i64 1095, .int .i64 1, .bool false] 38) := by
    have := hp_new ((w.alloc a).alloc b) (.cells #[.int .i64 911, .int .i64 1, .bool false, .int .i64 1095, .int .i64 1, .bool false] 38)
    rw [show ((w.alloc a).alloc b).heap.size = w.heap.size + 1 + 1 by simp] at this
    exact hp_old this d
  refine ⟨w.heap.size + 1 + 1, 0, rfl, by simp, fun k hk => ?_⟩
  match k, hk with
  | 0, _ => exact ⟨row_cell h 0, row_cell h 1, row_cell h 2⟩
  | 1, _ => exact ⟨row_cell h 3, row_cell h 4, row_cell h 5⟩
theorem text_yes {w : World} (T : All w) (A : Option Addr) (c : Nat) (W : World) (hb : Below w.heap.size w W) (hl : Lps W A lA) : Calls Tryz.prog 6 #[.agg #[.slice A 2 c, .bool true, .int .i64 1498608000], .int .i64 7] W fun e w' => e = .returned (.tuple #[.string (B (byl (full lA true 1498608000 7))), .bool true]) ∧ Below W.heap.size W w' := by
  have T' := T.below hb
  refine (text_at lA A c true 1498608000 7 W T'.tabs T'.ml T'.st T'.pw T'.tz hl (by decide) ⟨by decide, by decide⟩).mono ?_
  rintro e w' ⟨hb', ⟨_, he⟩ | ⟨hn, _⟩⟩
  · exact ⟨he, hb'⟩
  · exact absurd tokA hn
theorem text_no {w : World} (T : All w) (A : Option Addr) (c : Nat) (W : World) (hb : Below w.heap.size w W) (hl : Lps W A lA) : Calls Tryz.prog 6 #[.agg #[.slice A 2 c, .bool true, .int .i64 1498608000], .int .i64 (-1)] W fun e w' => e = .returned (.tuple #[.string ⟨#[]⟩, .bool false]) ∧ Below W.heap.size W w' := by
  have T' := T.below hb
  refine (text_at lA A c true 1498608000 (-1) W T'.tabs T'.ml T'.st T'.pw T'.tz hl (by decide) ⟨by decide, by decide⟩).mono ?_
  rintro e w' ⟨hb', ⟨hn, _⟩ | ⟨_, he⟩⟩
  · exact absurd hn.1 (by decide)
  · exact ⟨he, hb'⟩
theorem bx_nil (W : World) : Bx W [] := fun k p h => by simp at h
theorem flt_cells {W : World} {g : Nat} {a b : Int} (h : W.heap[g]? = some (.cells #[.int .i64 a, .int .i64 b] 32)) : W.cell? ⟨g, 0, none⟩ = some (.int .i64 a) ∧ W.cell? ⟨g, 1, none⟩ = some (.int .i64 b) := ⟨row_cell h 0, row_cell h 1⟩
end Go.Proofs.YtpkohihnocblfaaGreatDoor.list

/-
  What the rows of layer 10 say of the memory: the listed tables hold what their initialisers lay, and the library's variable MaxLen holds some number (by the world's shape). Conditions: the rows' own.
-/
namespace Go.Proofs.YtpkohihnocblfaaGreatDoor.list
open Go Go.ChangeShapes Go.WideShapes Go.ChangeAt Go.RowKit
open lx ls mem
set_option linter.unusedVariables false
set_option maxRecDepth 100000

theorem tPow : (Tryz.prog.globals[4]?).map (·.type) = some 156 := by kernel_rfl
theorem cU64 : Tryz.prog.cellsOf 83 = 1 := by kernel_rfl
theorem pw_of {W : World} {l : List (String × DataW Unit)} (h : laidMet Tryz.prog l W) (h2 : ("internal/strconv.uint64pow10", Rows.laid_internal_strconv_uint64pow10) ∈ l) : Pw W := by
  obtain ⟨ps, hL, _, _⟩ := h
  obtain ⟨cs, f', p', hv', ht'⟩ := laid_at gPow tPow l ps hL h2
  have e1 : cs.toList = Lib.pow10Tab.map fun z => Value.int .u64 z := Lib.cells_of_tab (zs := Lib.pow10Tab) Tryz.underlying156 Tryz.underlying83 cU64 (by kernel_rfl) ht'
  unfold Pw Lib.TabIs
  rw [hv', ← e1]
theorem gTab : Tryz.prog.globalNamed "math/bits.deBruijn64tab" = some 8 := by kernel_rfl
theorem tTab : (Tryz.prog.globals[8]?).map (·.type) = some 116 := by kernel_rfl
def tab64 : List Int := [0, 1, 56, 2, 57, 49, 28, 3, 61, 58, 42, 50, 38, 29, 17, 4, 62, 47, 59, 36, 45, 43, 51, 22, 53, 39, 33, 30, 24, 18, 12, 5, 63, 55, 48, 27, 60, 41, 37, 16, 46, 35, 44, 21, 52, 32, 23, 11, 54, 26, 40, 15, 34, 20, 31, 10, 25, 14, 19, 9, 13, 8, 7, 6]
theorem tz_of {W : World} {l : List (String × DataW Unit)} (h : laidMet Tryz.prog l W) (h1 : ("math/bits.deBruijn64tab", Rows.laid_math_bits_deBruijn64tab) ∈ l) : ntp.Tz W := by
  obtain ⟨ps, hL, _, _⟩ := h
  obtain ⟨c, f, p, hv, ht⟩ := laid_at gTab tTab l ps hL h1
  have e1 : c.toList = tab64.map fun z => Value.int .u8 z := Lib.cells_of_tab (zs := tab64) Tryz.underlying116 Tryz.underlying5 sha.cB (by kernel_rfl) ht
  unfold ntp.Tz
  rw [World.var?_cell gTab hv 15, ← Array.getElem?_toList, e1]
  rfl
theorem all_of {W : World} {l : List (String × DataW Unit)} (h : laidMet Tryz.prog l W) (h1 : ("epact/day.lengths", Rows.laid_epact_day_lengths) ∈ l) (h2 : ("epact/day.spans", Rows.laid_epact_day_spans) ∈ l) (h3 : ("math/bits.deBruijn64tab", Rows.laid_math_bits_deBruijn64tab) ∈ l)
    (h4 : ("internal/strconv.uint64pow10", Rows.laid_internal_strconv_uint64pow10) ∈ l) (h5 : ("epact/sha.start", Rows.laid_epact_sha_start) ∈ l) (hsh : W.ShapedOpen Tryz.prog) : All W :=
  ⟨day.tabs_of h h1 h2, lines.ml_of hsh, sha.st_of h h5, pw_of h h4, tz_of h h3⟩
/-- a row with listed variables, whose walk may use the world's shape. -/
theorem handed_both {H : Type} {enc : TypeId × Value → H} {a : Assume} {C : Checked} {os : Os} {f : FuncId} {fn : Func} {s : ChangeSpec} {conds : List PathCond} {apart fresh handsOn again : Bool} {X : World → Array Value → Prop}
    (hX : ∀ (w w' : World) (args : Array Value), w.heap = w'.heap → X w args → X w' args) (own : ownKnob C.prog.godebug = none) (started : os.Started) (noInit : C.prog.inits.idxOf? f = none) (hfn : C.prog.funcs[f]? = some fn)
    (start : ∃ (w : World) (tape : Tape) (i : Input), w.os = os ∧ (w.forCall tape i).Shaped C.prog ∧ i.vars = [] ∧ Input.okWide C.prog (w.forCall tape i) .any w.heap.size f i ∧
      ((s.pre enc C.prog fn conds apart (w.forCall tape i).memory i.args ∧ X (w.forCall tape i).memory i.args) ∧ sizedMet enc C.prog fn (OpenSpec.ofChange s) apart (w.forCall tape i).memory i.args) ∧ a.holds C.prog (lone (Frame.enter C.prog f i.args .normal) [] (w.forCall tape i)))
    (walk : ∀ (W : World) (base : Nat) (args : Array Value) (ds gs : List (DataW H)) (before : List MemPlace), (∀ (j : Nat) t v, fn.params[j]? = some t → args[j]? = some v → Value.okWide C.prog W .any base t v) → DataW.Whole enc C.prog fn.params.toList s.vars apart W args.toList ds gs before →
      conds.all (PathCond.test C.prog ⟨fn.params.toList, ds, s.plain.varTypes C.prog, gs⟩) = true → (DataW.weightsEach C.prog (fn.params.toList ++ s.plain.varTypes C.prog) (ds ++ gs)).all (· ≤ reachBytes) = true → X W args → W.ShapedOpen C.prog →
      a.holds C.prog (lone (Frame.enter C.prog f args .normal) [] W) → Calls C.prog f args W fun e W' => ∃ v, e = .returned v ∧ s.post enc C.prog fn apart fresh handsOn again W args v W') :
    ReturnsInHanded a C os f .any (fun w args => (s.pre enc C.prog fn conds apart w args ∧ X w args) ∧ sizedMet enc C.prog fn (OpenSpec.ofChange s) apart w args) (s.post enc C.prog fn apart fresh handsOn again) := by
  refine returnsInHanded_of_calls own started noInit start fun w tape i _ shape _ fine met holds => ?_
  obtain ⟨_, _, _, gn, hgn, _, _, _, _, vals⟩ := fine
  cases Option.some.inj (hgn.symm.trans hfn)
  obtain ⟨⟨⟨ds, gs, before, whole, cnd⟩, x⟩, size⟩ := met
  have done := walk (w.forCall tape i) w.heap.size i.args ds gs before vals (DataW.Whole.of_heap (w' := w.forCall tape i) (by rfl) whole) cnd (size.weights whole) (hX _ _ _ (by rfl) x) shape holds
  exact done.mono fun e W' ⟨v, he, post⟩ => by
    subst he
    exact ChangeSpec.post_blind post
end Go.Proofs.YtpkohihnocblfaaGreatDoor.list
