/-
  Plain mathematics of SHA-1 over natural numbers: words of four bytes, what is padded, blocks, digests, digits of base 16; and arrays of numbers as cells. Nothing of any program. Conditions: as said.
-/
import Derived.Test.YtldieebiicblbaaGreatDoorRows
import Derived.Laws.BitsAllLaws
import Derived.WalkKit
import Derived.ProofKit
import Derived.OpenShut
import Derived.IntWalk
import Derived.Deep.QuietTactic
import Derived.BigQuiet
import Derived.Lib.Hide
import Derived.RegionTactic
import Derived.BigRegion
import Derived.StillTailTactics
import Derived.Laws.Rows
import Derived.Laws.Tables
import Derived.Deep.WholeRow
namespace Go.Proofs.YtldieebiicblbaaGreatDoor.sx
set_option linter.unusedVariables false
set_option maxRecDepth 100000

/-! arrays of numbers as cells -/
def cs (K : IntKind) (g : Nat → Nat) (n : Nat) : Array Value := ((List.range n).map fun j => Value.int K (g j : Nat)).toArray
theorem cs_size (K : IntKind) (g : Nat → Nat) (n : Nat) : (cs K g n).size = n := by simp [cs]
theorem cs_get (K : IntKind) (g : Nat → Nat) (n j : Nat) (h : j < n) : (cs K g n)[j]? = some (.int K (g j : Nat)) := by simp [cs, h]
theorem cs_set (K : IntKind) (g g' : Nat → Nat) (n i : Nat) (v : Value) (hv : v = .int K (g' i : Nat)) (h : ∀ j, j < n → j ≠ i → g' j = g j) : (cs K g n).setIfInBounds i v = cs K g' n := by
  subst hv
  apply Array.ext_getElem?
  intro j
  rw [Array.getElem?_setIfInBounds]
  by_cases hj : j < n
  · rw [cs_get K g' n j hj]
    by_cases e : i = j
    · subst e; simp [cs_size, hj]
    · rw [if_neg e, cs_get K g n j hj, h j hj (fun k => e k.symm)]
  · have e1 : (cs K g n)[j]? = none := Array.getElem?_eq_none (by rw [cs_size]; omega)
    have e2 : (cs K g' n)[j]? = none := Array.getElem?_eq_none (by rw [cs_size]; omega)
    rw [e1, e2]
    by_cases e : i = j
    · subst e; simp [cs_size, hj]
    · rw [if_neg e]
theorem cs_congr (K : IntKind) (g g' : Nat → Nat) (n : Nat) (h : ∀ j, j < n → g j = g' j) : cs K g n = cs K g' n := by
  unfold cs
  congr 1
  apply List.map_congr_left
  intro j hj
  rw [h j (List.mem_range.1 hj)]
theorem cs_inj {K : IntKind} {g g' : Nat → Nat} {n : Nat} (h : cs K g n = cs K g' n) (j : Nat) (hj : j < n) : g j = g' j := by
  have e := congrArg (fun a => a[j]?) h
  simp only [cs_get K g n j hj, cs_get K g' n j hj, Option.some.injEq, Value.int.injEq, true_and] at e
  omega
theorem cs_one (K : IntKind) (g : Nat → Nat) (n : Nat) : (cs K g n).all (·.oneCell') = true := by
  simp [cs, Value.oneCell']

/-! words of four bytes -/
def pre (f : Nat → Nat) (i : Nat) : Nat → Nat
  | 0 => 0
  | j + 1 => pre f i j * 256 + f (4 * i + j)
def prt (f : Nat → Nat) (k i : Nat) : Nat := pre f i (min (k - 4 * i) 4)
def word (f : Nat → Nat) (i : Nat) : Nat := pre f i 4
def Byt (f : Nat → Nat) (n : Nat) : Prop := ∀ j, j < n → f j < 256
theorem pre_lt (f : Nat → Nat) (i : Nat) : ∀ j, (∀ m, m < j → f (4 * i + m) < 256) → pre f i j < 256 ^ j
  | 0, _ => by simp [pre]
  | j + 1, h => by
    have a := pre_lt f i j (fun m hm => h m (by omega))
    have b := h j (by omega)
    have e : (256 : Nat) ^ (j + 1) = 256 ^ j * 256 := rfl
    rw [pre, e]
    have : (pre f i j + 1) * 256 ≤ 256 ^ j * 256 := Nat.mul_le_mul_right _ a
    omega
theorem pre_small (f : Nat → Nat) (n k : Nat) (hb : Byt f n) (hk : k < n) : pre f (k / 4) (k % 4) < 16777216 := by
  have a := pre_lt f (k / 4) (k % 4) (fun m hm => hb _ (by omega))
  have b : 256 ^ (k % 4) ≤ 256 ^ 3 := Nat.pow_le_pow_right (by decide) (by omega)
  have : (256 : Nat) ^ 3 = 16777216 := rfl
  omega
theorem word_lt (f : Nat → Nat) (n i : Nat) (hb : Byt f n) (hi : 4 * i + 4 ≤ n) : word f i < 4294967296 := pre_lt f i 4 (fun m hm => hb _ (by omega))
theorem prt_at (f : Nat → Nat) (k : Nat) : prt f k (k / 4) = pre f (k / 4) (k % 4) := by
  unfold prt
  rw [show min (k - 4 * (k / 4)) 4 = k % 4 by omega]
theorem prt_next (f : Nat → Nat) (k : Nat) : prt f (k + 1) (k / 4) = pre f (k / 4) (k % 4) * 256 + f k := by
  unfold prt
  rw [show min (k + 1 - 4 * (k / 4)) 4 = k % 4 + 1 by omega, pre, show 4 * (k / 4) + k % 4 = k by omega]
theorem prt_other (f : Nat → Nat) (k i : Nat) (h : i ≠ k / 4) : prt f (k + 1) i = prt f k i := by
  unfold prt
  rw [show min (k + 1 - 4 * i) 4 = min (k - 4 * i) 4 by omega]
theorem prt_zero (f : Nat → Nat) (i : Nat) : prt f 0 i = 0 := by
  unfold prt; rw [show min (0 - 4 * i) 4 = 0 by omega]; rfl
theorem prt_all (f : Nat → Nat) (n i : Nat) (h : 4 * i + 4 ≤ n) : prt f n i = word f i := by
  unfold prt word; rw [show min (n - 4 * i) 4 = 4 by omega]
theorem prt_none (f : Nat → Nat) (n i : Nat) (h : n ≤ 4 * i) : prt f n i = 0 := by
  unfold prt; rw [show min (n - 4 * i) 4 = 0 by omega]; rfl
/-- one byte more behind a word's. -/
theorem or_byte (x c : Nat) (hx : x < 16777216) (hc : c < 256) : bits .or .u32 ((x : Int) * 256) (c : Int) = ((x * 256 + c : Nat) : Int) := by
  rw [show (x : Int) * 256 = ((2 ^ 8 * x : Nat) : Int) by omega, u32_or_nat _ _ (by omega) (by omega), ← Nat.two_pow_add_eq_or_of_lt (by omega)]
  omega

/-! words turned, mixed -/
def rot (x n : Nat) : Nat := (x * 2 ^ n % 4294967296) ||| (x / 2 ^ (32 - n))
def ff (i b c d : Nat) : Nat :=
  if i < 20 then (b &&& c) ^^^ ((4294967295 - b) &&& d) else if i < 40 then b ^^^ c ^^^ d else if i < 60 then (b &&& c) ^^^ (b &&& d) ^^^ (c &&& d) else b ^^^ c ^^^ d
def kk (i : Nat) : Nat := if i < 20 then 1518500249 else if i < 40 then 1859775393 else if i < 60 then 2400959708 else 3395469782
theorem rot_lt (x n : Nat) (hx : x < 4294967296) : rot x n < 4294967296 := by
  unfold rot
  have h1 : x * 2 ^ n % 4294967296 < 2 ^ 32 := Nat.mod_lt _ (by decide)
  have h2 : x / 2 ^ (32 - n) < 2 ^ 32 := Nat.lt_of_le_of_lt (Nat.div_le_self _ _) (by omega)
  exact Nat.or_lt_two_pow h1 h2
theorem and32 {x y : Nat} (hx : x < 4294967296) : x &&& y < 4294967296 := Nat.lt_of_le_of_lt Nat.and_le_left hx
theorem xor32 {x y : Nat} (hx : x < 4294967296) (hy : y < 4294967296) : x ^^^ y < 4294967296 := Nat.xor_lt_two_pow (n := 32) hx hy
theorem ff_lt (i b c d : Nat) (hb : b < 4294967296) (hc : c < 4294967296) (hd : d < 4294967296) : ff i b c d < 4294967296 := by
  unfold ff
  split
  · exact xor32 (and32 hb) (and32 (by omega))
  split
  · exact xor32 (xor32 hb hc) hd
  split
  · exact xor32 (xor32 (and32 hb) (and32 hb)) (and32 hc)
  · exact xor32 (xor32 hb hc) hd
theorem kk_lt (i : Nat) : kk i < 4294967296 := by
  unfold kk
  split
  · decide
  split
  · decide
  split
  · decide
  · decide

structure V5 where
  a : Nat
  b : Nat
  c : Nat
  d : Nat
  e : Nat
def V5.Ok (s : V5) : Prop := s.a < 4294967296 ∧ s.b < 4294967296 ∧ s.c < 4294967296 ∧ s.d < 4294967296 ∧ s.e < 4294967296
def V5.at (s : V5) : Nat → Nat
  | 0 => s.a
  | 1 => s.b
  | 2 => s.c
  | 3 => s.d
  | _ => s.e
def tt (i wi : Nat) (s : V5) : Nat := (rot s.a 5 + ff i s.b s.c s.d + s.e + kk i + wi) % 4294967296
def step (i wi : Nat) (s : V5) : V5 := ⟨tt i wi s, s.a, rot s.b 30, s.c, s.d⟩
def stps (w : Nat → Nat) (s : V5) : Nat → V5
  | 0 => s
  | i + 1 => step i (w i) (stps w s i)
theorem step_ok {i wi : Nat} {s : V5} (h : s.Ok) : (step i wi s).Ok := ⟨Nat.mod_lt _ (by decide), h.1, rot_lt _ _ h.2.1, h.2.2.1, h.2.2.2.1⟩
theorem stps_ok (w : Nat → Nat) {s : V5} (h : s.Ok) : ∀ i, (stps w s i).Ok
  | 0 => h
  | i + 1 => step_ok (stps_ok w h i)
theorem at_lt {s : V5} (h : s.Ok) (j : Nat) : s.at j < 4294967296 := by
  obtain ⟨h1, h2, h3, h4, h5⟩ := h
  unfold V5.at
  split <;> assumption

/-! the words of a block -/
def nxt (f : Nat → Nat) (l : List Nat) (i : Nat) : Nat := if i < 16 then word f i else rot (l.getD (i - 3) 0 ^^^ l.getD (i - 8) 0 ^^^ l.getD (i - 14) 0 ^^^ l.getD (i - 16) 0) 1
def wl (f : Nat → Nat) : Nat → List Nat
  | 0 => []
  | i + 1 => wl f i ++ [nxt f (wl f i) i]
def wd (f : Nat → Nat) (i : Nat) : Nat := nxt f (wl f i) i
theorem wl_len (f : Nat → Nat) : ∀ i, (wl f i).length = i
  | 0 => rfl
  | i + 1 => by simp [wl, wl_len f i]
theorem wl_at (f : Nat → Nat) : ∀ i j, j < i → (wl f i).getD j 0 = wd f j
  | 0, _, h => by omega
  | i + 1, j, h => by
    rw [wl]
    by_cases e : j = i
    · subst e
      simp [List.getD, wl_len, wd]
    · have hj : j < i := by omega
      have := wl_at f i j hj
      simp only [List.getD] at this ⊢
      rw [List.getElem?_append_left (by rw [wl_len]; exact hj)]
      exact this
theorem wd_small (f : Nat → Nat) (i : Nat) (h : i < 16) : wd f i = word f i := by unfold wd nxt; rw [if_pos h]
theorem wd_great (f : Nat → Nat) (i : Nat) (h : 16 ≤ i) : wd f i = rot (wd f (i - 3) ^^^ wd f (i - 8) ^^^ wd f (i - 14) ^^^ wd f (i - 16)) 1 := by
  rw [wd, nxt, if_neg (by omega), wl_at f i _ (by omega), wl_at f i _ (by omega), wl_at f i _ (by omega), wl_at f i _ (by omega)]
theorem wd_lt (f : Nat → Nat) (hb : Byt f 64) : ∀ i, wd f i < 4294967296 := by
  intro i
  induction i using Nat.strongRecOn with
  | _ i ih =>
    by_cases h : i < 16
    · rw [wd_small f i h]; exact word_lt f 64 i hb (by omega)
    · rw [wd_great f i (by omega)]
      exact rot_lt _ _ (xor32 (xor32 (xor32 (ih _ (by omega)) (ih _ (by omega))) (ih _ (by omega))) (ih _ (by omega)))
theorem word_congr (f g : Nat → Nat) (i : Nat) (h : ∀ j, j < 4 → f (4 * i + j) = g (4 * i + j)) : word f i = word g i := by
  unfold word
  simp only [pre]
  rw [h 0 (by omega), h 1 (by omega), h 2 (by omega), h 3 (by omega)]
theorem wd_congr (f g : Nat → Nat) (h : ∀ j, j < 64 → f j = g j) : ∀ i, wd f i = wd g i := by
  intro i
  induction i using Nat.strongRecOn with
  | _ i ih =>
    by_cases hi : i < 16
    · rw [wd_small f i hi, wd_small g i hi]; exact word_congr f g i (fun j hj => h _ (by omega))
    · rw [wd_great f i (by omega), wd_great g i (by omega), ih _ (by omega), ih _ (by omega), ih _ (by omega), ih _ (by omega)]
theorem stps_congr (w w' : Nat → Nat) (s : V5) (h : ∀ i, w i = w' i) : ∀ i, stps w s i = stps w' s i
  | 0 => rfl
  | i + 1 => by rw [stps, stps, stps_congr w w' s h i, h i]

/-- the words behind a block. -/
def add32 (x y : Nat) : Nat := (x + y) % 4294967296
def mixV (h : V5) (f : Nat → Nat) : V5 :=
  let s := stps (wd f) h 80
  ⟨add32 h.a s.a, add32 h.b s.b, add32 h.c s.c, add32 h.d s.d, add32 h.e s.e⟩
theorem mixV_ok (h : V5) (f : Nat → Nat) : (mixV h f).Ok := ⟨Nat.mod_lt _ (by decide), Nat.mod_lt _ (by decide), Nat.mod_lt _ (by decide), Nat.mod_lt _ (by decide), Nat.mod_lt _ (by decide)⟩
theorem mixV_congr (h : V5) (f g : Nat → Nat) (e : ∀ j, j < 64 → f j = g j) : mixV h f = mixV h g := by
  unfold mixV
  rw [stps_congr (wd f) (wd g) h (wd_congr f g e) 80]
def start : V5 := ⟨1732584193, 4023233417, 2562383102, 271733878, 3285377520⟩
theorem start_ok : start.Ok := by unfold V5.Ok start; decide

/-! all blocks of a row of bytes -/
def at0 (m : List Nat) (k j : Nat) : Nat := m.getD (64 * k + j) 0
def hs (m : List Nat) : Nat → V5
  | 0 => start
  | k + 1 => mixV (hs m k) (at0 m k)
theorem hs_ok (m : List Nat) : ∀ k, (hs m k).Ok
  | 0 => start_ok
  | k + 1 => mixV_ok _ _
theorem hs_app (m p : List Nat) : ∀ k, 64 * k ≤ m.length → hs (m ++ p) k = hs m k
  | 0, _ => rfl
  | k + 1, h => by
    rw [hs, hs, hs_app m p k (by omega)]
    apply mixV_congr
    intro j hj
    unfold at0
    simp only [List.getD]
    rw [List.getElem?_append_left (by omega)]
def Bys (m : List Nat) : Prop := ∀ x ∈ m, x < 256
theorem bys_app {m p : List Nat} (h : Bys m) (k : Bys p) : Bys (m ++ p) := by
  intro x hx
  rcases List.mem_append.1 hx with h' | h'
  · exact h x h'
  · exact k x h'
theorem getD_lt {m : List Nat} (h : Bys m) (j : Nat) : m.getD j 0 < 256 := by
  by_cases hj : j < m.length
  · simp only [List.getD, List.getElem?_eq_getElem hj]
    exact h _ (List.getElem_mem _)
  · simp [List.getD, List.getElem?_eq_none (Nat.le_of_not_lt hj)]

/-! what is padded -/
def eight (n : Nat) : List Nat := (List.range 8).map fun k => n * 8 / 2 ^ (8 * (7 - k)) % 256
def zz (n : Nat) : Nat := (119 - n % 64) % 64
def pad (n : Nat) : List Nat := 128 :: (List.replicate (zz n) 0 ++ eight n)
theorem pad_len (n : Nat) : (pad n).length = zz n + 9 := by simp [pad, eight]
theorem pad_bys (n : Nat) : Bys (pad n) := by
  intro x hx
  simp only [pad, List.mem_cons, List.mem_append, List.mem_replicate, eight, List.mem_map] at hx
  rcases hx with rfl | ⟨_, rfl⟩ | ⟨k, _, rfl⟩
  · decide
  · decide
  · exact Nat.mod_lt _ (by decide)
theorem pad_mult (n : Nat) : (n + (pad n).length) % 64 = 0 := by rw [pad_len]; unfold zz; omega

/-! digests -/
def sumV (m : List Nat) : V5 := hs (m ++ pad m.length) ((m.length + (zz m.length + 9)) / 64)
theorem sumV_ok (m : List Nat) : (sumV m).Ok := hs_ok _ _
def dig (s : V5) (k : Nat) : Nat := s.at (k / 4) / 2 ^ (8 * (3 - k % 4)) % 256
theorem dig_lt (s : V5) (k : Nat) : dig s k < 256 := Nat.mod_lt _ (by decide)

def abc : V5 := ⟨2845392438, 1191608682, 3124634993, 2018558572, 2630932637⟩
def nil : V5 := ⟨3661210606, 1584089869, 844480495, 2506102928, 2950170377⟩
theorem V5.eta (s : V5) : s = ⟨s.a, s.b, s.c, s.d, s.e⟩ := rfl
set_option maxRecDepth 100000 in
theorem sum_abc : sumV [97, 98, 99] = abc := by
  have h : sumV [97, 98, 99] = mixV start (at0 ([97, 98, 99] ++ pad 3) 0) := rfl
  rw [h, V5.eta (mixV start (at0 ([97, 98, 99] ++ pad 3) 0))]
  unfold abc
  congr 1 <;> decide +kernel
set_option maxRecDepth 100000 in
theorem sum_nil : sumV [] = nil := by
  have h : sumV [] = mixV start (at0 ([] ++ pad 0) 0) := rfl
  rw [h, V5.eta (mixV start (at0 ([] ++ pad 0) 0))]
  unfold nil
  congr 1 <;> decide +kernel
end Go.Proofs.YtldieebiicblbaaGreatDoor.sx

/-
  What math/bits' RotateLeft32 and the document's own turn answer, and what f and k of a step are, in sha and in the document's own answer. Condition: the arguments are words.
-/
namespace Go.Proofs.YtldieebiicblbaaGreatDoor.sha
open Go.ChangeShapes Go.WideShapes Go.ChangeAt Go.RowKit
open sx
set_option linter.unusedVariables false
set_option maxRecDepth 100000

theorem rot_bits (x n : Nat) (hx : x < 4294967296) : bits .or .u32 ((x : Int) * 2 ^ n % 4294967296) ((x : Int) / 2 ^ (32 - n)) = ((rot x n : Nat) : Int) := by
  have e1 : (x : Int) * 2 ^ n % 4294967296 = ((x * 2 ^ n % 4294967296 : Nat) : Int) := by
    rw [Int.natCast_emod, Int.natCast_mul, Int.natCast_pow]; rfl
  have e2 : (x : Int) / 2 ^ (32 - n) = ((x / 2 ^ (32 - n) : Nat) : Int) := by rw [Int.natCast_ediv, Int.natCast_pow]; rfl
  rw [e1, e2, u32_or_nat _ _ (Nat.mod_lt _ (by decide)) (Nat.lt_of_le_of_lt (Nat.div_le_self _ _) hx)]
  rfl
theorem rotl (x : Nat) (n : Nat) (w : World) (hx : x < 4294967296) (h1 : 1 ≤ n) (h2 : n ≤ 31) : Calls Tryz.prog 112 #[.int .u32 (x : Nat), .int .i64 (n : Nat)] w fun e w' => e = .returned (.int .u32 (rot x n : Nat)) ∧ w = w' := by
  have hb : bits .and .u64 (n : Int) 31 = (n : Int) := by
    rw [show (31 : Int) = ((31 : Nat) : Int) from rfl, u64_and_nat _ _ (by omega) (by omega), show (31 : Nat) = 2 ^ 5 - 1 from rfl, Nat.and_two_pow_sub_one_eq_mod]
    rw [Nat.mod_eq_of_lt (by omega)]
  have hr := rot_bits x n hx
  go_enter Tryz.func112, Tryz.ntmps112
  go_wp2
  go_ret
  exact ⟨by first | rfl | rw [hr], rfl⟩
theorem rot1 (x : Nat) (w : World) (hx : x < 4294967296) : Calls Tryz.prog 112 #[.int .u32 (x : Nat), .int .i64 1] w fun e w' => e = .returned (.int .u32 (rot x 1 : Nat)) ∧ w = w' := rotl x 1 w hx (by decide) (by decide)
theorem rot5 (x : Nat) (w : World) (hx : x < 4294967296) : Calls Tryz.prog 112 #[.int .u32 (x : Nat), .int .i64 5] w fun e w' => e = .returned (.int .u32 (rot x 5 : Nat)) ∧ w = w' := rotl x 5 w hx (by decide) (by decide)
theorem rot30 (x : Nat) (w : World) (hx : x < 4294967296) : Calls Tryz.prog 112 #[.int .u32 (x : Nat), .int .i64 30] w fun e w' => e = .returned (.int .u32 (rot x 30 : Nat)) ∧ w = w' := rotl x 30 w hx (by decide) (by decide)

/-! f and k of a step -/
theorem band (x y : Nat) (hx : x < 4294967296) (hy : y < 4294967296) : bits .and .u32 (x : Int) (y : Int) = ((x &&& y : Nat) : Int) := u32_and_nat x y hx hy
theorem bxor (x y : Nat) (hx : x < 4294967296) (hy : y < 4294967296) : bits .xor .u32 (x : Int) (y : Int) = ((x ^^^ y : Nat) : Int) := u32_xor_nat x y hx hy
theorem bnot (x : Nat) (hx : x < 4294967296) : bits .xor .u32 IntKind.u32.max (x : Int) = ((4294967295 - x : Nat) : Int) := by
  have e : IntKind.u32.max = ((4294967295 : Nat) : Int) := by decide
  rw [e, u32_xor_nat _ _ (by decide) hx]
  congr 1
  have h := congrArg BitVec.toNat (BitVec.allOnes_xor (x := BitVec.ofNat 32 x))
  rw [BitVec.toNat_xor, BitVec.toNat_allOnes, BitVec.toNat_not, BitVec.toNat_ofNat, Nat.mod_eq_of_lt (by omega)] at h
  simpa using h
theorem f0 (b c d : Nat) (hb : b < 4294967296) (hc : c < 4294967296) (hd : d < 4294967296) : bits .xor .u32 (bits .and .u32 (b : Int) (c : Int)) (bits .and .u32 (bits .xor .u32 IntKind.u32.max (b : Int)) (d : Int)) = (((b &&& c) ^^^ ((4294967295 - b) &&& d) : Nat) : Int) := by
  rw [bnot b hb, band _ _ hb hc, band _ _ (by omega) hd, bxor _ _ (and32 hb) (and32 (by omega))]
theorem f1 (b c d : Nat) (hb : b < 4294967296) (hc : c < 4294967296) (hd : d < 4294967296) : bits .xor .u32 (bits .xor .u32 (b : Int) (c : Int)) (d : Int) = ((b ^^^ c ^^^ d : Nat) : Int) := by
  rw [bxor _ _ hb hc, bxor _ _ (xor32 hb hc) hd]
theorem f2 (b c d : Nat) (hb : b < 4294967296) (hc : c < 4294967296) (hd : d < 4294967296) : bits .xor .u32 (bits .xor .u32 (bits .and .u32 (b : Int) (c : Int)) (bits .and .u32 (b : Int) (d : Int))) (bits .and .u32 (c : Int) (d : Int)) = (((b &&& c) ^^^ (b &&& d) ^^^ (c &&& d) : Nat) : Int) := by
  rw [band _ _ hb hc, band _ _ hb hd, band _ _ hc hd, bxor _ _ (and32 hb) (and32 hb), bxor _ _ (xor32 (and32 hb) (and32 hb)) (and32 hc)]
theorem ret_two {a a' b b' : Int} (h1 : a = a') (h2 : b = b') : Ending.returned (.tuple #[.int .u32 a, .int .u32 b]) = .returned (.tuple #[.int .u32 a', .int .u32 b']) := by rw [h1, h2]
theorem ret_one {k : IntKind} {a a' : Int} (h1 : a = a') : Ending.returned (.int k a) = .returned (.int k a') := by rw [h1]
theorem chosen_any (i b c d : Nat) (w : World) (hi : i < 80) (hb : b < 4294967296) (hc : c < 4294967296) (hd : d < 4294967296) :
    Calls Tryz.prog 111 #[.int .i64 (i : Nat), .int .u32 (b : Nat), .int .u32 (c : Nat), .int .u32 (d : Nat)] w fun e w' => e = .returned (.tuple #[.int .u32 (ff i b c d : Nat), .int .u32 (kk i : Nat)]) ∧ w = w' := by
  have hs : IntKind.u32.signed = false := rfl
  have E0 := Lib.hid (f0 b c d hb hc hd)
  have E1 := Lib.hid (f1 b c d hb hc hd)
  have E2 := Lib.hid (f2 b c d hb hc hd)
  rcases (show i < 20 ∨ (20 ≤ i ∧ i < 40) ∨ (40 ≤ i ∧ i < 60) ∨ 60 ≤ i by omega) with h | ⟨h, h'⟩ | ⟨h, h'⟩ | h
  · have t0 : ((i : Int) / 20 == 0) = true := by simp; omega
    have F := Lib.hid (show ff i b c d = _ from if_pos h)
    have G := Lib.hid (show kk i = _ from if_pos h)
    go_enter Tryz.func111, Tryz.ntmps111
    go_wp2
    go_ret2
    exact ⟨ret_two (by rw [F.out]; exact E0.out) (by rw [G.out]; rfl), rfl⟩
  · have t0 : ((i : Int) / 20 == 0) = false := by simp; omega
    have t1 : ((i : Int) / 20 == 1) = true := by simp; omega
    have F := Lib.hid (show ff i b c d = b ^^^ c ^^^ d by unfold ff; rw [if_neg (by omega), if_pos h'])
    have G := Lib.hid (show kk i = 1859775393 by unfold kk; rw [if_neg (by omega), if_pos h'])
    go_enter Tryz.func111, Tryz.ntmps111
    go_wp2
    go_ret2
    exact ⟨ret_two (by rw [F.out]; exact E1.out) (by rw [G.out]; rfl), rfl⟩
  · have t0 : ((i : Int) / 20 == 0) = false := by simp; omega
    have t1 : ((i : Int) / 20 == 1) = false := by simp; omega
    have t2 : ((i : Int) / 20 == 2) = true := by simp; omega
    have F := Lib.hid (show ff i b c d = (b &&& c) ^^^ (b &&& d) ^^^ (c &&& d) by unfold ff; rw [if_neg (by omega), if_neg (by omega), if_pos h'])
    have G := Lib.hid (show kk i = 2400959708 by unfold kk; rw [if_neg (by omega), if_neg (by omega), if_pos h'])
    go_enter Tryz.func111, Tryz.ntmps111
    go_wp2
    go_ret2
    exact ⟨ret_two (by rw [F.out]; exact E2.out) (by rw [G.out]; rfl), rfl⟩
  · have t0 : ((i : Int) / 20 == 0) = false := by simp; omega
    have t1 : ((i : Int) / 20 == 1) = false := by simp; omega
    have t2 : ((i : Int) / 20 == 2) = false := by simp; omega
    have F := Lib.hid (show ff i b c d = b ^^^ c ^^^ d by unfold ff; rw [if_neg (by omega), if_neg (by omega), if_neg (by omega)])
    have G := Lib.hid (show kk i = 3395469782 by unfold kk; rw [if_neg (by omega), if_neg (by omega), if_neg (by omega)])
    go_enter Tryz.func111, Tryz.ntmps111
    go_wp2
    go_ret2
    exact ⟨ret_two (by rw [F.out]; exact E1.out) (by rw [G.out]; rfl), rfl⟩
end Go.Proofs.YtldieebiicblbaaGreatDoor.sha

/-
  What sha.Words and the document's own Words answer: the five words of twenty bytes. Condition: the bytes are bytes.
-/
namespace Go.Proofs.YtldieebiicblbaaGreatDoor.sha
open Go.ChangeShapes Go.WideShapes Go.ChangeAt Go.RowKit
open sx
set_option linter.unusedVariables false
set_option maxRecDepth 100000

theorem cs5 (K : IntKind) (g : Nat → Nat) : cs K g 5 = #[.int K (g 0 : Nat), .int K (g 1 : Nat), .int K (g 2 : Nat), .int K (g 3 : Nat), .int K (g 4 : Nat)] := rfl
theorem cs20 (K : IntKind) (g : Nat → Nat) : cs K g 20 = #[.int K (g 0 : Nat), .int K (g 1 : Nat), .int K (g 2 : Nat), .int K (g 3 : Nat), .int K (g 4 : Nat), .int K (g 5 : Nat), .int K (g 6 : Nat), .int K (g 7 : Nat), .int K (g 8 : Nat), .int K (g 9 : Nat), .int K (g 10 : Nat), .int K (g 11 : Nat), .int K (g 12 : Nat), .int K (g 13 : Nat), .int K (g 14 : Nat), .int K (g 15 : Nat), .int K (g 16 : Nat), .int K (g 17 : Nat), .int K (g 18 : Nat), .int K (g 19 : Nat)] := rfl
theorem set_last (W : World) (c c' : Array Value) (t : TypeId) (n i : Nat) (v : Value) (b : Nat) (hb : b = W.heap.size) (h : c.setIfInBounds i v = c') : ((W.alloc (.cells c t)).drewN n).setCell ⟨b, i, none⟩ v = (W.alloc (.cells c' t)).drewN n := by
  subst hb
  rw [← h]
  exact congrArg (fun x => World.drewN x n) (World.setCell_alloc_at c t W.heap.size i v rfl)
theorem bel3 (w : World) (a b c : Obj) (n : Nat) : Below w.heap.size w ((((w.alloc a).alloc b).alloc c).drewN n) := by
  have h := ((((Below.refl _ _).alloc (Nat.le_refl _) a).alloc (by simp) b).alloc (by simp; omega) c : Below w.heap.size w _)
  exact ⟨h.os, h.tape, h.output, h.size, h.block⟩
/-- the world at the head of a round of Words. -/
def z5 : Array Value := #[.int .u32 0, .int .u32 0, .int .u32 0, .int .u32 0, .int .u32 0]
def ww (w : World) (f : Nat → Nat) (k : Nat) : World := ((w.alloc (.cells (cs .u8 f 20) 35)).alloc (.cells #[.int .u32 0, .int .u32 0, .int .u32 0, .int .u32 0, .int .u32 0] 43)).alloc (.cells (cs .u32 (prt f k) 5) 43)
theorem prt_set (f : Nat → Nat) (k n : Nat) : (cs .u32 (prt f k) n).setIfInBounds (k / 4) (.int .u32 ((pre f (k / 4) (k % 4) : Int) * 256 + (f k : Int))) = cs .u32 (prt f (k + 1)) n :=
  cs_set _ _ _ _ _ _ (by rw [prt_next]; congr 1) (fun j _ hj => prt_other f k j hj)
theorem prt_get (f : Nat → Nat) (k n : Nat) (h : k / 4 < n) : (cs .u32 (prt f k) n)[k / 4]? = some (.int .u32 (pre f (k / 4) (k % 4) : Nat)) := by rw [cs_get _ _ _ _ h, prt_at]
theorem prt_done (f : Nat → Nat) : cs .u32 (prt f 20) 5 = #[.int .u32 (word f 0 : Nat), .int .u32 (word f 1 : Nat), .int .u32 (word f 2 : Nat), .int .u32 (word f 3 : Nat), .int .u32 (word f 4 : Nat)] := by
  rw [cs_congr .u32 (prt f 20) (word f) 5 (fun j hj => prt_all f 20 j (by omega)), cs5]
set_option maxHeartbeats 1000000 in
theorem words_any (f : Nat → Nat) (w : World) (hf : Byt f 20) : Calls Tryz.prog 17 #[.agg (cs .u8 f 20)] w fun e w' => e = .returned (.agg #[.int .u32 (word f 0 : Nat), .int .u32 (word f 1 : Nat), .int .u32 (word f 2 : Nat), .int .u32 (word f 3 : Nat), .int .u32 (word f 4 : Nat)]) ∧ Below w.heap.size w w' := by
  go_enter Tryz.func17, Tryz.ntmps17
  go_wp2
  go_loopw [5] (fun t W => ∃ k n : Nat, k ≤ 20 ∧ t = .int .i64 k ∧ W = (ww w f k).drewN n) (fun t _ => 20 - (intOf t).toNat)
  case atStart => exact ⟨0, 0, by omega, rfl, by unfold ww; rw [cs_congr .u32 (prt f 0) (fun _ => 0) 5 (fun j _ => prt_zero f j)]; rfl⟩
  case round =>
    obtain ⟨k, n, hk, rfl, rfl⟩ := hrel
    unfold ww
    by_cases hlt : k < 20
    · have c1 := prt_get f k 5 (by omega)
      have c2 := cs_get .u8 f 20 k hlt
      have b1 := hf k hlt
      have b2 := pre_small f 20 k hf hlt
      have ho := or_byte _ _ b2 b1
      have ST := Lib.hid (prt_set f k 5)
      generalize pre f (k / 4) (k % 4) = X at *
      go_wp2
      go_region
      rw [set_last _ _ _ _ _ _ _ _ (by simp) ST.out]
      clear c1 c2 ho
      go_wp2
      go_roundw
      case rel => exact ⟨k + 1, n + 1, by omega, by go_num, rfl⟩
      case measure => simp [intOf]; omega
    · obtain rfl : k = 20 := by omega
      rw [prt_done]
      go_wp2
      refine bodyPost_ret (v := .agg #[.int .u32 (word f 0 : Nat), .int .u32 (word f 1 : Nat), .int .u32 (word f 2 : Nat), .int .u32 (word f 3 : Nat), .int .u32 (word f 4 : Nat)]) (by simp [results, Tryz.results17, go_sem]) rfl ⟨rfl, ?_⟩
      repeat (refine Below.setCell ?_ (by simp) _)
      exact bel3 _ _ _ _ _
set_option maxHeartbeats 1000000 in
theorem refwords_any (f : Nat → Nat) (w : World) (hf : Byt f 20) : Calls Tryz.prog 24 #[.agg (cs .u8 f 20)] w fun e w' => e = .returned (.agg #[.int .u32 (word f 0 : Nat), .int .u32 (word f 1 : Nat), .int .u32 (word f 2 : Nat), .int .u32 (word f 3 : Nat), .int .u32 (word f 4 : Nat)]) ∧ Below w.heap.size w w' := by
  go_enter Tryz.func24, Tryz.ntmps24
  go_wp2
  go_loopw [4] (fun t W => ∃ k n : Nat, k ≤ 20 ∧ t = .int .i64 k ∧ W = (ww w f k).drewN n) (fun t _ => 20 - (intOf t).toNat)
  case atStart => exact ⟨0, 0, by omega, rfl, by unfold ww; rw [cs_congr .u32 (prt f 0) (fun _ => 0) 5 (fun j _ => prt_zero f j)]; rfl⟩
  case round =>
    obtain ⟨k, n, hk, rfl, rfl⟩ := hrel
    unfold ww
    by_cases hlt : k < 20
    · have c1 := prt_get f k 5 (by omega)
      have c2 := cs_get .u8 f 20 k hlt
      have b1 := hf k hlt
      have b2 := pre_small f 20 k hf hlt
      have ho := or_byte _ _ b2 b1
      have ST := Lib.hid (prt_set f k 5)
      generalize pre f (k / 4) (k % 4) = X at *
      go_wp2
      go_region
      rw [set_last _ _ _ _ _ _ _ _ (by simp) ST.out]
      clear c1 c2 ho
      go_wp2
      go_roundw
      case rel => exact ⟨k + 1, n + 1, by omega, by go_num, rfl⟩
      case measure => simp [intOf]; omega
    · obtain rfl : k = 20 := by omega
      rw [prt_done]
      go_wp2
      refine bodyPost_ret (v := .agg #[.int .u32 (word f 0 : Nat), .int .u32 (word f 1 : Nat), .int .u32 (word f 2 : Nat), .int .u32 (word f 3 : Nat), .int .u32 (word f 4 : Nat)]) (by simp [results, Tryz.results24, go_sem]) rfl ⟨rfl, ?_⟩
      repeat (refine Below.setCell ?_ (by simp) _)
      exact bel3 _ _ _ _ _
end Go.Proofs.YtldieebiicblbaaGreatDoor.sha

/-
  Whole arrays by value, out of rows and into them, at this program; what the memory keeps. No condition beside those in the statements.
-/
namespace Go.Proofs.YtldieebiicblbaaGreatDoor.sha
open Go.ChangeShapes Go.WideShapes Go.ChangeAt Go.RowKit
open sx
set_option linter.unusedVariables false
set_option maxRecDepth 100000

theorem sz20 : (Tryz.prog.info? 35).map (·.size) = some 20 := by kernel_rfl
theorem sz64 : (Tryz.prog.info? 104).map (·.size) = some 64 := by kernel_rfl
theorem sz80 : (Tryz.prog.info? 143).map (·.size) = some 80 := by kernel_rfl
theorem sz70 : (Tryz.prog.info? 106).map (·.size) = some 70 := by kernel_rfl
theorem sz5 : (Tryz.prog.info? 43).map (·.size) = some 5 := by kernel_rfl
theorem szc {t : TypeId} {n : Nat} (h : (Tryz.prog.info? t).map (·.size) = some n) (K : IntKind) (g : Nat → Nat) : (Tryz.prog.info? t).map (·.size) = some (cs K g n).size := by rw [cs_size]; exact h

theorem hp_new (w : World) (o : Obj) : (w.alloc o).heap[w.heap.size]? = some o := heap_alloc_new w o
theorem hp_old {w : World} {k : Nat} {v : Obj} (h : w.heap[k]? = some v) (o : Obj) : (w.alloc o).heap[k]? = some v := by
  rw [Below.heap_alloc w o k (Array.getElem?_eq_some_iff.1 h).1]; exact h
theorem hp_new1 (w : World) (a o : Obj) : ((w.alloc a).alloc o).heap[w.heap.size + 1]? = some o := heap_alloc2_new w a o
theorem hp_new2 (w : World) (a b o : Obj) : (((w.alloc a).alloc b).alloc o).heap[w.heap.size + 1 + 1]? = some o := by
  have h := heap_alloc_new ((w.alloc a).alloc b) o
  rw [show ((w.alloc a).alloc b).heap.size = w.heap.size + 1 + 1 by simp] at h
  exact h
theorem bel_setRow {B : Nat} {a w : World} (h : Below B a w) {g : Nat} (hg : B ≤ g) (c : Array Value) : Below B a (w.setRow g c) :=
  h.trans ⟨rfl, rfl, rfl, by simp, fun k hk => setRow_other _ _ _ _ (by omega)⟩
theorem bel_drewN {B : Nat} {a w : World} (h : Below B a w) (n : Nat) : Below B a (w.drewN n) := ⟨h.os, h.tape, h.output, h.size, h.block⟩

/-- a region that draws its order, all of whose operations but the last ones only read: in the text's order. -/
theorem tail_region {P : Program} {id : Nat} {Q : Exit → Act → World → Prop} {a : Act} {w : World} {l : List Oper} (n : Nat) (hm : P.follows .mixedOrders = true) (hB : Region.lexTailB .any l.toArray n = true)
    (h : wpStill P l.toArray w.drew (fun a' => wpList P l.toArray Q (l.drop n) a' w.drew) (l.take n) a) : (Code.region id l.toArray true).wp P Q a w := wp_region_still_tail n hm hB h
theorem still_region {P : Program} {id : Nat} {Q : Exit → Act → World → Prop} {a : Act} {w : World} {l : List Oper} (hm : P.follows .mixedOrders = true) (hB : Region.lexB .any l.toArray = true)
    (h : wpStill P l.toArray w.drew (fun a' => Q .normal a' w.drew) l a) : (Code.region id l.toArray true).wp P Q a w := wp_region_still_lit hm hB h
theorem calls_turn {P : Program} {f : Nat} {args : Array Value} {w : World} {v : Value} (h : Calls P f args w fun e w' => e = .returned v ∧ w = w') : Calls P f args w fun e w' => e = .returned v ∧ w' = w := h.mono fun _ _ ⟨a, b⟩ => ⟨a, b.symm⟩
/-- 'return x': the row g is laid whole into the result's row r, and that is told. -/
theorem end_row {fn : Func} {R : Ending → World → Prop} {p : Tmp} {ty : TypeId} (hr : fn.results = #[.cell p ty]) (a : Act) (w : World) (g : Nat) (t : TypeId) (c : Array Value) (n : Nat) (e : TypeId)
    (hp : a.tmps.getD p undef = .pointer (some ⟨g, 0, none⟩)) (hg : w.heap[g]? = some (.cells c t (0, 0))) (hu : Tryz.prog.underlying ty = some (.array n e))
    (hi : (Tryz.prog.info? ty).map (·.size) = some c.size) (hdf : a.defers = []) (h : R (.returned (.agg c)) w) : bodyPost Tryz.prog fn R .ret a w :=
  bodyPost_ret (v := .agg c) (results_cell_row hr _ _ g t c (0, 0) _ hp hg hu rfl hi) hdf h
end Go.Proofs.YtldieebiicblbaaGreatDoor.sha

/-
  What sha.packed answers: the twenty bytes of five words. Condition: the words are words.
-/
namespace Go.Proofs.YtldieebiicblbaaGreatDoor.sha
open Go.ChangeShapes Go.WideShapes Go.ChangeAt Go.RowKit
open sx
set_option linter.unusedVariables false
set_option maxRecDepth 100000

def upto (g : Nat → Nat) (k j : Nat) : Nat := if j < k then g j else 0
theorem upto_set (K : IntKind) (g : Nat → Nat) (k n : Nat) (v : Value) (hv : v = .int K (g k : Nat)) : (cs K (upto g k) n).setIfInBounds k v = cs K (upto g (k + 1)) n :=
  cs_set _ _ _ _ _ _ (by rw [hv]; unfold upto; rw [if_pos (Nat.lt_succ_self _)]) (fun j _ hj => by unfold upto; by_cases h : j < k; (rw [if_pos h, if_pos (by omega)]); (rw [if_neg h, if_neg (by omega)]))
theorem upto_all (K : IntKind) (g : Nat → Nat) (n : Nat) : cs K (upto g n) n = cs K g n := cs_congr _ _ _ _ fun j hj => if_pos hj
theorem upto_zero (K : IntKind) (g : Nat → Nat) (n : Nat) : cs K (upto g 0) n = cs K (fun _ => 0) n := cs_congr _ _ _ _ fun j hj => if_neg (by omega)
def z20 : Array Value := #[.int .u8 0, .int .u8 0, .int .u8 0, .int .u8 0, .int .u8 0, .int .u8 0, .int .u8 0, .int .u8 0, .int .u8 0, .int .u8 0, .int .u8 0, .int .u8 0, .int .u8 0, .int .u8 0, .int .u8 0, .int .u8 0, .int .u8 0, .int .u8 0, .int .u8 0, .int .u8 0]
def wp (w : World) (s : V5) (k : Nat) : World := ((w.alloc (.cells (cs .u32 s.at 5) 43)).alloc (.cells z20 35)).alloc (.cells (cs .u8 (upto (dig s) k) 20) 35)
set_option maxHeartbeats 1000000 in
theorem packed_any (s : V5) (w : World) (hs : s.Ok) : Calls Tryz.prog 63 #[.agg (cs .u32 s.at 5)] w fun e w' => e = .returned (.agg (cs .u8 (dig s) 20)) ∧ Below w.heap.size w w' := by
  go_enter Tryz.func63, Tryz.ntmps63
  go_wp2
  go_loopw [5] (fun t W => ∃ k : Nat, k ≤ 20 ∧ t = .int .i64 k ∧ W = wp w s k) (fun t _ => 20 - (intOf t).toNat)
  case atStart => exact ⟨0, by omega, rfl, by unfold wp; rw [upto_zero]; rfl⟩
  case round =>
    obtain ⟨k, hk, rfl, rfl⟩ := hrel
    unfold wp z20
    by_cases hlt : k < 20
    · have c1 := cs_get .u32 s.at 5 (k / 4) (by omega)
      have c2 := cs_get .u8 (upto (dig s) k) 20 k hlt
      have hd : ((s.at (k / 4) : Nat) : Int) / 2 ^ (8 * (3 - k % 4)) % 256 = (dig s k : Nat) := by unfold dig; rw [Int.natCast_emod, Int.natCast_ediv, Int.natCast_pow]; rfl
      have ST := Lib.hid (upto_set .u8 (dig s) k 20 (.int .u8 (dig s k : Nat)) rfl)
      have sl := at_lt hs (k / 4)
      generalize s.at (k / 4) = X at *
      go_wp2
      rw [ST.out]
      go_roundw
      case rel => exact ⟨k + 1, by omega, by go_num, rfl⟩
      case measure => simp [intOf]; omega
    · obtain rfl : k = 20 := by omega
      rw [upto_all]
      go_wp2_with (first
        | (refine wpList_load_row rfl 35 (.tmp 3) rfl (w.heap.size + 1 + 1) rfl _ _ _ _ (hp_new2 w _ _ _) Tryz.underlying35 rfl (szc sz20 _ _) ?_)
        | (refine wpList_store_row rfl 35 (.tmp 2) (.tmp 21) rfl (w.heap.size + 1) _ rfl rfl _ _ (hp_old (hp_new1 w _ _) _) (szc sz20 _ _) (by rw [cs_size]; rfl) (cs_one _ _ _) ?_))
      refine end_row rfl _ _ (w.heap.size + 1) _ _ _ _ rfl (setRow_heap _ _ _ _ _ _ (hp_old (hp_new1 w _ _) _)) Tryz.underlying35 (szc sz20 _ _) rfl ⟨rfl, ?_⟩
      exact bel_setRow (bel3 _ _ _ _ 0) (by omega) _
end Go.Proofs.YtldieebiicblbaaGreatDoor.sha
