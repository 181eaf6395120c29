/-
  Plain mathematics of SHA-1 over natural numbers: words of four bytes, what is padded, blocks, digests, digits of base 16; and arrays of numbers as cells. Nothing of any program. Conditions: as said.
-/
import Derived.Test.YtfnkloecfjppeaaDoorRows
import Derived.Laws.BitsAllLaws
namespace Go.Proofs.YtfnkloecfjppeaaDoor.sx
set_option linter.unusedVariables false

/-! arrays of numbers as cells -/
def cs (K : IntKind) (g : Nat → Nat) (n : Nat) : Array Value := ((List.range n).map fun j => Value.int K (g j : Nat)).toArray
theorem cs_size (K : IntKind) (g : Nat → Nat) (n : Nat) : (cs K g n).size = n := by simp [cs]
theorem cs_get (K : IntKind) (g : Nat → Nat) (n j : Nat) (h : j < n) : (cs K g n)[j]? = some (.int K (g j : Nat)) := by simp [cs, h]
theorem cs_set (K : IntKind) (g g' : Nat → Nat) (n i : Nat) (v : Value) (hv : v = .int K (g' i : Nat)) (h : ∀ j, j < n → j ≠ i → g' j = g j) : (cs K g n).setIfInBounds i v = cs K g' n := by
  subst hv
  apply Array.ext_getElem?
  intro j
  rw [Array.getElem?_setIfInBounds]
  by_cases hj : j < n
  · rw [cs_get K g' n j hj]
    by_cases e : i = j
    · subst e; simp [cs_size, hj]
    · rw [if_neg e, cs_get K g n j hj, h j hj (fun k => e k.symm)]
  · have e1 : (cs K g n)[j]? = none := Array.getElem?_eq_none (by rw [cs_size]; omega)
    have e2 : (cs K g' n)[j]? = none := Array.getElem?_eq_none (by rw [cs_size]; omega)
    rw [e1, e2]
    by_cases e : i = j
    · subst e; simp [cs_size, hj]
    · rw [if_neg e]
theorem cs_congr (K : IntKind) (g g' : Nat → Nat) (n : Nat) (h : ∀ j, j < n → g j = g' j) : cs K g n = cs K g' n := by
  unfold cs
  congr 1
  apply List.map_congr_left
  intro j hj
  rw [h j (List.mem_range.1 hj)]
theorem cs_inj {K : IntKind} {g g' : Nat → Nat} {n : Nat} (h : cs K g n = cs K g' n) (j : Nat) (hj : j < n) : g j = g' j := by
  have e := congrArg (fun a => a[j]?) h
  simp only [cs_get K g n j hj, cs_get K g' n j hj, Option.some.injEq, Value.int.injEq, true_and] at e
  omega
theorem cs_one (K : IntKind) (g : Nat → Nat) (n : Nat) : (cs K g n).all (·.oneCell') = true := by
  simp [cs, Value.oneCell']

/-! words of four bytes -/
def pre (f : Nat → Nat) (i : Nat) : Nat → Nat
  | 0 => 0
  | j + 1 => pre f i j * 256 + f (4 * i + j)
def prt (f : Nat → Nat) (k i : Nat) : Nat := pre f i (min (k - 4 * i) 4)
def word (f : Nat → Nat) (i : Nat) : Nat := pre f i 4
def Byt (f : Nat → Nat) (n : Nat) : Prop := ∀ j, j < n → f j < 256
theorem pre_lt (f : Nat → Nat) (i : Nat) : ∀ j, (∀ m, m < j → f (4 * i + m) < 256) → pre f i j < 256 ^ j
  | 0, _ => by simp [pre]
  | j + 1, h => by
    have a := pre_lt f i j (fun m hm => h m (by omega))
    have b := h j (by omega)
    have e : (256 : Nat) ^ (j + 1) = 256 ^ j * 256 := rfl
    rw [pre, e]
    have : (pre f i j + 1) * 256 ≤ 256 ^ j * 256 := Nat.mul_le_mul_right _ a
    omega
theorem pre_small (f : Nat → Nat) (n k : Nat) (hb : Byt f n) (hk : k < n) : pre f (k / 4) (k % 4) < 16777216 := by
  have a := pre_lt f (k / 4) (k % 4) (fun m hm => hb _ (by omega))
  have b : 256 ^ (k % 4) ≤ 256 ^ 3 := Nat.pow_le_pow_right (by decide) (by omega)
  have : (256 : Nat) ^ 3 = 16777216 := rfl
  omega
theorem word_lt (f : Nat → Nat) (n i : Nat) (hb : Byt f n) (hi : 4 * i + 4 ≤ n) : word f i < 4294967296 := pre_lt f i 4 (fun m hm => hb _ (by omega))
theorem prt_at (f : Nat → Nat) (k : Nat) : prt f k (k / 4) = pre f (k / 4) (k % 4) := by
  unfold prt
  rw [show min (k - 4 * (k / 4)) 4 = k % 4 by omega]
theorem prt_next (f : Nat → Nat) (k : Nat) : prt f (k + 1) (k / 4) = pre f (k / 4) (k % 4) * 256 + f k := by
  unfold prt
  rw [show min (k + 1 - 4 * (k / 4)) 4 = k % 4 + 1 by omega, pre, show 4 * (k / 4) + k % 4 = k by omega]
theorem prt_other (f : Nat → Nat) (k i : Nat) (h : i ≠ k / 4) : prt f (k + 1) i = prt f k i := by
  unfold prt
  rw [show min (k + 1 - 4 * i) 4 = min (k - 4 * i) 4 by omega]
theorem prt_zero (f : Nat → Nat) (i : Nat) : prt f 0 i = 0 := by
  unfold prt; rw [show min (0 - 4 * i) 4 = 0 by omega]; rfl
theorem prt_all (f : Nat → Nat) (n i : Nat) (h : 4 * i + 4 ≤ n) : prt f n i = word f i := by
  unfold prt word; rw [show min (n - 4 * i) 4 = 4 by omega]
theorem prt_none (f : Nat → Nat) (n i : Nat) (h : n ≤ 4 * i) : prt f n i = 0 := by
  unfold prt; rw [show min (n - 4 * i) 4 = 0 by omega]; rfl
/-- one byte more behind a word's. -/
theorem or_byte (x c : Nat) (hx : x < 16777216) (hc : c < 256) : bits .or .u32 ((x : Int) * 256) (c : Int) = ((x * 256 + c : Nat) : Int) := by
  rw [show (x : Int) * 256 = ((2 ^ 8 * x : Nat) : Int) by omega, u32_or_nat _ _ (by omega) (by omega), ← Nat.two_pow_add_eq_or_of_lt (by omega)]
  omega

/-! words turned, mixed -/
def rot (x n : Nat) : Nat := (x * 2 ^ n % 4294967296) ||| (x / 2 ^ (32 - n))
def ff (i b c d : Nat) : Nat :=
  if i < 20 then (b &&& c) ^^^ ((4294967295 - b) &&& d) else if i < 40 then b ^^^ c ^^^ d else if i < 60 then (b &&& c) ^^^ (b &&& d) ^^^ (c &&& d) else b ^^^ c ^^^ d
def kk (i : Nat) : Nat := if i < 20 then 1518500249 else if i < 40 then 1859775393 else if i < 60 then 2400959708 else 3395469782
theorem rot_lt (x n : Nat) (hx : x < 4294967296) : rot x n < 4294967296 := by
  unfold rot
  have h1 : x * 2 ^ n % 4294967296 < 2 ^ 32 := Nat.mod_lt _ (by decide)
  have h2 : x / 2 ^ (32 - n) < 2 ^ 32 := Nat.lt_of_le_of_lt (Nat.div_le_self _ _) (by omega)
  exact Nat.or_lt_two_pow h1 h2
theorem and32 {x y : Nat} (hx : x < 4294967296) : x &&& y < 4294967296 := Nat.lt_of_le_of_lt Nat.and_le_left hx
theorem xor32 {x y : Nat} (hx : x < 4294967296) (hy : y < 4294967296) : x ^^^ y < 4294967296 := Nat.xor_lt_two_pow (n := 32) hx hy
theorem ff_lt (i b c d : Nat) (hb : b < 4294967296) (hc : c < 4294967296) (hd : d < 4294967296) : ff i b c d < 4294967296 := by
  unfold ff
  split
  · exact xor32 (and32 hb) (and32 (by omega))
  split
  · exact xor32 (xor32 hb hc) hd
  split
  · exact xor32 (xor32 (and32 hb) (and32 hb)) (and32 hc)
  · exact xor32 (xor32 hb hc) hd
theorem kk_lt (i : Nat) : kk i < 4294967296 := by
  unfold kk
  split
  · decide
  split
  · decide
  split
  · decide
  · decide

structure V5 where
  a : Nat
  b : Nat
  c : Nat
  d : Nat
  e : Nat
def V5.Ok (s : V5) : Prop := s.a < 4294967296 ∧ s.b < 4294967296 ∧ s.c < 4294967296 ∧ s.d < 4294967296 ∧ s.e < 4294967296
def V5.at (s : V5) : Nat → Nat
  | 0 => s.a
  | 1 => s.b
  | 2 => s.c
  | 3 => s.d
  | _ => s.e
def tt (i wi : Nat) (s : V5) : Nat := (rot s.a 5 + ff i s.b s.c s.d + s.e + kk i + wi) % 4294967296
def step (i wi : Nat) (s : V5) : V5 := ⟨tt i wi s, s.a, rot s.b 30, s.c, s.d⟩
def stps (w : Nat → Nat) (s : V5) : Nat → V5
  | 0 => s
  | i + 1 => step i (w i) (stps w s i)
theorem step_ok {i wi : Nat} {s : V5} (h : s.Ok) : (step i wi s).Ok := ⟨Nat.mod_lt _ (by decide), h.1, rot_lt _ _ h.2.1, h.2.2.1, h.2.2.2.1⟩
theorem stps_ok (w : Nat → Nat) {s : V5} (h : s.Ok) : ∀ i, (stps w s i).Ok
  | 0 => h
  | i + 1 => step_ok (stps_ok w h i)
theorem at_lt {s : V5} (h : s.Ok) (j : Nat) : s.at j < 4294967296 := by
  obtain ⟨h1, h2, h3, h4, h5⟩ := h
  unfold V5.at
  split <;> assumption

/-! the words of a block -/
def nxt (f : Nat → Nat) (l : List Nat) (i : Nat) : Nat := if i < 16 then word f i else rot (l.getD (i - 3) 0 ^^^ l.getD (i - 8) 0 ^^^ l.getD (i - 14) 0 ^^^ l.getD (i - 16) 0) 1
def wl (f : Nat → Nat) : Nat → List Nat
  | 0 => []
  | i + 1 => wl f i ++ [nxt f (wl f i) i]
def wd (f : Nat → Nat) (i : Nat) : Nat := nxt f (wl f i) i
theorem wl_len (f : Nat → Nat) : ∀ i, (wl f i).length = i
  | 0 => rfl
  | i + 1 => by simp [wl, wl_len f i]
theorem wl_at (f : Nat → Nat) : ∀ i j, j < i → (wl f i).getD j 0 = wd f j
  | 0, _, h => by omega
  | i + 1, j, h => by
    rw [wl]
    by_cases e : j = i
    · subst e
      simp [List.getD, wl_len, wd]
    · have hj : j < i := by omega
      have := wl_at f i j hj
      simp only [List.getD] at this ⊢
      rw [List.getElem?_append_left (by rw [wl_len]; exact hj)]
      exact this
theorem wd_small (f : Nat → Nat) (i : Nat) (h : i < 16) : wd f i = word f i := by unfold wd nxt; rw [if_pos h]
theorem wd_great (f : Nat → Nat) (i : Nat) (h : 16 ≤ i) : wd f i = rot (wd f (i - 3) ^^^ wd f (i - 8) ^^^ wd f (i - 14) ^^^ wd f (i - 16)) 1 := by
  rw [wd, nxt, if_neg (by omega), wl_at f i _ (by omega), wl_at f i _ (by omega), wl_at f i _ (by omega), wl_at f i _ (by omega)]
theorem wd_lt (f : Nat → Nat) (hb : Byt f 64) : ∀ i, wd f i < 4294967296 := by
  intro i
  induction i using Nat.strongRecOn with
  | _ i ih =>
    by_cases h : i < 16
    · rw [wd_small f i h]; exact word_lt f 64 i hb (by omega)
    · rw [wd_great f i (by omega)]
      exact rot_lt _ _ (xor32 (xor32 (xor32 (ih _ (by omega)) (ih _ (by omega))) (ih _ (by omega))) (ih _ (by omega)))
theorem word_congr (f g : Nat → Nat) (i : Nat) (h : ∀ j, j < 4 → f (4 * i + j) = g (4 * i + j)) : word f i = word g i := by
  unfold word
  simp only [pre]
  rw [h 0 (by omega), h 1 (by omega), h 2 (by omega), h 3 (by omega)]
theorem wd_congr (f g : Nat → Nat) (h : ∀ j, j < 64 → f j = g j) : ∀ i, wd f i = wd g i := by
  intro i
  induction i using Nat.strongRecOn with
  | _ i ih =>
    by_cases hi : i < 16
    · rw [wd_small f i hi, wd_small g i hi]; exact word_congr f g i (fun j hj => h _ (by omega))
    · rw [wd_great f i (by omega), wd_great g i (by omega), ih _ (by omega), ih _ (by omega), ih _ (by omega), ih _ (by omega)]
theorem stps_congr (w w' : Nat → Nat) (s : V5) (h : ∀ i, w i = w' i) : ∀ i, stps w s i = stps w' s i
  | 0 => rfl
  | i + 1 => by rw [stps, stps, stps_congr w w' s h i, h i]

/-- the words behind a block. -/
def add32 (x y : Nat) : Nat := (x + y) % 4294967296
def mixV (h : V5) (f : Nat → Nat) : V5 :=
  let s := stps (wd f) h 80
  ⟨add32 h.a s.a, add32 h.b s.b, add32 h.c s.c, add32 h.d s.d, add32 h.e s.e⟩
theorem mixV_ok (h : V5) (f : Nat → Nat) : (mixV h f).Ok := ⟨Nat.mod_lt _ (by decide), Nat.mod_lt _ (by decide), Nat.mod_lt _ (by decide), Nat.mod_lt _ (by decide), Nat.mod_lt _ (by decide)⟩
theorem mixV_congr (h : V5) (f g : Nat → Nat) (e : ∀ j, j < 64 → f j = g j) : mixV h f = mixV h g := by
  unfold mixV
  rw [stps_congr (wd f) (wd g) h (wd_congr f g e) 80]
def start : V5 := ⟨1732584193, 4023233417, 2562383102, 271733878, 3285377520⟩
theorem start_ok : start.Ok := by unfold V5.Ok start; decide

/-! all blocks of a row of bytes -/
def at0 (m : List Nat) (k j : Nat) : Nat := m.getD (64 * k + j) 0
def hs (m : List Nat) : Nat → V5
  | 0 => start
  | k + 1 => mixV (hs m k) (at0 m k)
theorem hs_ok (m : List Nat) : ∀ k, (hs m k).Ok
  | 0 => start_ok
  | k + 1 => mixV_ok _ _
theorem hs_app (m p : List Nat) : ∀ k, 64 * k ≤ m.length → hs (m ++ p) k = hs m k
  | 0, _ => rfl
  | k + 1, h => by
    rw [hs, hs, hs_app m p k (by omega)]
    apply mixV_congr
    intro j hj
    unfold at0
    simp only [List.getD]
    rw [List.getElem?_append_left (by omega)]
def Bys (m : List Nat) : Prop := ∀ x ∈ m, x < 256
theorem bys_app {m p : List Nat} (h : Bys m) (k : Bys p) : Bys (m ++ p) := by
  intro x hx
  rcases List.mem_append.1 hx with h' | h'
  · exact h x h'
  · exact k x h'
theorem getD_lt {m : List Nat} (h : Bys m) (j : Nat) : m.getD j 0 < 256 := by
  by_cases hj : j < m.length
  · simp only [List.getD, List.getElem?_eq_getElem hj]
    exact h _ (List.getElem_mem _)
  · simp [List.getD, List.getElem?_eq_none (Nat.le_of_not_lt hj)]

/-! what is padded -/
def eight (n : Nat) : List Nat := (List.range 8).map fun k => n * 8 / 2 ^ (8 * (7 - k)) % 256
def zz (n : Nat) : Nat := (119 - n % 64) % 64
def pad (n : Nat) : List Nat := 128 :: (List.replicate (zz n) 0 ++ eight n)
theorem pad_len (n : Nat) : (pad n).length = zz n + 9 := by simp [pad, eight]
theorem pad_bys (n : Nat) : Bys (pad n) := by
  intro x hx
  simp only [pad, List.mem_cons, List.mem_append, List.mem_replicate, eight, List.mem_map] at hx
  rcases hx with rfl | ⟨_, rfl⟩ | ⟨k, _, rfl⟩
  · decide
  · decide
  · exact Nat.mod_lt _ (by decide)
theorem pad_mult (n : Nat) : (n + (pad n).length) % 64 = 0 := by rw [pad_len]; unfold zz; omega

/-! digests -/
def sumV (m : List Nat) : V5 := hs (m ++ pad m.length) ((m.length + (zz m.length + 9)) / 64)
theorem sumV_ok (m : List Nat) : (sumV m).Ok := hs_ok _ _
def dig (s : V5) (k : Nat) : Nat := s.at (k / 4) / 2 ^ (8 * (3 - k % 4)) % 256
theorem dig_lt (s : V5) (k : Nat) : dig s k < 256 := Nat.mod_lt _ (by decide)

def abc : V5 := ⟨2845392438, 1191608682, 3124634993, 2018558572, 2630932637⟩
def nil : V5 := ⟨3661210606, 1584089869, 844480495, 2506102928, 2950170377⟩
theorem V5.eta (s : V5) : s = ⟨s.a, s.b, s.c, s.d, s.e⟩ := rfl
set_option maxRecDepth 100000 in
theorem sum_abc : sumV [97, 98, 99] = abc := by
  have h : sumV [97, 98, 99] = mixV start (at0 ([97, 98, 99] ++ pad 3) 0) := rfl
  rw [h, V5.eta (mixV start (at0 ([97, 98, 99] ++ pad 3) 0))]
  unfold abc
  congr 1 <;> decide +kernel
set_option maxRecDepth 100000 in
theorem sum_nil : sumV [] = nil := by
  have h : sumV [] = mixV start (at0 ([] ++ pad 0) 0) := rfl
  rw [h, V5.eta (mixV start (at0 ([] ++ pad 0) 0))]
  unfold nil
  congr 1 <;> decide +kernel
end Go.Proofs.YtfnkloecfjppeaaDoor.sx
