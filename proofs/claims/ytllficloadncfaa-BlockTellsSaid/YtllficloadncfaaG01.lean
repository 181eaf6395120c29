/-
  Plain mathematics: numbers as bytes, the highest one first, in one, four or eight of them, and back; their order. Nothing of any program. Conditions: as said.
-/
import Derived.Test.YtllficloadncfaaRows
import Derived.Laws.BitsLemmas
import Derived.Laws.BitsAllLaws
import Derived.IntWalk
namespace Go.Proofs.Ytllficloadncfaa.om
set_option linter.unusedVariables false
set_option maxRecDepth 100000

/-- may a number be laid in so many bytes? -/
def Fits (n z : Int) : Prop := z = 8 ∨ z = 4 ∧ -2147483648 ≤ n ∧ n ≤ 2147483647 ∨ z = 1 ∧ 0 ≤ n ∧ n ≤ 255
def fitB (n z : Int) : Bool := decide (z = 8 ∨ z = 4 ∧ -2147483648 ≤ n ∧ n ≤ 2147483647 ∨ z = 1 ∧ 0 ≤ n ∧ n ≤ 255)
theorem fit_iff {n z : Int} : fitB n z = true ↔ Fits n z := by unfold fitB Fits; simp
theorem fit_no {n z : Int} : fitB n z = false ↔ ¬ Fits n z := by rw [← fit_iff]; simp
/-- may numbers have that size? -/
def Sz (z : Int) : Prop := z = 1 ∨ z = 4 ∨ z = 8
theorem fit_sz {n z : Int} (h : Fits n z) : Sz z := by unfold Fits at h; unfold Sz; omega
theorem fit_zero {z : Int} : Fits 0 z ↔ Sz z := by unfold Fits Sz; omega

/-- all are bytes. -/
def Bys (l : List Nat) : Prop := ∀ x ∈ l, x < 256
theorem Bys.app {l m : List Nat} (h : Bys l) (k : Bys m) : Bys (l ++ m) := fun x hx => (List.mem_append.1 hx).elim (h x) (k x)
theorem Bys.take {l : List Nat} (h : Bys l) (n : Nat) : Bys (l.take n) := fun x hx => h x (List.mem_of_mem_take hx)
theorem Bys.drop {l : List Nat} (h : Bys l) (n : Nat) : Bys (l.drop n) := fun x hx => h x (List.mem_of_mem_drop hx)
theorem bys_nil : Bys [] := fun x hx => by cases hx

/-- the bytes of a number, so many, the highest one first. -/
def lay (n : Int) : Nat → List Nat
  | 0 => []
  | k + 1 => (n / 256 ^ k % 256).toNat :: lay n k
theorem lay_len (n : Int) : ∀ k, (lay n k).length = k
  | 0 => rfl
  | k + 1 => by rw [lay, List.length_cons, lay_len n k]
theorem lay_bys (n : Int) : ∀ k, Bys (lay n k)
  | 0 => bys_nil
  | k + 1 => fun x hx => by
    rcases List.mem_cons.1 hx with rfl | hx
    · omega
    · exact lay_bys n k x hx
/-- the number of bytes, none below 0. -/
def val : List Nat → Nat → Nat
  | [], a => a
  | x :: l, a => val l (a * 256 + x)
theorem val_snoc : ∀ (l : List Nat) (x a : Nat), val (l ++ [x]) a = val l a * 256 + x
  | [], x, a => rfl
  | y :: l, x, a => by rw [List.cons_append, val, val_snoc l x]; rfl
theorem val_split : ∀ (l : List Nat) (a : Nat), val l a = a * 256 ^ l.length + val l 0
  | [], a => by simp [val]
  | x :: l, a => by
    rw [val, val, val_split l (a * 256 + x), val_split l (0 * 256 + x), List.length_cons, Nat.pow_succ, Nat.zero_mul, Nat.zero_add, Nat.add_mul, Nat.mul_assoc, Nat.mul_comm 256 (256 ^ l.length)]
    omega
theorem val_lt : ∀ (l : List Nat), Bys l → val l 0 < 256 ^ l.length
  | [], _ => by simp [val]
  | x :: l, h => by
    have h1 := val_lt l (fun y hy => h y (List.mem_cons_of_mem _ hy))
    have h2 := h x (List.mem_cons_self ..)
    rw [val, val_split, List.length_cons, Nat.pow_succ]
    have : (0 * 256 + x) * 256 ^ l.length ≤ 255 * 256 ^ l.length := Nat.mul_le_mul_right _ (by omega)
    omega
theorem val_lay (n : Int) : ∀ k, (val (lay n k) 0 : Int) = n % 256 ^ k
  | 0 => by simp [val, lay, Int.emod_one]
  | k + 1 => by
    rw [lay, val, val_split, lay_len, Int.natCast_add, val_lay n k]
    have e : (((0 * 256 + (n / 256 ^ k % 256).toNat) * 256 ^ k : Nat) : Int) = (n / 256 ^ k % 256) * 256 ^ k := by
      rw [Int.natCast_mul, Int.natCast_pow]
      congr 1
      omega
    rw [e, Int.pow_succ]
    have hp : (0 : Int) < 256 ^ k := Int.pow_pos (by decide)
    have h1 := Int.mul_ediv_add_emod n (256 ^ k)
    have h2 := Int.mul_ediv_add_emod (n / 256 ^ k) 256
    have h3 : n / (256 ^ k * 256) = n / 256 ^ k / 256 := (Int.ediv_ediv_of_nonneg (Int.le_of_lt hp)).symm
    have h4 := Int.mul_ediv_add_emod n (256 ^ k * 256)
    rw [h3] at h4
    have h5 : 256 ^ k * 256 * (n / 256 ^ k / 256) = 256 ^ k * (256 * (n / 256 ^ k / 256)) := Int.mul_assoc _ _ _
    have h6 : 256 ^ k * (n / 256 ^ k) = 256 ^ k * (256 * (n / 256 ^ k / 256)) + 256 ^ k * (n / 256 ^ k % 256) := by rw [← Int.mul_add, h2]
    rw [Int.mul_comm (n / 256 ^ k % 256)]
    omega
theorem lay_mod (n m : Int) (k : Nat) (h : ∀ j, j < k → n / 256 ^ j % 256 = m / 256 ^ j % 256) : lay n k = lay m k := by
  induction k with
  | zero => rfl
  | succ k ih => rw [lay, lay, h k (by omega), ih (fun j hj => h j (by omega))]
theorem lay_val : ∀ (l : List Nat) (a : Nat), Bys l → lay (val l a : Nat) l.length = l
  | [], a, _ => rfl
  | x :: l, a, h => by
    have hl : Bys l := fun y hy => h y (List.mem_cons_of_mem _ hy)
    have hx := h x (List.mem_cons_self ..)
    rw [List.length_cons, lay, val, lay_val l _ hl]
    congr 1
    have e := val_split l (a * 256 + x)
    have lt := val_lt l hl
    have hp : 0 < 256 ^ l.length := Nat.pow_pos (by decide)
    have d : val l (a * 256 + x) / 256 ^ l.length = a * 256 + x := by
      rw [e, Nat.mul_comm, Nat.mul_add_div hp, Nat.div_eq_of_lt lt, Nat.add_zero]
    have c : ((val l (a * 256 + x) : Nat) : Int) / 256 ^ l.length = ((a * 256 + x : Nat) : Int) := by
      have := congrArg (Nat.cast (R := Int)) d
      rw [Int.natCast_ediv, Int.natCast_pow] at this
      exact this
    rw [c]
    omega
/-- bytes as a number: with the sign that four or eight have. -/
def rd (l : List Nat) : Int :=
  if l.length = 8 then ((val l 0 : Nat) + 9223372036854775808) % 18446744073709551616 - 9223372036854775808
  else if l.length = 4 then ((val l 0 : Nat) + 2147483648) % 4294967296 - 2147483648
  else if l.length = 1 then (val l 0 : Nat) else 0
theorem rd_nil : rd [] = 0 := rfl
theorem rd_lay {n z : Int} (h : Fits n z) (h1 : -9223372036854775808 ≤ n) (h2 : n ≤ 9223372036854775807) : rd (lay n z.toNat) = n := by
  have v := val_lay n z.toNat
  unfold rd
  rw [lay_len, v]
  rcases h with rfl | ⟨rfl, a, b⟩ | ⟨rfl, a, b⟩
  · simp only [show (8 : Int).toNat = 8 from rfl, if_pos, Int.reducePow]; omega
  · simp only [show (4 : Int).toNat = 4 from rfl, if_pos, Int.reducePow]; omega
  · simp only [show (1 : Int).toNat = 1 from rfl, if_pos, Int.reducePow]; omega
theorem rd_fits {l : List Nat} {z : Int} (hz : Sz z) (hl : (l.length : Int) = z) (h : Bys l) : Fits (rd l) z := by
  have lt := val_lt l h
  unfold rd Fits
  rcases hz with rfl | rfl | rfl
  · have e : l.length = 1 := by omega
    rw [e] at lt
    rw [e, if_neg (by decide), if_neg (by decide), if_pos rfl]
    omega
  · have e : l.length = 4 := by omega
    rw [e, if_neg (by decide), if_pos rfl]
    omega
  · exact Or.inl rfl
theorem rd_bd {l : List Nat} (h : Bys l) : -9223372036854775808 ≤ rd l ∧ rd l ≤ 9223372036854775807 := by
  have lt := val_lt l h
  unfold rd
  split
  · omega
  · split
    · omega
    · split
      · rename_i e; rw [e] at lt; omega
      · omega
theorem lay_rd {l : List Nat} {z : Int} (hz : Sz z) (hl : (l.length : Int) = z) (h : Bys l) : lay (rd l) z.toNat = l := by
  have e := lay_val l 0 h
  have ez : z.toNat = l.length := by omega
  rw [ez]
  have hm : lay (rd l) l.length = lay (val l 0 : Nat) l.length := by
    apply lay_mod
    unfold rd
    rcases hz with rfl | rfl | rfl
    · have e : l.length = 1 := by omega
      rw [e, if_neg (by decide), if_neg (by decide), if_pos rfl]
      intro j _; rfl
    · have e : l.length = 4 := by omega
      rw [e, if_neg (by decide), if_pos rfl]
      intro j hj
      have : j = 0 ∨ j = 1 ∨ j = 2 ∨ j = 3 := by omega
      rcases this with rfl | rfl | rfl | rfl <;> simp only [Int.reducePow] <;> omega
    · have e : l.length = 8 := by omega
      rw [e, if_pos rfl]
      intro j hj
      have : j = 0 ∨ j = 1 ∨ j = 2 ∨ j = 3 ∨ j = 4 ∨ j = 5 ∨ j = 6 ∨ j = 7 := by omega
      rcases this with rfl | rfl | rfl | rfl | rfl | rfl | rfl | rfl <;> simp only [Int.reducePow] <;> omega
  rw [hm, e]
/-- 'n<<8 | b'. -/
theorem or_i64 (n b : Int) (h0 : 0 ≤ b) (h1 : b < 256) : bits .or .i64 (IntKind.i64.wrap (n * 256)) b = IntKind.i64.wrap (n * 256 + b) := by
  have e : (IntKind.i64.wrap (n * 256)) % 256 = 0 := by rw [IntKind.wrap_i64]; omega
  obtain ⟨m, hm⟩ : ∃ m, IntKind.i64.wrap (n * 256) = m := ⟨_, rfl⟩
  have hb : -9223372036854775808 ≤ m ∧ m < 9223372036854775808 := by rw [← hm, IntKind.wrap_i64]; omega
  have hw : IntKind.i64.wrap (n * 256 + b) = m + b := by
    have hm' := hm
    rw [IntKind.wrap_i64] at hm' ⊢
    rw [hm] at e
    omega
  rw [hw, hm]
  rw [hm] at e
  clear hw hm
  obtain ⟨B, rfl⟩ := Int.eq_ofNat_of_zero_le h0
  obtain ⟨M, hM⟩ : ∃ M : Nat, M = (m % 18446744073709551616).toNat := ⟨_, rfl⟩
  have hq : M = 2 ^ 8 * (M / 256) := by omega
  have e2 : bits .or .i64 m (B : Int) = IntKind.i64.wrap ((M ||| B : Nat) : Int) := by
    simp only [bits, BitVec.toNat_or, BitVec.toNat_ofInt]
    rw [hM]
    congr 3
    show ((B : Int) % ((2 ^ 64 : Nat) : Int)).toNat = B
    omega
  rw [e2, hq, ← Nat.two_pow_add_eq_or_of_lt (by omega) (M / 256), ← hq, IntKind.wrap_i64]
  omega
end Go.Proofs.Ytllficloadncfaa.om

/-
  Plain mathematics: heads of files of zones, when they are right, their bytes, what is read of bytes, and how many bytes follow. Nothing of any program. Conditions: as said.
-/
namespace Go.Proofs.Ytllficloadncfaa.hd
open om
set_option linter.unusedVariables false
set_option maxRecDepth 100000

/-- a head: its version and its six counts. -/
structure Hd where
  v : Int
  ut : Int
  sd : Int
  lp : Int
  tm : Int
  ty : Int
  ch : Int
theorem Hd.ext7 {a b : Hd} (h1 : a.v = b.v) (h2 : a.ut = b.ut) (h3 : a.sd = b.sd) (h4 : a.lp = b.lp) (h5 : a.tm = b.tm) (h6 : a.ty = b.ty) (h7 : a.ch = b.ch) : a = b := by
  cases a; cases b; simp_all
def fromB (a n b : Int) : Bool := decide (a ≤ n) && decide (n ≤ b)
def noneB (n a : Int) : Bool := (n == 0) || (n == a)
/-- is it right? -/
def okB (h : Hd) : Bool := fromB 1 h.v 4 && noneB h.ut h.ty && noneB h.sd h.ty && fromB 0 h.lp 201 && fromB 0 h.tm 2000 && fromB 1 h.ty 64 && fromB 1 h.ch 256
theorem from_iff {a n b : Int} : fromB a n b = true ↔ a ≤ n ∧ n ≤ b := by unfold fromB; simp
theorem none_iff {n a : Int} : noneB n a = true ↔ n = 0 ∨ n = a := by unfold noneB; simp
def Ok (h : Hd) : Prop := (1 ≤ h.v ∧ h.v ≤ 4) ∧ (h.ut = 0 ∨ h.ut = h.ty) ∧ (h.sd = 0 ∨ h.sd = h.ty) ∧ (0 ≤ h.lp ∧ h.lp ≤ 201) ∧ (0 ≤ h.tm ∧ h.tm ≤ 2000) ∧ (1 ≤ h.ty ∧ h.ty ≤ 64) ∧ (1 ≤ h.ch ∧ h.ch ≤ 256)
theorem ok_iff {h : Hd} : okB h = true ↔ Ok h := by
  unfold okB Ok
  simp only [Bool.and_eq_true, from_iff, none_iff, and_assoc]
theorem ok_no {h : Hd} : okB h = false ↔ ¬ Ok h := by rw [← ok_iff]; simp
/-- the byte of a version. -/
def vb (v : Int) : Nat := if v = 1 then 0 else (48 + v).toNat
theorem vb_lt {v : Int} (h : v ≤ 200) : vb v < 256 := by unfold vb; split <;> omega
/-- what stands ahead of the numbers. -/
def pref (v : Int) : List Nat := [84, 90, 105, 102, vb v, 0, 0, 0, 0, 0, 0, 0, 0, 0, 0, 0, 0, 0, 0, 0]
def nums (h : Hd) : List Int := [h.ut, h.sd, h.lp, h.tm, h.ty, h.ch]
/-- numbers, in four bytes each. -/
def lay4s : List Int → List Nat
  | [] => []
  | n :: l => lay n 4 ++ lay4s l
theorem lay4s_snoc : ∀ (l : List Int) (n : Int), lay4s (l ++ [n]) = lay4s l ++ lay n 4
  | [], n => by simp [lay4s]
  | m :: l, n => by rw [List.cons_append, lay4s, lay4s_snoc l n, lay4s, List.append_assoc]
theorem lay4s_len : ∀ l : List Int, (lay4s l).length = 4 * l.length
  | [] => rfl
  | n :: l => by rw [lay4s, List.length_append, lay_len, lay4s_len l, List.length_cons]; omega
theorem lay4s_bys : ∀ l : List Int, Bys (lay4s l)
  | [] => bys_nil
  | n :: l => (lay_bys n 4).app (lay4s_bys l)
/-- a head's bytes. -/
def byts (h : Hd) : List Nat := pref h.v ++ lay4s (nums h)
theorem byts_len (h : Hd) : (byts h).length = 44 := by unfold byts; rw [List.length_append, lay4s_len]; rfl
theorem pref_bys {v : Int} (h : v ≤ 200) : Bys (pref v) := by
  intro x hx
  unfold pref at hx
  have := vb_lt h
  simp only [List.mem_cons, List.not_mem_nil, or_false] at hx
  omega
theorem byts_bys {h : Hd} (k : okB h = true) : Bys (byts h) := (pref_bys (by have := (ok_iff.1 k).1; omega)).app (lay4s_bys _)
/-- the bytes that Encode tells. -/
def enc (h : Hd) : List Nat := if okB h = true then byts h else []
theorem enc_yes {h : Hd} (k : okB h = true) : enc h = byts h := if_pos k
theorem enc_no {h : Hd} (k : okB h = false) : enc h = [] := if_neg (by rw [k]; decide)
/-- the six numbers as they are read, four bytes each, the k-th of them. -/
def at4 (l : List Nat) (k : Nat) : Int := rd ((l.drop (20 + 4 * k)).take 4)
/-- the version of a byte: as the program reads it, and as the document does. -/
def vof (c : Int) : Int := if c = 0 then 1 else c - 48
def vdoc (c : Int) : Int := if 48 < c then c - 48 else 1
def cnd (f : Int → Int) (l : List Nat) : Hd := ⟨f (l.getD 4 0 : Nat), at4 l 0, at4 l 1, at4 l 2, at4 l 3, at4 l 4, at4 l 5⟩
/-- has it that head? -/
def isB (f : Int → Int) (l : List Nat) : Bool := decide (44 ≤ l.length) && (okB (cnd f l) && decide (byts (cnd f l) = l.take 44))
theorem fits4 {n : Int} (h : -2147483648 ≤ n ∧ n ≤ 2147483647) : Fits n 4 := by unfold Fits; omega
theorem rd4 {n : Int} (h : -2147483648 ≤ n ∧ n ≤ 2147483647) : rd (lay n 4) = n := rd_lay (z := 4) (fits4 h) (by omega) (by omega)
theorem drop_len {a b : List Nat} {n : Nat} (h : a.length = n) : (a ++ b).drop n = b := by rw [← h, List.drop_left']; rfl
theorem take_len {a b : List Nat} {n : Nat} (h : a.length = n) : (a ++ b).take n = a := by rw [← h, List.take_left']; rfl
theorem at4_num (v : Int) (ns : List Int) (r : List Nat) (k : Nat) (h : k < ns.length) (hb : -2147483648 ≤ ns[k] ∧ ns[k] ≤ 2147483647) : at4 (pref v ++ lay4s ns ++ r) k = ns[k] := by
  unfold at4
  have e : ns = ns.take k ++ ns[k] :: ns.drop (k + 1) := by rw [← List.drop_eq_getElem_cons h, List.take_append_drop]
  have l2 : ∀ a b : List Int, lay4s (a ++ b) = lay4s a ++ lay4s b := fun a b => by
    induction a with
    | nil => rfl
    | cons x a ih => rw [List.cons_append, lay4s, ih, lay4s, List.append_assoc]
  have e2 : pref v ++ lay4s ns ++ r = (pref v ++ lay4s (ns.take k)) ++ (lay ns[k] 4 ++ (lay4s (ns.drop (k + 1)) ++ r)) := by
    conv => lhs; rw [e]
    rw [l2, lay4s]
    simp only [List.append_assoc]
  rw [e2, drop_len (by rw [List.length_append, lay4s_len, List.length_take, Nat.min_eq_left (by omega)]; rfl), take_len (lay_len _ _), rd4 hb]
/-- a head's bytes, whatever follows, are read as it. -/
theorem cnd_byts {f : Int → Int} (hf : ∀ v, 1 ≤ v → v ≤ 4 → f (vb v : Nat) = v) {h : Hd} (k : Ok h) (r : List Nat) : cnd f (byts h ++ r) = h := by
  obtain ⟨k1, k2, k3, k4, k5, k6, k7⟩ := k
  unfold cnd byts
  apply Hd.ext7
  · show f (((pref h.v ++ lay4s (nums h) ++ r).getD 4 0 : Nat) : Int) = h.v
    rw [show (pref h.v ++ lay4s (nums h) ++ r).getD 4 0 = vb h.v from rfl]
    exact hf _ k1.1 k1.2
  · exact at4_num h.v (nums h) r 0 (show 0 < 6 by decide) (by simp only [nums, List.getElem_cons_zero]; omega)
  · exact at4_num h.v (nums h) r 1 (show 1 < 6 by decide) (by simp only [nums, List.getElem_cons_zero, List.getElem_cons_succ]; omega)
  · exact at4_num h.v (nums h) r 2 (show 2 < 6 by decide) (by simp only [nums, List.getElem_cons_zero, List.getElem_cons_succ]; omega)
  · exact at4_num h.v (nums h) r 3 (show 3 < 6 by decide) (by simp only [nums, List.getElem_cons_zero, List.getElem_cons_succ]; omega)
  · exact at4_num h.v (nums h) r 4 (show 4 < 6 by decide) (by simp only [nums, List.getElem_cons_zero, List.getElem_cons_succ]; omega)
  · exact at4_num h.v (nums h) r 5 (show 5 < 6 by decide) (by simp only [nums, List.getElem_cons_zero, List.getElem_cons_succ]; omega)
theorem vof_vb (v : Int) (h1 : 1 ≤ v) (h2 : v ≤ 4) : vof (vb v : Nat) = v := by
  unfold vof vb
  split <;> split <;> omega
theorem vdoc_vb (v : Int) (h1 : 1 ≤ v) (h2 : v ≤ 4) : vdoc (vb v : Nat) = v := by
  unfold vdoc vb
  split <;> split <;> omega
/-- bytes begin with a head's. -/
def Heads (h : Hd) (l : List Nat) : Prop := okB h = true ∧ byts h = l.take 44
theorem is_iff {f : Int → Int} (hf : ∀ v, 1 ≤ v → v ≤ 4 → f (vb v : Nat) = v) {l : List Nat} {h : Hd} : isB f l = true ∧ cnd f l = h ↔ Heads h l := by
  unfold isB Heads
  simp only [Bool.and_eq_true, decide_eq_true_eq]
  constructor
  · rintro ⟨⟨h1, h2, h3⟩, rfl⟩
    exact ⟨h2, h3⟩
  · rintro ⟨h1, h2⟩
    have hl : 44 ≤ l.length := by
      have := congrArg List.length h2
      rw [byts_len, List.length_take] at this
      omega
    have e : l = byts h ++ l.drop 44 := by rw [h2, List.take_append_drop]
    have e2 : cnd f l = h := by rw [e]; exact cnd_byts hf (ok_iff.1 h1) _
    rw [e2]
    exact ⟨⟨hl, h1, h2⟩, rfl⟩
/-- what Decode tells. -/
def zero : Hd := ⟨0, 0, 0, 0, 0, 0, 0⟩
def dec (f : Int → Int) (l : List Nat) : Hd := if isB f l = true then cnd f l else zero
theorem dec_yes {f : Int → Int} {l : List Nat} (h : isB f l = true) : dec f l = cnd f l := if_pos h
theorem dec_no {f : Int → Int} {l : List Nat} (h : isB f l = false) : dec f l = zero := if_neg (by rw [h]; decide)
theorem is_same (l : List Nat) : isB vdoc l = isB vof l := by
  rw [Bool.eq_iff_iff]
  constructor
  · intro h
    exact ((is_iff vof_vb).2 ((is_iff vdoc_vb).1 ⟨h, rfl⟩)).1
  · intro h
    exact ((is_iff vdoc_vb).2 ((is_iff vof_vb).1 ⟨h, rfl⟩)).1
theorem dec_same (l : List Nat) : dec vdoc l = dec vof l := by
  unfold dec
  rw [is_same]
  split
  · rename_i h
    have := ((is_iff vdoc_vb).2 ((is_iff vof_vb).1 ⟨h, rfl⟩)).2
    exact this
  · rfl
/-- how many bytes follow. -/
def szOk (h : Hd) (s : Int) : Bool := okB h && ((s == 4) || (s == 8))
def szv (h : Hd) (s : Int) : Int := h.tm * (s + 1) + h.ty * 6 + h.ch + h.lp * (s + 4) + h.sd + h.ut
def sz (h : Hd) (s : Int) : Int := if szOk h s = true then szv h s else 0
theorem sz_yes {h : Hd} {s : Int} (k : szOk h s = true) : sz h s = szv h s := if_pos k
theorem sz_no {h : Hd} {s : Int} (k : szOk h s = false) : sz h s = 0 := if_neg (by rw [k]; decide)
theorem szb_iff {h : Hd} {s : Int} : szOk h s = true ↔ Ok h ∧ (s = 4 ∨ s = 8) := by unfold szOk; simp [ok_iff]
/-- unlike heads have unlike bytes. -/
theorem byts_inj {h g : Hd} (kh : okB h = true) (kg : okB g = true) (e : byts h = byts g) : h = g := by
  rw [← cnd_byts vof_vb (ok_iff.1 kh) [], ← cnd_byts vof_vb (ok_iff.1 kg) [], e]
/-- no beginning is one. -/
theorem is_short {f : Int → Int} {l : List Nat} (h : l.length < 44) : isB f l = false := by
  unfold isB
  rw [decide_eq_false (by omega)]
  rfl
theorem is_byts {h : Hd} (k : okB h = true) (r : List Nat) : isB vof (byts h ++ r) = true ∧ dec vof (byts h ++ r) = h := by
  have q : Heads h (byts h ++ r) := ⟨k, (take_len (byts_len h)).symm⟩
  have := (is_iff vof_vb).2 q
  exact ⟨this.1, by rw [dec_yes this.1]; exact this.2⟩
end Go.Proofs.Ytllficloadncfaa.hd
