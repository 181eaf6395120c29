/-
  Plain mathematics: numbers as bytes, the highest one first, in one, four or eight of them, and back; their order. Nothing of any program. Conditions: as said.
-/
import Derived.Test.YtkdmecpelfcbmaaRows
import Derived.Laws.BitsLemmas
import Derived.Laws.BitsAllLaws
import Derived.IntWalk
namespace Go.Proofs.Ytkdmecpelfcbmaa.om
set_option linter.unusedVariables false
set_option maxRecDepth 100000

/-- may a number be laid in so many bytes? -/
def Fits (n z : Int) : Prop := z = 8 ∨ z = 4 ∧ -2147483648 ≤ n ∧ n ≤ 2147483647 ∨ z = 1 ∧ 0 ≤ n ∧ n ≤ 255
def fitB (n z : Int) : Bool := decide (z = 8 ∨ z = 4 ∧ -2147483648 ≤ n ∧ n ≤ 2147483647 ∨ z = 1 ∧ 0 ≤ n ∧ n ≤ 255)
theorem fit_iff {n z : Int} : fitB n z = true ↔ Fits n z := by unfold fitB Fits; simp
theorem fit_no {n z : Int} : fitB n z = false ↔ ¬ Fits n z := by rw [← fit_iff]; simp
/-- may numbers have that size? -/
def Sz (z : Int) : Prop := z = 1 ∨ z = 4 ∨ z = 8
theorem fit_sz {n z : Int} (h : Fits n z) : Sz z := by unfold Fits at h; unfold Sz; omega
theorem fit_zero {z : Int} : Fits 0 z ↔ Sz z := by unfold Fits Sz; omega

/-- all are bytes. -/
def Bys (l : List Nat) : Prop := ∀ x ∈ l, x < 256
theorem Bys.app {l m : List Nat} (h : Bys l) (k : Bys m) : Bys (l ++ m) := fun x hx => (List.mem_append.1 hx).elim (h x) (k x)
theorem Bys.take {l : List Nat} (h : Bys l) (n : Nat) : Bys (l.take n) := fun x hx => h x (List.mem_of_mem_take hx)
theorem Bys.drop {l : List Nat} (h : Bys l) (n : Nat) : Bys (l.drop n) := fun x hx => h x (List.mem_of_mem_drop hx)
theorem bys_nil : Bys [] := fun x hx => by cases hx

/-- the bytes of a number, so many, the highest one first. -/
def lay (n : Int) : Nat → List Nat
  | 0 => []
  | k + 1 => (n / 256 ^ k % 256).toNat :: lay n k
theorem lay_len (n : Int) : ∀ k, (lay n k).length = k
  | 0 => rfl
  | k + 1 => by rw [lay, List.length_cons, lay_len n k]
theorem lay_bys (n : Int) : ∀ k, Bys (lay n k)
  | 0 => bys_nil
  | k + 1 => fun x hx => by
    rcases List.mem_cons.1 hx with rfl | hx
    · omega
    · exact lay_bys n k x hx
/-- the number of bytes, none below 0. -/
def val : List Nat → Nat → Nat
  | [], a => a
  | x :: l, a => val l (a * 256 + x)
theorem val_snoc : ∀ (l : List Nat) (x a : Nat), val (l ++ [x]) a = val l a * 256 + x
  | [], x, a => rfl
  | y :: l, x, a => by rw [List.cons_append, val, val_snoc l x]; rfl
theorem val_split : ∀ (l : List Nat) (a : Nat), val l a = a * 256 ^ l.length + val l 0
  | [], a => by simp [val]
  | x :: l, a => by
    rw [val, val, val_split l (a * 256 + x), val_split l (0 * 256 + x), List.length_cons, Nat.pow_succ, Nat.zero_mul, Nat.zero_add, Nat.add_mul, Nat.mul_assoc, Nat.mul_comm 256 (256 ^ l.length)]
    omega
theorem val_lt : ∀ (l : List Nat), Bys l → val l 0 < 256 ^ l.length
  | [], _ => by simp [val]
  | x :: l, h => by
    have h1 := val_lt l (fun y hy => h y (List.mem_cons_of_mem _ hy))
    have h2 := h x (List.mem_cons_self ..)
    rw [val, val_split, List.length_cons, Nat.pow_succ]
    have : (0 * 256 + x) * 256 ^ l.length ≤ 255 * 256 ^ l.length := Nat.mul_le_mul_right _ (by omega)
    omega
theorem val_lay (n : Int) : ∀ k, (val (lay n k) 0 : Int) = n % 256 ^ k
  | 0 => by simp [val, lay, Int.emod_one]
  | k + 1 => by
    rw [lay, val, val_split, lay_len, Int.natCast_add, val_lay n k]
    have e : (((0 * 256 + (n / 256 ^ k % 256).toNat) * 256 ^ k : Nat) : Int) = (n / 256 ^ k % 256) * 256 ^ k := by
      rw [Int.natCast_mul, Int.natCast_pow]
      congr 1
      omega
    rw [e, Int.pow_succ]
    have hp : (0 : Int) < 256 ^ k := Int.pow_pos (by decide)
    have h1 := Int.mul_ediv_add_emod n (256 ^ k)
    have h2 := Int.mul_ediv_add_emod (n / 256 ^ k) 256
    have h3 : n / (256 ^ k * 256) = n / 256 ^ k / 256 := (Int.ediv_ediv_of_nonneg (Int.le_of_lt hp)).symm
    have h4 := Int.mul_ediv_add_emod n (256 ^ k * 256)
    rw [h3] at h4
    have h5 : 256 ^ k * 256 * (n / 256 ^ k / 256) = 256 ^ k * (256 * (n / 256 ^ k / 256)) := Int.mul_assoc _ _ _
    have h6 : 256 ^ k * (n / 256 ^ k) = 256 ^ k * (256 * (n / 256 ^ k / 256)) + 256 ^ k * (n / 256 ^ k % 256) := by rw [← Int.mul_add, h2]
    rw [Int.mul_comm (n / 256 ^ k % 256)]
    omega
theorem lay_mod (n m : Int) (k : Nat) (h : ∀ j, j < k → n / 256 ^ j % 256 = m / 256 ^ j % 256) : lay n k = lay m k := by
  induction k with
  | zero => rfl
  | succ k ih => rw [lay, lay, h k (by omega), ih (fun j hj => h j (by omega))]
theorem lay_val : ∀ (l : List Nat) (a : Nat), Bys l → lay (val l a : Nat) l.length = l
  | [], a, _ => rfl
  | x :: l, a, h => by
    have hl : Bys l := fun y hy => h y (List.mem_cons_of_mem _ hy)
    have hx := h x (List.mem_cons_self ..)
    rw [List.length_cons, lay, val, lay_val l _ hl]
    congr 1
    have e := val_split l (a * 256 + x)
    have lt := val_lt l hl
    have hp : 0 < 256 ^ l.length := Nat.pow_pos (by decide)
    have d : val l (a * 256 + x) / 256 ^ l.length = a * 256 + x := by
      rw [e, Nat.mul_comm, Nat.mul_add_div hp, Nat.div_eq_of_lt lt, Nat.add_zero]
    have c : ((val l (a * 256 + x) : Nat) : Int) / 256 ^ l.length = ((a * 256 + x : Nat) : Int) := by
      have := congrArg (Nat.cast (R := Int)) d
      rw [Int.natCast_ediv, Int.natCast_pow] at this
      exact this
    rw [c]
    omega
/-- bytes as a number: with the sign that four or eight have. -/
def rd (l : List Nat) : Int :=
  if l.length = 8 then ((val l 0 : Nat) + 9223372036854775808) % 18446744073709551616 - 9223372036854775808
  else if l.length = 4 then ((val l 0 : Nat) + 2147483648) % 4294967296 - 2147483648
  else if l.length = 1 then (val l 0 : Nat) else 0
theorem rd_nil : rd [] = 0 := rfl
theorem rd_lay {n z : Int} (h : Fits n z) (h1 : -9223372036854775808 ≤ n) (h2 : n ≤ 9223372036854775807) : rd (lay n z.toNat) = n := by
  have v := val_lay n z.toNat
  unfold rd
  rw [lay_len, v]
  rcases h with rfl | ⟨rfl, a, b⟩ | ⟨rfl, a, b⟩
  · simp only [show (8 : Int).toNat = 8 from rfl, if_pos, Int.reducePow]; omega
  · simp only [show (4 : Int).toNat = 4 from rfl, if_pos, Int.reducePow]; omega
  · simp only [show (1 : Int).toNat = 1 from rfl, if_pos, Int.reducePow]; omega
theorem rd_fits {l : List Nat} {z : Int} (hz : Sz z) (hl : (l.length : Int) = z) (h : Bys l) : Fits (rd l) z := by
  have lt := val_lt l h
  unfold rd Fits
  rcases hz with rfl | rfl | rfl
  · have e : l.length = 1 := by omega
    rw [e] at lt
    rw [e, if_neg (by decide), if_neg (by decide), if_pos rfl]
    omega
  · have e : l.length = 4 := by omega
    rw [e, if_neg (by decide), if_pos rfl]
    omega
  · exact Or.inl rfl
theorem rd_bd {l : List Nat} (h : Bys l) : -9223372036854775808 ≤ rd l ∧ rd l ≤ 9223372036854775807 := by
  have lt := val_lt l h
  unfold rd
  split
  · omega
  · split
    · omega
    · split
      · rename_i e; rw [e] at lt; omega
      · omega
theorem lay_rd {l : List Nat} {z : Int} (hz : Sz z) (hl : (l.length : Int) = z) (h : Bys l) : lay (rd l) z.toNat = l := by
  have e := lay_val l 0 h
  have ez : z.toNat = l.length := by omega
  rw [ez]
  have hm : lay (rd l) l.length = lay (val l 0 : Nat) l.length := by
    apply lay_mod
    unfold rd
    rcases hz with rfl | rfl | rfl
    · have e : l.length = 1 := by omega
      rw [e, if_neg (by decide), if_neg (by decide), if_pos rfl]
      intro j _; rfl
    · have e : l.length = 4 := by omega
      rw [e, if_neg (by decide), if_pos rfl]
      intro j hj
      have : j = 0 ∨ j = 1 ∨ j = 2 ∨ j = 3 := by omega
      rcases this with rfl | rfl | rfl | rfl <;> simp only [Int.reducePow] <;> omega
    · have e : l.length = 8 := by omega
      rw [e, if_pos rfl]
      intro j hj
      have : j = 0 ∨ j = 1 ∨ j = 2 ∨ j = 3 ∨ j = 4 ∨ j = 5 ∨ j = 6 ∨ j = 7 := by omega
      rcases this with rfl | rfl | rfl | rfl | rfl | rfl | rfl | rfl <;> simp only [Int.reducePow] <;> omega
  rw [hm, e]
/-- 'n<<8 | b'. -/
theorem or_i64 (n b : Int) (h0 : 0 ≤ b) (h1 : b < 256) : bits .or .i64 (IntKind.i64.wrap (n * 256)) b = IntKind.i64.wrap (n * 256 + b) := by
  have e : (IntKind.i64.wrap (n * 256)) % 256 = 0 := by rw [IntKind.wrap_i64]; omega
  obtain ⟨m, hm⟩ : ∃ m, IntKind.i64.wrap (n * 256) = m := ⟨_, rfl⟩
  have hb : -9223372036854775808 ≤ m ∧ m < 9223372036854775808 := by rw [← hm, IntKind.wrap_i64]; omega
  have hw : IntKind.i64.wrap (n * 256 + b) = m + b := by
    have hm' := hm
    rw [IntKind.wrap_i64] at hm' ⊢
    rw [hm] at e
    omega
  rw [hw, hm]
  rw [hm] at e
  clear hw hm
  obtain ⟨B, rfl⟩ := Int.eq_ofNat_of_zero_le h0
  obtain ⟨M, hM⟩ : ∃ M : Nat, M = (m % 18446744073709551616).toNat := ⟨_, rfl⟩
  have hq : M = 2 ^ 8 * (M / 256) := by omega
  have e2 : bits .or .i64 m (B : Int) = IntKind.i64.wrap ((M ||| B : Nat) : Int) := by
    simp only [bits, BitVec.toNat_or, BitVec.toNat_ofInt]
    rw [hM]
    congr 3
    show ((B : Int) % ((2 ^ 64 : Nat) : Int)).toNat = B
    omega
  rw [e2, hq, ← Nat.two_pow_add_eq_or_of_lt (by omega) (M / 256), ← hq, IntKind.wrap_i64]
  omega
end Go.Proofs.Ytkdmecpelfcbmaa.om
