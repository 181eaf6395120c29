/-
  Names of local times: which are right, how they lie one behind the other, and where each begins. Nothing of any program. Conditions: as said.
-/
import Derived.Test.YtllficloadncfaaG02
namespace Go.Proofs.Ytllficloadncfaa.ab
open lx
set_option linter.unusedVariables false
set_option maxRecDepth 100000

abbrev Nm := List UInt8
/-- may a byte stand in a name? -/
def nmB (c : Nat) : Bool := (decide (65 ≤ c) && decide (c ≤ 90)) || (decide (97 ≤ c) && decide (c ≤ 122)) || (decide (48 ≤ c) && decide (c ≤ 57)) || decide (c = 43) || decide (c = 45)
def rt (l : Nm) : Bool := decide (3 ≤ l.length) && decide (l.length ≤ 16) && l.all (fun c => nmB c.toNat)
theorem rt_iff (l : Nm) : rt l = true ↔ 3 ≤ l.length ∧ l.length ≤ 16 ∧ ∀ c ∈ l, nmB c.toNat = true := by
  simp [rt, and_assoc]
theorem rt_zero {l : Nm} (h : rt l = true) : ∀ c ∈ l, c ≠ 0 := by
  intro c hc e
  have := ((rt_iff l).1 h).2.2 c hc
  subst e
  revert this
  decide
/-- up to the place k all bytes may stand in a name. -/
def alB (s : ByteArray) (k : Nat) : Prop := ∀ j, j < k → nmB (bt s j) = true
theorem bt_mem {s : ByteArray} {c : UInt8} (h : c ∈ L s) : ∃ k, k < s.size ∧ bt s k = c.toNat := by
  obtain ⟨k, hk, e⟩ := List.mem_iff_getElem.1 h
  refine ⟨k, hk, ?_⟩
  unfold bt
  rw [List.getD_eq_getElem?_getD, List.getElem?_eq_getElem hk, e]
  rfl
theorem bt_in (s : ByteArray) {k : Nat} (h : k < s.size) : ∃ c ∈ L s, bt s k = c.toNat := by
  have hk : k < (L s).length := h
  refine ⟨(L s)[k], List.getElem_mem hk, ?_⟩
  unfold bt
  rw [List.getD_eq_getElem?_getD, List.getElem?_eq_getElem hk]
  rfl
theorem rt_yes {s : ByteArray} (h1 : 3 ≤ s.size) (h2 : s.size ≤ 16) (h : alB s s.size) : rt (L s) = true := by
  rw [rt_iff]
  refine ⟨h1, h2, fun c hc => ?_⟩
  obtain ⟨k, hk, e⟩ := bt_mem hc
  rw [← e]
  exact h k hk
theorem rt_no {s : ByteArray} {k : Nat} (hk : k < s.size) (h : nmB (bt s k) = false) : rt (L s) = false := by
  rw [← Bool.not_eq_true, rt_iff]
  rintro ⟨_, _, h3⟩
  obtain ⟨c, hc, e⟩ := bt_in s hk
  rw [e, h3 c hc] at h
  cases h
theorem rt_few {s : ByteArray} (h : s.size < 3 ∨ 16 < s.size) : rt (L s) = false := by
  rw [← Bool.not_eq_true, rt_iff]
  rintro ⟨h1, h2, _⟩
  have e : (L s).length = s.size := rfl
  omega

/-! names one behind the other -/
def nx (ds : List Nm) (x : Nm) : List Nm := if x ∈ ds then ds else ds ++ [x]
def dst (X : List Nm) : List Nm := X.foldl nx []
def pl : List Nm → List UInt8
  | [] => []
  | x :: r => x ++ 0 :: pl r
def st (x : Nm) : List Nm → Nat
  | [] => 0
  | y :: r => if y = x then 0 else y.length + 1 + st x r
theorem pl_app (a b : List Nm) : pl (a ++ b) = pl a ++ pl b := by
  induction a with
  | nil => rfl
  | cons x r ih => simp [pl, ih]
theorem pl_snoc (a : List Nm) (x : Nm) : pl (a ++ [x]) = pl a ++ x ++ [0] := by rw [pl_app]; simp [pl]
theorem st_not {x : Nm} : ∀ {ds : List Nm}, x ∉ ds → st x ds = (pl ds).length
  | [], _ => rfl
  | y :: r, h => by
    rw [List.mem_cons] at h
    rw [st, if_neg (fun e => h (.inl e.symm)), st_not (ds := r) (fun k => h (.inr k)), pl]
    simp
    omega
theorem st_app {x : Nm} : ∀ {ds : List Nm} (e : List Nm), x ∈ ds → st x (ds ++ e) = st x ds
  | [], _, h => by cases h
  | y :: r, e, h => by
    rw [List.cons_append, st, st]
    by_cases k : y = x
    · rw [if_pos k, if_pos k]
    · rw [if_neg k, if_neg k, st_app e ((List.mem_cons.1 h).resolve_left (fun q => k q.symm))]
theorem st_new {x : Nm} : ∀ {ds : List Nm}, x ∉ ds → st x (ds ++ [x]) = (pl ds).length
  | [], _ => by simp [st, pl]
  | y :: r, h => by
    rw [List.mem_cons] at h
    rw [List.cons_append, st, if_neg (fun e => h (.inl e.symm)), st_new (ds := r) (fun k => h (.inr k)), pl]
    simp
    omega
theorem st_inj {x y : Nm} : ∀ {ds : List Nm}, x ∈ ds → y ∈ ds → st x ds = st y ds → x = y
  | [], h, _, _ => by cases h
  | z :: r, hx, hy, h => by
    rw [st, st] at h
    by_cases a : z = x
    · by_cases b : z = y
      · rw [← a, b]
      · rw [if_pos a, if_neg b] at h
        omega
    · by_cases b : z = y
      · rw [if_neg a, if_pos b] at h
        omega
      · rw [if_neg a, if_neg b] at h
        exact st_inj (ds := r) ((List.mem_cons.1 hx).resolve_left (fun q => a q.symm)) ((List.mem_cons.1 hy).resolve_left (fun q => b q.symm)) (by omega)
/-- what stands where a name begins. -/
theorem pl_at {x : Nm} : ∀ {ds : List Nm}, x ∈ ds → ∃ r, (pl ds).drop (st x ds) = x ++ 0 :: r
  | [], h => by cases h
  | z :: r, h => by
    rw [st, pl]
    by_cases a : z = x
    · rw [if_pos a, a]
      exact ⟨_, rfl⟩
    · rw [if_neg a]
      obtain ⟨q, hq⟩ := pl_at (ds := r) ((List.mem_cons.1 h).resolve_left (fun q => a q.symm))
      refine ⟨q, ?_⟩
      rw [show z ++ 0 :: pl r = (z ++ [0]) ++ pl r by simp, show z.length + 1 + st x r = (z ++ [0]).length + st x r by simp, ← List.drop_drop, List.drop_left, hq]
theorem nx_had {ds : List Nm} {x : Nm} (h : x ∈ ds) : nx ds x = ds := if_pos h
theorem nx_new {ds : List Nm} {x : Nm} (h : x ∉ ds) : nx ds x = ds ++ [x] := if_neg h
theorem nx_ext (ds : List Nm) (x : Nm) : ∃ e, nx ds x = ds ++ e := by
  by_cases h : x ∈ ds
  · exact ⟨[], by rw [nx_had h, List.append_nil]⟩
  · exact ⟨[x], nx_new h⟩
theorem nx_mem (ds : List Nm) (x : Nm) : x ∈ nx ds x := by
  by_cases h : x ∈ ds
  · rw [nx_had h]; exact h
  · rw [nx_new h]; simp
theorem fold_ext : ∀ (X ds : List Nm), ∃ e, X.foldl nx ds = ds ++ e
  | [], ds => ⟨[], by simp⟩
  | x :: X, ds => by
    obtain ⟨e, h⟩ := nx_ext ds x
    obtain ⟨f, k⟩ := fold_ext X (nx ds x)
    exact ⟨e ++ f, by rw [List.foldl_cons, k, h, List.append_assoc]⟩
theorem dst_snoc (X : List Nm) (x : Nm) : dst (X ++ [x]) = nx (dst X) x := by simp [dst]
theorem dst_ext (X Y : List Nm) : ∃ e, dst (X ++ Y) = dst X ++ e := by
  unfold dst
  rw [List.foldl_append]
  exact fold_ext Y _
theorem fold_mem : ∀ (X ds : List Nm) (x : Nm), x ∈ X.foldl nx ds ↔ x ∈ ds ∨ x ∈ X
  | [], ds, x => by simp
  | y :: X, ds, x => by
    rw [List.foldl_cons, fold_mem X]
    have : x ∈ nx ds y ↔ x ∈ ds ∨ x = y := by
      unfold nx
      split
      · constructor
        · exact .inl
        · rintro (h | rfl)
          · exact h
          · assumption
      · simp
    rw [this, List.mem_cons, or_assoc]
theorem dst_mem (X : List Nm) (x : Nm) : x ∈ dst X ↔ x ∈ X := by
  unfold dst
  rw [fold_mem]
  simp
theorem pl_mono (X Y : List Nm) : (pl (dst X)).length ≤ (pl (dst (X ++ Y))).length := by
  obtain ⟨e, h⟩ := dst_ext X Y
  rw [h, pl_app, List.length_append]
  omega
/-- all that Pool answers. -/
def okB (X : List Nm) : Bool := X.all rt && decide ((pl (dst X)).length ≤ 256)
def pT (X : List Nm) : List UInt8 := if okB X = true then pl (dst X) else []
def pN (X : List Nm) : List Int := if okB X = true then X.map (fun x => (st x (dst X) : Int)) else []
theorem ok_iff (X : List Nm) : okB X = true ↔ (∀ x ∈ X, rt x = true) ∧ (pl (dst X)).length ≤ 256 := by simp [okB]
theorem ok_take {X Y : List Nm} (h : okB (X ++ Y) = true) : okB X = true := by
  rw [ok_iff] at h ⊢
  exact ⟨fun x hx => h.1 x (by simp [hx]), Nat.le_trans (pl_mono X Y) h.2⟩
theorem ok_bad {X Y : List Nm} (h : okB X = false) : okB (X ++ Y) = false := by
  rw [← Bool.not_eq_true] at h ⊢
  exact fun k => h (ok_take k)
/-- where names begin is where they began. -/
theorem at_ext (X : List Nm) (x : Nm) : X.map (fun y => (st y (dst (X ++ [x])) : Int)) = X.map (fun y => (st y (dst X) : Int)) := by
  apply List.map_congr_left
  intro y hy
  obtain ⟨e, h⟩ := dst_ext X [x]
  rw [h, st_app e ((dst_mem X y).2 hy)]
theorem at_snoc (X : List Nm) (x : Nm) : (X ++ [x]).map (fun y => (st y (dst (X ++ [x])) : Int)) = X.map (fun y => (st y (dst X) : Int)) ++ [(st x (nx (dst X) x) : Int)] := by
  rw [List.map_append, at_ext, List.map_cons, List.map_nil, dst_snoc]
theorem pT_len (X : List Nm) : (pT X).length ≤ 256 := by
  unfold pT
  split
  · rename_i h
    exact ((ok_iff X).1 h).2
  · simp
theorem pN_len (X : List Nm) : (pN X).length = if okB X = true then X.length else 0 := by
  unfold pN
  split <;> simp

/-! what stands at a place -/
def cutZ (l : List UInt8) : Option (List UInt8) := if (0 : UInt8) ∈ l then some (l.takeWhile (fun c => c != 0)) else none
/-- what At answers: a name, or none. -/
def aT (l : List UInt8) (at' : Int) : Option Nm :=
  if 0 ≤ at' ∧ at' < l.length then
    match cutZ (l.drop at'.toNat) with
    | some x => if rt x = true then some x else none
    | none => none
  else none
def aS (l : List UInt8) (a : Int) : Nm := (aT l a).getD []
def aB (l : List UInt8) (a : Int) : Bool := (aT l a).isSome
theorem tw_name {x : Nm} (h : ∀ c ∈ x, c ≠ 0) (r : List UInt8) : (x ++ 0 :: r).takeWhile (fun c => c != 0) = x := by
  induction x with
  | nil => simp
  | cons c x ih =>
    have hc : (c != 0) = true := by simpa using h c (by simp)
    simp only [List.cons_append, List.takeWhile_cons]
    rw [if_pos hc, ih (fun d hd => h d (by simp [hd]))]
theorem cut_name {x : Nm} (h : ∀ c ∈ x, c ≠ 0) (r : List UInt8) : cutZ (x ++ 0 :: r) = some x := by
  unfold cutZ
  rw [if_pos (by simp), tw_name h]
theorem aT_out {l : List UInt8} {a : Int} (h : ¬ (0 ≤ a ∧ a < l.length)) : aT l a = none := if_neg h
theorem aT_in {l : List UInt8} {n : Nat} (h : n < l.length) : aT l n = (match cutZ (l.drop n) with | some x => if rt x = true then some x else none | none => none) := by
  unfold aT
  rw [if_pos ⟨by omega, by omega⟩]
  rfl
theorem aT_name {l : List UInt8} {n : Nat} {x : Nm} {r : List UInt8} (e : l.drop n = x ++ 0 :: r) (h : rt x = true) : aT l n = some x := by
  have hn : n < l.length := by
    rcases Nat.lt_or_ge n l.length with h | h
    · exact h
    · rw [List.drop_eq_nil_of_le h] at e
      simp at e
  rw [aT_in hn, e, cut_name (rt_zero h)]
  simp [h]
/-- what comes of a place where a name begins. -/
theorem aT_pool {X : List Nm} (ho : okB X = true) {x : Nm} (hx : x ∈ X) : aT (pl (dst X)) (st x (dst X) : Nat) = some x := by
  obtain ⟨r, hr⟩ := pl_at ((dst_mem X x).2 hx)
  exact aT_name hr (((ok_iff X).1 ho).1 x hx)
/-- what is told of a place stands there, with a byte 0 behind. -/
theorem aT_some {l : List UInt8} {a : Int} {x : Nm} (h : aT l a = some x) : ∃ (n : Nat) (r : List UInt8), a = n ∧ n < l.length ∧ rt x = true ∧ l.drop n = x ++ 0 :: r := by
  unfold aT at h
  split at h
  · rename_i hb
    obtain ⟨n, rfl⟩ : ∃ n : Nat, a = n := ⟨a.toNat, by omega⟩
    rw [Int.toNat_natCast] at h
    unfold cutZ at h
    by_cases hz : (0 : UInt8) ∈ l.drop n
    · rw [if_pos hz] at h
      simp only at h
      split at h
      · rename_i hr
        injection h with h
        subst h
        have hd := List.takeWhile_append_dropWhile (p := fun c : UInt8 => c != 0) (l := l.drop n)
        cases hw : (l.drop n).dropWhile (fun c : UInt8 => c != 0) with
        | nil =>
          rw [hw, List.append_nil] at hd
          rw [← hd] at hz
          have := List.all_eq_true.1 (List.all_takeWhile (p := fun c : UInt8 => c != 0) (l := l.drop n)) _ hz
          simp at this
        | cons c r =>
          have hc : c = 0 := by
            have := List.head?_dropWhile_not (fun c : UInt8 => c != 0) (l.drop n)
            rw [hw] at this
            simpa using this
          subst hc
          rw [hw] at hd
          exact ⟨n, r, rfl, by omega, hr, hd.symm⟩
      · cases h
    · rw [if_neg hz] at h
      cases h
  · cases h
end Go.Proofs.Ytllficloadncfaa.ab
