/-
  What the small case of layer 16's statements calls. Condition: MaxLen holds a number.
-/
import Derived.Test.YtllficloadncfaaG13
import Derived.Test.YtllficloadncfaaG16
import Derived.Test.YtllficloadncfaaG17
import Derived.Test.YtllficloadncfaaG08
namespace Go.Proofs.Ytllficloadncfaa.blk
open Go.ChangeShapes Go.WideShapes Go.ChangeAt Go.RowKit
open om mem oct bk
open abr (Fr)
set_option linter.unusedVariables false
set_option maxRecDepth 100000

def sU : ByteArray := ⟨#[85, 84, 67]⟩
def Z1 : Zn := ⟨[⟨0, false, ⟨#[85, 84, 67]⟩⟩], [], [], ⟨#[]⟩, 2⟩
def YY (x : Int) : Zn := ⟨[⟨-18000, false, ⟨#[69, 83, 84]⟩⟩, ⟨-14400, true, ⟨#[69, 68, 84]⟩⟩], [(x, 1)], [(7, 1)], ⟨#[]⟩, 4⟩
def N0 : Zn := ⟨[], [], [], ⟨#[]⟩, 2⟩
def D1 : List Nat := [0, 0, 0, 0, 0, 0, 85, 84, 67, 0]
def D2 : List Nat := [255, 255, 255, 251, 1, 255, 255, 185, 176, 0, 0, 255, 255, 199, 192, 1, 4, 69, 83, 84, 0, 69, 68, 84, 0, 0, 0, 0, 7, 0, 0, 0, 1]
def H1 : hd.Hd := ⟨2, 0, 0, 0, 0, 1, 4⟩
def H2 : hd.Hd := ⟨4, 0, 0, 1, 1, 2, 8⟩
theorem z_ok : okC Z1 = true := by decide +kernel
theorem z_cv : cv Z1 = H1 := by rw [cv_yes z_ok]; unfold cnt H1; congr 1
theorem z_ev : ev Z1 8 = true := by decide +kernel
theorem z_dat : dat Z1 8 = D1 := by decide +kernel
theorem y_ok : okC (YY (-5)) = true := by decide +kernel
theorem y_cv : cv (YY (-5)) = H2 := by rw [cv_yes y_ok]; unfold cnt H2; congr 1
theorem y_ev : ev (YY (-5)) 4 = true := by decide +kernel
theorem y_dat : dat (YY (-5)) 4 = D2 := by decide +kernel
theorem n_ev : ev N0 8 = false := by decide +kernel
theorem x_ev : ev (YY 2147483648) 4 = false := by decide +kernel
theorem a_dv : dv H1 (D1 ++ [0]) 8 = false := by decide +kernel
theorem z_bd : Bd Z1 := ⟨fun x hx => by simp only [Z1, List.mem_singleton] at hx; subst hx; unfold bk.I64; decide, (fun x hx => by cases hx), (fun x hx => by cases hx), by unfold bk.I64 Z1; decide, fun x hx => by simp only [Z1, nm, List.map, List.mem_singleton] at hx; subst hx; decide⟩
theorem y_bd (x : Int) (h : bk.I64 x) : Bd (YY x) := ⟨fun t ht => by simp only [YY, List.mem_cons, List.not_mem_nil, or_false] at ht; rcases ht with rfl | rfl <;> (unfold bk.I64; decide), (fun t ht => by simp only [YY, List.mem_singleton] at ht; subst ht; exact ⟨h, show bk.I64 1 by unfold bk.I64; decide⟩), (fun t ht => by simp only [YY, List.mem_singleton] at ht; subst ht; unfold bk.I64; decide), (show bk.I64 4 by unfold bk.I64; decide), fun t ht => by simp only [YY, nm, List.map, List.mem_cons, List.not_mem_nil, or_false] at ht; rcases ht with rfl | rfl <;> decide⟩
theorem n_bd : Bd N0 := ⟨(fun x hx => by cases hx), (fun x hx => by cases hx), (fun x hx => by cases hx), by unfold bk.I64 N0; decide, fun x hx => by cases hx⟩
theorem z_back : dv H1 D1 8 = true ∧ dec H1 D1 8 = Z1 := by
  have h := back (z := Z1) (s := 8) z_bd z_ev
  have h2 := dec_back (z := Z1) (s := 8) z_bd z_ev
  rw [show (8 : Int).toNat = 8 from rfl, z_dat, ← cv_yes z_ok, z_cv] at h h2
  exact ⟨h.1, h2⟩
theorem y_back : dv H2 D2 4 = true ∧ dec H2 D2 4 = YY (-5) := by
  have h := back (z := YY (-5)) (s := 4) (y_bd _ (by unfold bk.I64; decide)) y_ev
  have h2 := dec_back (z := YY (-5)) (s := 4) (y_bd _ (by unfold bk.I64; decide)) y_ev
  rw [show (4 : Int).toNat = 4 from rfl, y_dat, ← cv_yes y_ok, y_cv] at h h2
  exact ⟨h.1, h2⟩
theorem d1_bys : Bys D1 := by unfold Bys D1; decide
theorem d2_bys : Bys D2 := by unfold Bys D2; decide
/-! rows that were just laid -/
abbrev rZ : Array Value := #[.int .i64 0, .bool false, .string ⟨#[85, 84, 67]⟩]
abbrev rY : Array Value := #[.int .i64 (-18000), .bool false, .string ⟨#[69, 83, 84]⟩, .int .i64 (-14400), .bool true, .string ⟨#[69, 68, 84]⟩]
theorem zr_z {W : World} {g : Nat} (h : W.heap[g]? = some (.cells rZ 41)) : Zr W (some ⟨g, 0, none⟩) none none Z1 :=
  ⟨fun _ => ⟨g, 0, rfl, hp_lt h, fun k hk => by
    have : k = 0 := by simp only [Z1, List.length_singleton] at hk; omega
    subst this
    exact ⟨row_cell h 0, row_cell h 1, row_cell h 2⟩⟩, fun e => absurd rfl e, fun e => absurd rfl e⟩
theorem zr_y {W : World} {g t p : Nat} {x : Int} (h : W.heap[g]? = some (.cells rY 41)) (h2 : W.heap[t]? = some (.cells #[.int .i64 x, .int .i64 1] 43)) (h3 : W.heap[p]? = some (.cells #[.int .i64 7, .int .i64 1] 45)) : Zr W (some ⟨g, 0, none⟩) (some ⟨t, 0, none⟩) (some ⟨p, 0, none⟩) (YY x) :=
  ⟨fun _ => ⟨g, 0, rfl, hp_lt h, fun k hk => by
    have : k = 0 ∨ k = 1 := by simp only [YY, List.length_cons, List.length_nil] at hk; omega
    rcases this with rfl | rfl
    · exact ⟨row_cell h 0, row_cell h 1, row_cell h 2⟩
    · exact ⟨row_cell h 3, row_cell h 4, row_cell h 5⟩⟩,
   fun _ => ⟨t, 0, rfl, hp_lt h2, fun k hk => by
    have : k = 0 := by simp only [YY, List.length_singleton] at hk; omega
    subst this
    exact ⟨row_cell h2 0, row_cell h2 1⟩⟩,
   fun _ => ⟨p, 0, rfl, hp_lt h3, fun k hk => by
    have : k = 0 := by simp only [YY, List.length_singleton] at hk; omega
    subst this
    exact ⟨row_cell h3 0, row_cell h3 1⟩⟩⟩
theorem zr_n (W : World) : Zr W none none none N0 := ⟨fun e => absurd rfl e, fun e => absurd rfl e, fun e => absurd rfl e⟩
/-! what is called -/
theorem se1 (W : World) (g : Nat) (h : W.heap[g]? = some (.cells rZ 41)) : Calls Try.prog 8 #[.agg #[.slice (some ⟨g, 0, none⟩) 1 1, .slice none 0 0, .slice none 0 0, .string ⟨#[]⟩, .int .i64 2], .int .i64 8] W fun e w' => ∃ A c, e = .returned (.tuple #[.slice A 10 c, .bool true]) ∧ Own W.heap.size w' (.slice A 10 c) D1 ∧ Below W.heap.size W w' :=
  (encode_at (some ⟨g, 0, none⟩) 1 none 0 none 0 Z1 8 W (zr_z h) (by decide) z_bd).mono fun e w' ⟨v, h1, h2, h3⟩ => by
    have e1 : enc Z1 8 = D1 := (if_pos z_ev).trans z_dat
    rw [e1] at h2
    rw [z_ev] at h1
    obtain ⟨A, c, rfl⟩ := own_len h2
    exact ⟨A, c, h1, h2, h3⟩
theorem se2 (W : World) (g t p : Nat) (h : W.heap[g]? = some (.cells rY 41)) (h2 : W.heap[t]? = some (.cells #[.int .i64 (-5), .int .i64 1] 43)) (h3 : W.heap[p]? = some (.cells #[.int .i64 7, .int .i64 1] 45)) : Calls Try.prog 8 #[.agg #[.slice (some ⟨g, 0, none⟩) 2 2, .slice (some ⟨t, 0, none⟩) 1 1, .slice (some ⟨p, 0, none⟩) 1 1, .string ⟨#[]⟩, .int .i64 4], .int .i64 4] W fun e w' => ∃ A c, e = .returned (.tuple #[.slice A 33 c, .bool true]) ∧ Own W.heap.size w' (.slice A 33 c) D2 ∧ Below W.heap.size W w' :=
  (encode_at (some ⟨g, 0, none⟩) 2 (some ⟨t, 0, none⟩) 1 (some ⟨p, 0, none⟩) 1 (YY (-5)) 4 W (zr_y h h2 h3) (by decide) (y_bd _ (by unfold bk.I64; decide))).mono fun e w' ⟨v, h1, h2, h3⟩ => by
    have e1 : enc (YY (-5)) 4 = D2 := (if_pos y_ev).trans y_dat
    rw [e1] at h2
    rw [y_ev] at h1
    obtain ⟨A, c, rfl⟩ := own_len h2
    exact ⟨A, c, h1, h2, h3⟩
theorem se3 (W : World) (g t p : Nat) (h : W.heap[g]? = some (.cells rY 41)) (h2 : W.heap[t]? = some (.cells #[.int .i64 2147483648, .int .i64 1] 43)) (h3 : W.heap[p]? = some (.cells #[.int .i64 7, .int .i64 1] 45)) : Calls Try.prog 8 #[.agg #[.slice (some ⟨g, 0, none⟩) 2 2, .slice (some ⟨t, 0, none⟩) 1 1, .slice (some ⟨p, 0, none⟩) 1 1, .string ⟨#[]⟩, .int .i64 4], .int .i64 4] W fun e w' => ∃ A c, e = .returned (.tuple #[.slice A 0 c, .bool false]) ∧ Below W.heap.size W w' :=
  (encode_at (some ⟨g, 0, none⟩) 2 (some ⟨t, 0, none⟩) 1 (some ⟨p, 0, none⟩) 1 (YY 2147483648) 4 W (zr_y h h2 h3) (by decide) (y_bd _ (by unfold bk.I64; decide))).mono fun e w' ⟨v, h1, h2, h3⟩ => by
    have e1 : enc (YY 2147483648) 4 = [] := if_neg (by rw [x_ev]; decide)
    rw [e1] at h2
    rw [x_ev] at h1
    obtain ⟨A, c, rfl⟩ := own_len h2
    exact ⟨A, c, h1, h3⟩
theorem se0 (W : World) : Calls Try.prog 8 #[.agg #[.slice none 0 0, .slice none 0 0, .slice none 0 0, .string ⟨#[]⟩, .int .i64 2], .int .i64 8] W fun e w' => ∃ A c, e = .returned (.tuple #[.slice A 0 c, .bool false]) ∧ Below W.heap.size W w' :=
  (encode_at none 0 none 0 none 0 N0 8 W (zr_n W) (by decide) n_bd).mono fun e w' ⟨v, h1, h2, h3⟩ => by
    have e1 : enc N0 8 = [] := if_neg (by rw [n_ev]; decide)
    rw [e1] at h2
    rw [n_ev] at h1
    obtain ⟨A, c, rfl⟩ := own_len h2
    exact ⟨A, c, h1, h3⟩
theorem sc1 (W : World) (g : Nat) (h : W.heap[g]? = some (.cells rZ 41)) : Calls Try.prog 6 #[.agg #[.slice (some ⟨g, 0, none⟩) 1 1, .slice none 0 0, .slice none 0 0, .string ⟨#[]⟩, .int .i64 2]] W fun e w' => e = .returned (.tuple #[.agg #[.int .i64 2, .int .i64 0, .int .i64 0, .int .i64 0, .int .i64 0, .int .i64 1, .int .i64 4], .bool true]) ∧ Below W.heap.size W w' :=
  (count_at (some ⟨g, 0, none⟩) 1 none 0 none 0 Z1 W (zr_z h).ty (by decide) z_bd).mono fun e w' ⟨h1, h2⟩ => by
    rw [z_cv, z_ok] at h1
    exact ⟨h1, h2⟩
theorem sc2 (W : World) (g t p : Nat) (h : W.heap[g]? = some (.cells rY 41)) (h2 : W.heap[t]? = some (.cells #[.int .i64 (-5), .int .i64 1] 43)) (h3 : W.heap[p]? = some (.cells #[.int .i64 7, .int .i64 1] 45)) : Calls Try.prog 6 #[.agg #[.slice (some ⟨g, 0, none⟩) 2 2, .slice (some ⟨t, 0, none⟩) 1 1, .slice (some ⟨p, 0, none⟩) 1 1, .string ⟨#[]⟩, .int .i64 4]] W fun e w' => e = .returned (.tuple #[.agg #[.int .i64 4, .int .i64 0, .int .i64 0, .int .i64 1, .int .i64 1, .int .i64 2, .int .i64 8], .bool true]) ∧ Below W.heap.size W w' :=
  (count_at (some ⟨g, 0, none⟩) 2 (some ⟨t, 0, none⟩) 1 (some ⟨p, 0, none⟩) 1 (YY (-5)) W (zr_y h h2 h3).ty (by decide) (y_bd _ (by unfold bk.I64; decide))).mono fun e w' ⟨h1, h2⟩ => by
    rw [y_cv, y_ok] at h1
    exact ⟨h1, h2⟩
theorem sd1 (W : World) (v : Value) (h : RdW W v D1) (T : lines.ML W) : Calls Try.prog 10 #[.agg #[.int .i64 2, .int .i64 0, .int .i64 0, .int .i64 0, .int .i64 0, .int .i64 1, .int .i64 4], v, .int .i64 8] W fun e w' => ∃ A a B b C c, e = .returned (.tuple #[.agg #[.slice A 1 a, .slice B 0 b, .slice C 0 c, .string ⟨#[]⟩, .int .i64 2], .bool true]) ∧ (Zr w' A B C Z1 ∧ (∀ g o, A = some ⟨g, o, none⟩ → W.heap.size ≤ g) ∧ (∀ g o, B = some ⟨g, o, none⟩ → W.heap.size ≤ g) ∧ (∀ g o, C = some ⟨g, o, none⟩ → W.heap.size ≤ g)) ∧ Below W.heap.size W w' :=
  (decode_at H1 D1 v 8 W h d1_bys (by decide) T).mono fun e w' ⟨v', h1, h2, h3⟩ => by
    rw [z_back.2] at h2
    rw [z_back.1] at h1
    obtain ⟨A, a, B, b, C, c, rfl, hz, g1, g2, g3⟩ := h2
    exact ⟨A, a, B, b, C, c, h1, ⟨hz, g1, g2, g3⟩, h3⟩
theorem sd2 (W : World) (v : Value) (h : RdW W v D2) (T : lines.ML W) : Calls Try.prog 10 #[.agg #[.int .i64 4, .int .i64 0, .int .i64 0, .int .i64 1, .int .i64 1, .int .i64 2, .int .i64 8], v, .int .i64 4] W fun e w' => ∃ A a B b C c, e = .returned (.tuple #[.agg #[.slice A 2 a, .slice B 1 b, .slice C 1 c, .string ⟨#[]⟩, .int .i64 4], .bool true]) ∧ (Zr w' A B C (YY (-5)) ∧ (∀ g o, A = some ⟨g, o, none⟩ → W.heap.size ≤ g) ∧ (∀ g o, B = some ⟨g, o, none⟩ → W.heap.size ≤ g) ∧ (∀ g o, C = some ⟨g, o, none⟩ → W.heap.size ≤ g)) ∧ Below W.heap.size W w' :=
  (decode_at H2 D2 v 4 W h d2_bys (by decide) T).mono fun e w' ⟨v', h1, h2, h3⟩ => by
    rw [y_back.2] at h2
    rw [y_back.1] at h1
    obtain ⟨A, a, B, b, C, c, rfl, hz, g1, g2, g3⟩ := h2
    exact ⟨A, a, B, b, C, c, h1, ⟨hz, g1, g2, g3⟩, h3⟩
theorem sd3 (W : World) (v : Value) (h : RdW W v (D1 ++ [0])) (T : lines.ML W) : Calls Try.prog 10 #[.agg #[.int .i64 2, .int .i64 0, .int .i64 0, .int .i64 0, .int .i64 0, .int .i64 1, .int .i64 4], v, .int .i64 8] W fun e w' => ∃ A a B b C c, e = .returned (.tuple #[.agg #[.slice A 0 a, .slice B 0 b, .slice C 0 c, .string ⟨#[]⟩, .int .i64 0], .bool false]) ∧ Below W.heap.size W w' :=
  (decode_at H1 (D1 ++ [0]) v 8 W h (d1_bys.app (by unfold Bys; decide)) (by decide) T).mono fun e w' ⟨v', h1, h2, h3⟩ => by
    have e1 : dec H1 (D1 ++ [0]) 8 = zero := if_neg (by rw [a_dv]; decide)
    rw [e1] at h2
    rw [a_dv] at h1
    obtain ⟨A, a, B, b, C, c, rfl, hz, g1, g2, g3⟩ := h2
    exact ⟨A, a, B, b, C, c, h1, h3⟩
end Go.Proofs.Ytllficloadncfaa.blk
