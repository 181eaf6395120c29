/-
  Sums of numbers that are all from 0 on, or none above it: too much just if the whole is. And slices of numbers: opened out of an argument, cut, kept.
-/
import Derived.Test.YtjhbbaadmdmhaaaSum
import Derived.Laws.OwnMore
import Derived.ChangeSlices
namespace Go.Proofs.Ytjhbbaadmdmhaaa.num
open Go.ChangeShapes Go.WideShapes Go.ChangeAt Go.RowKit
set_option linter.unusedVariables false

def total : List Int → Int
  | [] => 0
  | x :: r => x + total r
theorem total_nonneg : ∀ l : List Int, (∀ z ∈ l, 0 ≤ z) → 0 ≤ total l
  | [], _ => Int.le_refl _
  | x :: r, h => by
    have h1 := h x (by simp)
    have h2 := total_nonneg r (fun z hz => h z (by simp [hz]))
    show 0 ≤ x + total r
    omega
theorem total_nonpos : ∀ l : List Int, (∀ z ∈ l, z ≤ 0) → total l ≤ 0
  | [], _ => Int.le_refl _
  | x :: r, h => by
    have h1 := h x (by simp)
    have h2 := total_nonpos r (fun z hz => h z (by simp [hz]))
    show x + total r ≤ 0
    omega
theorem total_append : ∀ l r : List Int, total (l ++ r) = total l + total r
  | [], r => by simp [total]
  | x :: l, r => by
    have := total_append l r
    show x + total (l ++ r) = x + total l + total r
    omega
theorem total_replicate (a : Int) : ∀ n : Nat, total (List.replicate n a) = a * n
  | 0 => by simp [total]
  | n + 1 => by
    have := total_replicate a n
    rw [List.replicate_succ]
    show a + total (List.replicate n a) = a * ((n + 1 : Nat) : Int)
    rw [this, Int.natCast_add, Int.mul_add]
    omega
theorem sums_same : ∀ (l : List Int) (T : Int), fit T → ((∀ z ∈ l, 0 ≤ z) ∨ (∀ z ∈ l, z ≤ 0)) → sums T l = if fit (T + total l) then (T + total l, true) else (0, false)
  | [], T, hT, _ => by
    have e : T + total [] = T := by show T + 0 = T; omega
    rw [e, if_pos hT]; rfl
  | x :: r, T, hT, h => by
    have e : T + total (x :: r) = T + x + total r := by show T + (x + total r) = _; omega
    rw [e, sums]
    have hr : (∀ z ∈ r, 0 ≤ z) ∨ (∀ z ∈ r, z ≤ 0) := h.imp (fun h z hz => h z (by simp [hz])) (fun h z hz => h z (by simp [hz]))
    by_cases hx : fit (T + x)
    · rw [if_pos hx]; exact sums_same r (T + x) hx hr
    · rw [if_neg hx, if_neg ?_]
      intro hf
      apply hx
      unfold fit at *
      rcases h with h | h
      · have h1 := h x (by simp)
        have h2 := total_nonneg r (fun z hz => h z (by simp [hz]))
        omega
      · have h1 := h x (by simp)
        have h2 := total_nonpos r (fun z hz => h z (by simp [hz]))
        omega

theorem block_lt {w : World} {a : Addr} {v : Value} (h : w.cell? a = some v) : a.block < w.heap.size := by
  rcases Nat.lt_or_ge a.block w.heap.size with h' | h'
  · exact h'
  · simp [World.cell?, Array.getElem?_eq_none h'] at h
theorem IntsAt.keep {w w' : World} {A : Option Addr} {n : Nat} {zs : List Int} (h : IntsAt w A n zs) (hk : ∀ p : Addr, p.block < w.heap.size → w'.cell? p = w.cell? p) : IntsAt w' A n zs :=
  ⟨h.len, h.max, fun hn => by
    obtain ⟨b, off, e, hc⟩ := h.cells hn
    exact ⟨b, off, e, fun j hj => (hk _ (block_lt (hc j hj))).trans (hc j hj)⟩, h.fits⟩
theorem IntsAt.below {w w' : World} {A : Option Addr} {n : Nat} {zs : List Int} (h : IntsAt w A n zs) (hb : Below w.heap.size w w') : IntsAt w' A n zs := h.keep fun _ hp => hb.cell hp
theorem IntsAt.drewN {w : World} {A : Option Addr} {n : Nat} {zs : List Int} (h : IntsAt w A n zs) (k : Nat) : IntsAt (w.drewN k) A n zs := h.keep fun _ _ => rfl
theorem IntsAt.take {w : World} {A : Option Addr} {n : Nat} {zs : List Int} (h : IntsAt w A n zs) {k : Nat} (hk : k ≤ n) : IntsAt w A k (zs.take k) := by
  refine ⟨by rw [List.length_take, h.len]; omega, by have := h.max; omega, fun hn => ?_, fun z hz => h.fits z (List.mem_of_mem_take hz)⟩
  obtain ⟨b, off, e, hc⟩ := h.cells (by omega)
  refine ⟨b, off, e, fun j hj => ?_⟩
  rw [hc j (by omega)]
  simp [List.getD, hj]
theorem IntsAt.drop {w : World} {A : Option Addr} {n : Nat} {zs : List Int} (h : IntsAt w A n zs) {k c : Nat} (hk : k ≤ n) (hc : n ≤ c) : IntsAt w (if c = k then A else A.map (·.add k)) (n - k) (zs.drop k) := by
  refine ⟨by rw [List.length_drop, h.len], by have := h.max; omega, fun hn => ?_, fun z hz => h.fits z (List.mem_of_mem_drop hz)⟩
  obtain ⟨b, off, rfl, hcell⟩ := h.cells (by omega)
  rw [if_neg (by omega)]
  refine ⟨b, off + k, by simp only [Option.map]; rw [add_plain], fun j hj => ?_⟩
  rw [Nat.add_assoc, hcell (k + j) (by omega)]
  simp [List.getD, List.getElem?_drop]
theorem IntsAt.of_own {w : World} {base : Nat} {v : Value} {n : Nat} {zs : List Int} (h : w.ownsRow base 3 1 v n (zs.map (Value.int .i64))) (hf : ∀ z ∈ zs, fit z) : ∃ A c, v = .slice A n c ∧ IntsAt w A n zs := by
  have hl : zs.length = n := by have := h.1; simpa using this
  rcases h.2 with ⟨rfl, rfl⟩ | ⟨g, cap, cur, rfl, hb, hg, hn, hm, hs, ht⟩
  · exact ⟨none, 0, rfl, hl, by omega, fun h => by omega, hf⟩
  · refine ⟨_, cap, rfl, hl, by unfold maxLen at hm; omega, fun hp => ⟨g, 0, rfl, fun j hj => ?_⟩, hf⟩
    have h1 : w.cell? ⟨g, 0 + j, none⟩ = cur[0 + j]? := by simp [World.cell?, hg]
    rw [h1, Nat.zero_add]
    have h2 : (cur.toList.take (n * 1))[j]? = (zs.map (Value.int .i64))[j]? := by rw [ht]
    rw [List.getElem?_take, if_pos (by omega)] at h2
    rw [← Array.getElem?_toList, h2]
    simp [List.getD, show j < zs.length by omega]

theorem cells_int : Try.prog.cellsOf 3 = 1 := by kernel_rfl
theorem open_ints {H : Type} {enc : TypeId × Value → H} {W : World} {base : Nat} {v : Value} {d : DataW H} {p : List MemPlace} (hv : Value.okWide Try.prog W .any base 22 v) (h : DataW.Trod enc Try.prog W 0 (fun _ => true) true 22 v d p) :
    ∃ A n c zs, v = .slice A n c ∧ IntsAt W A n zs ∧ n ≤ c ∧ c ≤ 9223372036854775807 := by
  obtain ⟨a0, len0, cap0, rfl⟩ := okWide_slice Try.underlying22 hv
  obtain ⟨fuel, hf⟩ := h
  rcases ChangeShapes.open_ints (cs := [.slice a0 len0 cap0]) Try.underlying22 Try.underlying3 cells_int hf with ⟨h1, _⟩ | ⟨a, len, cap, zs, h1, _, h3, h4, h5, _, h7, h8⟩
  · simp only [List.cons.injEq, Value.slice.injEq, and_true] at h1
    obtain ⟨rfl, rfl, rfl⟩ := h1
    exact ⟨none, 0, 0, [], rfl, ⟨rfl, by omega, fun h => by omega, by simp⟩, by omega, by omega⟩
  · simp only [List.cons.injEq, Value.slice.injEq, and_true] at h1
    obtain ⟨rfl, rfl, rfl⟩ := h1
    simp only [if_true] at h5
    unfold maxLen at h4
    refine ⟨some a, len0, cap0, zs.take len0, rfl, ⟨by rw [List.length_take]; omega, by omega, fun hp => ?_, fun z hz => bounds_i64 (h8 z (List.mem_of_mem_take hz))⟩, h3, by omega⟩
    obtain ⟨b, off, rfl, hc⟩ := ints_at h7 (by omega)
    refine ⟨b, off, rfl, fun j hj => ?_⟩
    rw [hc j (by omega)]
    simp [List.getD, hj]
end Go.Proofs.Ytjhbbaadmdmhaaa.num
