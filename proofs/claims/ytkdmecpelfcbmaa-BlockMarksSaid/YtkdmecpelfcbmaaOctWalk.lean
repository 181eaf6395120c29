/-
  Readers and bytes in worlds that have drawn, and pieces of bytes that came in. Conditions: as said.
-/
import Derived.Test.YtkdmecpelfcbmaaOctLaw
import Derived.Test.YtkdmecpelfcbmaaOctStr
namespace Go.Proofs.Ytkdmecpelfcbmaa.oct
open Go.ChangeShapes Go.WideShapes Go.ChangeAt Go.RowKit
open om mem
set_option linter.unusedVariables false
set_option maxRecDepth 100000

theorem str_drew {W : World} {v : Value} {l : List Nat} (h : RdW W v l) (n : Nat) : (convert 29 9 v).run Try.prog (W.drewN n) = .ok (.string (strN l)) (W.drewN n) := str_of (h.below (bel_drewN (Below.refl _ _) n))
theorem Rdr.drew {T : TypeId} {lo hi : Nat} {W : World} {g : Nat} {l : List Nat} {f : Bool} (h : Rdr T lo hi W g l f) (n : Nat) : Rdr T lo hi (W.drewN n) g l f := h.below (bel_drewN (Below.refl _ _) n)
theorem RdW.head {W : World} {A : Option Addr} {l : List Nat} {c : Nat} (h : RdW W (.slice A l.length c) l) (f : Nat) (hf : f ≤ l.length) : RdW W (.slice A f c) (l.take f) := by
  obtain ⟨A', cap, e, hc, hz, hr⟩ := h
  cases e
  refine ⟨A, c, by rw [List.length_take, Nat.min_eq_left hf], by rw [List.length_take]; omega, hz, fun hne => ?_⟩
  have h0 : l ≠ [] := fun e => by subst e; simp at hne
  obtain ⟨b, o, hA, hcell⟩ := hr h0
  refine ⟨b, o, hA, fun k hk => ?_⟩
  rw [List.length_take] at hk
  rw [List.getElem_take]
  exact hcell k (by omega)
theorem own_len {base : Nat} {W : World} {v : Value} {l : List Nat} (h : Own base W v l) : ∃ A c, v = .slice A l.length c := by
  rcases h.2 with ⟨rfl, hn⟩ | ⟨g, cap, cur, rfl, _⟩
  · exact ⟨none, 0, by rw [hn]⟩
  · exact ⟨_, _, rfl⟩
theorem Rdr.lo_le {T : TypeId} {lo hi : Nat} {W : World} {g : Nat} {l : List Nat} {f : Bool} (h : Rdr T lo hi W g l f) : lo ≤ g := h.1
end Go.Proofs.Ytkdmecpelfcbmaa.oct
