/-
  Plain mathematics: what was read of bytes may be laid, if its names have room. Nothing of any program. Conditions: as said.
-/
import Derived.Test.YtkdmecpelfcbmaaBlkMath
namespace Go.Proofs.Ytkdmecpelfcbmaa.bk
open om lx ab
set_option linter.unusedVariables false
set_option maxRecDepth 100000

theorem fit_rd {l : List Nat} {i n : Nat} (hb : Bys l) (h : i + n ≤ l.length) (hz : Sz n) : fitB (rd (sl l i n)) n = true := fit_iff.2 (rd_fits hz (by rw [sl_len h]) (sl_bys hb i n))
theorem bd_rd {l : List Nat} (hb : Bys l) (i n : Nat) : I64 (rd (sl l i n)) := rd_bd (sl_bys hb i n)
theorem aS_len (l : List UInt8) (a : Int) : (aS l a).length ≤ 16 := by
  unfold aS
  cases h : aT l a with
  | none => simp
  | some x =>
    obtain ⟨_, _, _, _, hr, _⟩ := aT_some h
    exact ((rt_iff x).1 hr).2.1
theorem dvP {h : hd.Hd} {l : List Nat} {s : Int} (k : dv h l s = true) : ∃ n : Nat, s = n ∧ (n = 4 ∨ n = 8) ∧ hd.Ok h ∧ l.length = P5 h n + h.ut.toNat ∧ (l.length : Int) = hd.sz h s := by
  unfold dv at k
  simp only [Bool.and_eq_true] at k
  have k0 := k.1.1.1
  have hs : s = 4 ∨ s = 8 := by
    unfold lenB at k0
    rw [Bool.and_eq_true] at k0
    exact (hd.szb_iff.1 k0.1).2
  obtain ⟨n, rfl⟩ : ∃ n : Nat, s = n := ⟨s.toNat, by omega⟩
  obtain ⟨h1, h2, h3⟩ := len_nat k0
  refine ⟨n, rfl, h2, h1, h3, ?_⟩
  unfold lenB at k0
  rw [Bool.and_eq_true, beq_iff_eq] at k0
  exact k0.2
theorem gZ_bd {h : hd.Hd} {l : List Nat} (s : Nat) (hb : Bys l) (hv : I64 h.v) : Bd (gZ h l s) := by
  refine ⟨fun x hx => ?_, fun x hx => ?_, fun x hx => ?_, hv, fun x hx => ?_⟩
  · obtain ⟨k, _, rfl⟩ := List.mem_map.1 hx
    exact bd_rd hb _ _
  · obtain ⟨k, _, rfl⟩ := List.mem_map.1 hx
    exact ⟨bd_rd hb _ _, bd_rd hb _ _⟩
  · obtain ⟨k, _, rfl⟩ := List.mem_map.1 hx
    exact ⟨bd_rd hb _ _, bd_rd hb _ _⟩
  · obtain ⟨t, ht, rfl⟩ := List.mem_map.1 hx
    obtain ⟨k, _, rfl⟩ := List.mem_map.1 ht
    show (B (aS _ _)).size ≤ _
    rw [B_size]
    have := aS_len (gPo l (P2 h s) h.ch.toNat) (gPl l (P1 h s) k)
    omega
theorem gZ_len (h : hd.Hd) (l : List Nat) (s : Nat) : (gZ h l s).ty.length = h.ty.toNat ∧ (gZ h l s).tr.length = h.tm.toNat ∧ (gZ h l s).lp.length = h.lp.toNat := by
  unfold gZ gTy gTr gLp
  simp
theorem gZ_fits {h : hd.Hd} {l : List Nat} {s : Nat} (hs : s = 4 ∨ s = 8) (hb : Bys l) (ho : hd.Ok h) (hl : l.length = P5 h s + h.ut.toNat) (hok : okC (gZ h l s) = true) : fits (gZ h l s) s = true := by
  have hq := ((ab.ok_iff _).1 (okC_names hok)).2
  have hz : Sz (s : Int) := by unfold Sz; omega
  have hle : ∀ k, k < h.tm.toNat → s * k + s ≤ s * h.tm.toNat := fun k hk => by have := Nat.mul_le_mul_left s (show k + 1 ≤ h.tm.toNat from hk); rw [Nat.mul_succ] at this; exact this
  have hle4 : ∀ k, k < h.lp.toNat → (s + 4) * k + (s + 4) ≤ (s + 4) * h.lp.toNat := fun k hk => by have := Nat.mul_le_mul_left (s + 4) (show k + 1 ≤ h.lp.toNat from hk); rw [Nat.mul_succ] at this; exact this
  unfold P5 P4 P3 P2 P1 at hl
  unfold fits
  simp only [Bool.and_eq_true, List.all_eq_true]
  refine ⟨⟨⟨fun x hx => ?_, fun x hx => ?_⟩, fun x hx => ?_⟩, fun x hx => ?_⟩
  · obtain ⟨k, hk, rfl⟩ := List.mem_map.1 hx
    have := hle k (List.mem_range.1 hk)
    exact fit_rd hb (by omega) hz
  · obtain ⟨k, hk, rfl⟩ := List.mem_map.1 hx
    have := List.mem_range.1 hk
    exact fit_rd (n := 1) hb (by omega) (Or.inl rfl)
  · have hpl := plc_lt hx
    obtain ⟨k, hk, e⟩ := List.mem_map.1 hx
    have hk' := List.mem_range.1 hk
    unfold fT
    rw [Bool.and_eq_true, Bool.and_eq_true]
    refine ⟨⟨?_, ?_⟩, ?_⟩
    · rw [← e]
      exact fit_rd (n := 4) hb (by unfold P1; omega) (Or.inr (Or.inl rfl))
    · refine fit_iff.2 (Or.inr (Or.inr ⟨rfl, ?_⟩))
      unfold b01
      split <;> omega
    · exact fit_iff.2 (Or.inr (Or.inr ⟨rfl, by omega⟩))
  · obtain ⟨k, hk, rfl⟩ := List.mem_map.1 hx
    have := hle4 k (List.mem_range.1 hk)
    unfold fL
    rw [Bool.and_eq_true]
    exact ⟨fit_rd hb (by unfold P3 P2 P1; omega) hz, fit_rd (n := 4) hb (by unfold P3 P2 P1; omega) (Or.inr (Or.inl rfl))⟩
/-- what is read may be laid just where it has a head. -/
theorem gZ_ev {h : hd.Hd} {l : List Nat} {s : Int} (hb : Bys l) (k : dv h l s = true) : ev (gZ h l s.toNat) s = okC (gZ h l s.toNat) := by
  obtain ⟨n, rfl, hn, ho, hl, _⟩ := dvP k
  rw [Int.toNat_natCast]
  rcases hk : okC (gZ h l n) with _ | _
  · unfold ev; rw [hk]; rfl
  · unfold ev sz48
    rw [hk, Int.toNat_natCast, gZ_fits hn hb ho hl hk]
    rcases hn with rfl | rfl <;> rfl
end Go.Proofs.Ytkdmecpelfcbmaa.bk
