/-
  Heads compared; and the small case that each statement of layer 15 begins with comes out true. No condition.
-/
import Derived.Test.YtkdmecpelfcbmaaHeadDec
import Derived.Test.YtkdmecpelfcbmaaOctApp
namespace Go.Proofs.Ytkdmecpelfcbmaa.head
open Go.ChangeShapes Go.WideShapes Go.ChangeAt Go.RowKit
open om mem oct hd
set_option linter.unusedVariables false
set_option maxRecDepth 100000

/-- are two heads the same? -/
def hdB (a b : Hd) : Bool := a.v == b.v && (a.ut == b.ut && (a.sd == b.sd && (a.lp == b.lp && (a.tm == b.tm && (a.ty == b.ty && a.ch == b.ch)))))
theorem hdb_iff {a b : Hd} : hdB a b = true ↔ a = b := by
  unfold hdB
  simp only [Bool.and_eq_true, beq_iff_eq]
  constructor
  · rintro ⟨h1, h2, h3, h4, h5, h6, h7⟩
    exact Hd.ext7 h1 h2 h3 h4 h5 h6 h7
  · rintro rfl
    exact ⟨rfl, rfl, rfl, rfl, rfl, rfl, rfl⟩
theorem hdb_self (a : Hd) : hdB a a = true := hdb_iff.2 rfl
set_option maxHeartbeats 4000000 in
theorem eqH (a b : Hd) (W : World) : (Op.equalIn 10000 28 (.agg #[.int .i64 a.v, .int .i64 a.ut, .int .i64 a.sd, .int .i64 a.lp, .int .i64 a.tm, .int .i64 a.ty, .int .i64 a.ch]) (.agg #[.int .i64 b.v, .int .i64 b.ut, .int .i64 b.sd, .int .i64 b.lp, .int .i64 b.tm, .int .i64 b.ty, .int .i64 b.ch])).run Try.prog W = .ok (hdB a b) W := by
  obtain ⟨a0, a1, a2, a3, a4, a5, a6⟩ := a
  obtain ⟨b0, b1, b2, b3, b4, b5, b6⟩ := b
  unfold hdB
  simp only
  rw [run_equalIn_struct W 9999 28 _ _ (by kernel_rfl) (by kernel_rfl)]
  have hf : Try.prog.fieldsOf 28 = (match Try.prog.underlying 28 with | some (.struct fs) => fs | _ => #[]) := by kernel_rfl
  rw [Try.underlying28] at hf
  simp only at hf
  rw [hf]
  have p0 : ∀ x0 x1 x2 x3 x4 x5 x6 : Int, (part 3 #[.int .i64 x0, .int .i64 x1, .int .i64 x2, .int .i64 x3, .int .i64 x4, .int .i64 x5, .int .i64 x6] 0).run Try.prog W = .ok (.int .i64 x0) W := fun x0 x1 x2 x3 x4 x5 x6 => by simp [part, isAgg, run_underlying Try.underlying3]
  have p1 : ∀ x0 x1 x2 x3 x4 x5 x6 : Int, (part 3 #[.int .i64 x0, .int .i64 x1, .int .i64 x2, .int .i64 x3, .int .i64 x4, .int .i64 x5, .int .i64 x6] 1).run Try.prog W = .ok (.int .i64 x1) W := fun x0 x1 x2 x3 x4 x5 x6 => by simp [part, isAgg, run_underlying Try.underlying3]
  have p2 : ∀ x0 x1 x2 x3 x4 x5 x6 : Int, (part 3 #[.int .i64 x0, .int .i64 x1, .int .i64 x2, .int .i64 x3, .int .i64 x4, .int .i64 x5, .int .i64 x6] 2).run Try.prog W = .ok (.int .i64 x2) W := fun x0 x1 x2 x3 x4 x5 x6 => by simp [part, isAgg, run_underlying Try.underlying3]
  have p3 : ∀ x0 x1 x2 x3 x4 x5 x6 : Int, (part 3 #[.int .i64 x0, .int .i64 x1, .int .i64 x2, .int .i64 x3, .int .i64 x4, .int .i64 x5, .int .i64 x6] 3).run Try.prog W = .ok (.int .i64 x3) W := fun x0 x1 x2 x3 x4 x5 x6 => by simp [part, isAgg, run_underlying Try.underlying3]
  have p4 : ∀ x0 x1 x2 x3 x4 x5 x6 : Int, (part 3 #[.int .i64 x0, .int .i64 x1, .int .i64 x2, .int .i64 x3, .int .i64 x4, .int .i64 x5, .int .i64 x6] 4).run Try.prog W = .ok (.int .i64 x4) W := fun x0 x1 x2 x3 x4 x5 x6 => by simp [part, isAgg, run_underlying Try.underlying3]
  have p5 : ∀ x0 x1 x2 x3 x4 x5 x6 : Int, (part 3 #[.int .i64 x0, .int .i64 x1, .int .i64 x2, .int .i64 x3, .int .i64 x4, .int .i64 x5, .int .i64 x6] 5).run Try.prog W = .ok (.int .i64 x5) W := fun x0 x1 x2 x3 x4 x5 x6 => by simp [part, isAgg, run_underlying Try.underlying3]
  have p6 : ∀ x0 x1 x2 x3 x4 x5 x6 : Int, (part 3 #[.int .i64 x0, .int .i64 x1, .int .i64 x2, .int .i64 x3, .int .i64 x4, .int .i64 x5, .int .i64 x6] 6).run Try.prog W = .ok (.int .i64 x6) W := fun x0 x1 x2 x3 x4 x5 x6 => by simp [part, isAgg, run_underlying Try.underlying3]
  have e3 : ∀ x y : Int, (Op.equalIn 9999 3 (.int .i64 x) (.int .i64 y)).run Try.prog W = .ok (x == y) W := fun x y => run_equalIn_int W 9998 3 .i64 .i64 x y Try.underlying3
  by_cases h0 : a0 = b0
  rotate_left
  · simp [Op.eqFields, Sem.run_bind, p0, e3, h0]
  by_cases h1 : a1 = b1
  rotate_left
  · simp [Op.eqFields, Sem.run_bind, p0, p1, e3, h0, h1]
  by_cases h2 : a2 = b2
  rotate_left
  · simp [Op.eqFields, Sem.run_bind, p0, p1, p2, e3, h0, h1, h2]
  by_cases h3 : a3 = b3
  rotate_left
  · simp [Op.eqFields, Sem.run_bind, p0, p1, p2, p3, e3, h0, h1, h2, h3]
  by_cases h4 : a4 = b4
  rotate_left
  · simp [Op.eqFields, Sem.run_bind, p0, p1, p2, p3, p4, e3, h0, h1, h2, h3, h4]
  by_cases h5 : a5 = b5
  rotate_left
  · simp [Op.eqFields, Sem.run_bind, p0, p1, p2, p3, p4, p5, e3, h0, h1, h2, h3, h4, h5]
  by_cases h6 : a6 = b6
  · simp [Op.eqFields, Sem.run_bind, p0, p1, p2, p3, p4, p5, p6, e3, h0, h1, h2, h3, h4, h5, h6]
  · simp [Op.eqFields, Sem.run_bind, p0, p1, p2, p3, p4, p5, p6, e3, h0, h1, h2, h3, h4, h5, h6]
def H1 : Hd := ⟨2, 0, 1, 0, 3, 1, 4⟩
def H2 : Hd := ⟨5, 0, 0, 0, 0, 1, 4⟩
def H3 : Hd := ⟨1, 0, 0, 0, 0, 1, 4⟩
theorem byts1 : byts H1 = [84, 90, 105, 102, 50, 0, 0, 0, 0, 0, 0, 0, 0, 0, 0, 0, 0, 0, 0, 0, 0, 0, 0, 0, 0, 0, 0, 1, 0, 0, 0, 0, 0, 0, 0, 3, 0, 0, 0, 1, 0, 0, 0, 4] := by decide +kernel
theorem ok1 : hd.okB H1 = true := by decide +kernel
theorem ok2 : hd.okB H2 = false := by decide +kernel
theorem ok3 : hd.okB H3 = true := by decide +kernel
def L1 : List Nat := [84, 90, 105, 102, 50, 0, 0, 0, 0, 0, 0, 0, 0, 0, 0, 0, 0, 0, 0, 0, 0, 0, 0, 0, 0, 0, 0, 1, 0, 0, 0, 0, 0, 0, 0, 3, 0, 0, 0, 1, 0, 0, 0, 4]
def L3 : List Nat := [84, 90, 105, 102, 0, 0, 0, 0, 0, 0, 0, 0, 0, 0, 0, 0, 0, 0, 0, 0, 0, 0, 0, 0, 0, 0, 0, 0, 0, 0, 0, 0, 0, 0, 0, 0, 0, 0, 0, 1, 0, 0, 0, 4]
theorem byts1' : byts H1 = L1 := by decide +kernel
theorem byts3' : byts H3 = L3 := by decide +kernel
theorem bys1 : Bys L1 := bys_lit (by decide +kernel)
theorem own44 {base : Nat} {W : World} {v : Value} {l : List Nat} (h : Own base W v l) (hl : l.length = 44) : ∃ g c, v = .slice (some ⟨g, 0, none⟩) 44 c ∧ 44 ≤ c := by
  rcases h.2 with ⟨rfl, hn⟩ | ⟨g, cap, cur, rfl, hb, hh, hnc, _⟩
  · omega
  · exact ⟨g, cap, by rw [hl], by omega⟩
theorem old_cells {W : World} {g c : Nat} {l : List Nat} (h : Old W (.slice (some ⟨g, 0, none⟩) 44 c) l) (hl : l.length = 44) (k : Nat) (hk : k < 44) : W.cell? ⟨g, k, none⟩ = some (.int .u8 (l[k]'(by omega) : Nat)) := by
  rcases h with ⟨e, _⟩ | ⟨b, o, cap, e, hc, hp, hr⟩
  · cases e
  · injection e with e1 e2 e3
    injection e1 with e1
    injection e1 with e1 e4
    subst e1 e4
    have := hr k (by omega)
    rw [Nat.zero_add] at this
    exact this
theorem old_rd44 {W : World} {g c : Nat} {l : List Nat} (h : Old W (.slice (some ⟨g, 0, none⟩) 44 c) l) (hl : l.length = 44) (f : Nat) (hf : f ≤ 44) : RdW W (.slice (some ⟨g, 0, none⟩) f c) (l.take f) := by
  refine RdW.head (l := l) ?_ f (by omega)
  rw [hl]
  exact h.rd
theorem str6 : strN (L1.take 6) = ⟨#[84, 90, 105, 102, 50, 0]⟩ := by decide +kernel
end Go.Proofs.Ytkdmecpelfcbmaa.head
