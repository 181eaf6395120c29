/-
  Encode and Decode as the statements of layer 16 use them. Conditions: the zone is read; the slice reads as bytes; MaxLen holds a number.
-/
import Derived.Test.YtkdmecpelfcbmaaBlkEncode
import Derived.Test.YtkdmecpelfcbmaaBlkDecode
import Derived.Test.YtkdmecpelfcbmaaBlkSame
import Derived.Test.YtkdmecpelfcbmaaBlkLaw
namespace Go.Proofs.Ytkdmecpelfcbmaa.blk
open Go.ChangeShapes Go.WideShapes Go.ChangeAt Go.RowKit
open om mem oct bk
set_option linter.unusedVariables false
set_option maxRecDepth 100000

theorem enc_use (A : Option Addr) (a : Nat) (B : Option Addr) (b : Nat) (C : Option Addr) (c : Nat) (z : Zn) (s : Int) (w : World) (h : Zr w A B C z) (hn : z.ty.length ≤ 1000) (bd : Bd z) : Calls Try.prog 12 #[(.agg #[.slice A z.ty.length a, .slice B z.tr.length b, .slice C z.lp.length c, .string z.ft, .int .i64 z.v]), .int .i64 s] w fun e w' => ∃ A1 c1, e = .returned (.tuple #[.slice A1 (enc z s).length c1, .bool (ev z s)]) ∧ Own w.heap.size w' (.slice A1 (enc z s).length c1) (enc z s) ∧ Below w.heap.size w w' :=
  (encode_at A a B b C c z s w h hn bd).mono fun e w' ⟨v, h1, h2, h3⟩ => by
    obtain ⟨A1, c1, rfl⟩ := own_len h2
    exact ⟨A1, c1, h1, h2, h3⟩
/-- what is known of the rows of a zone that was read. -/
def Nw (M : Nat) (W : World) (A B C : Option Addr) (z : Zn) : Prop := Zr W A B C z ∧ (∀ g o, A = some ⟨g, o, none⟩ → M ≤ g) ∧ (∀ g o, B = some ⟨g, o, none⟩ → M ≤ g) ∧ (∀ g o, C = some ⟨g, o, none⟩ → M ≤ g)
theorem dec_use {X : hd.Hd} {l : List Nat} {s : Int} {z : Zn} {r : Bool} (hd' : dv X l s = r) (hz : dec X l s = z) (v : Value) (w : World) (h : RdW w v l) (hb : Bys l) (hn : l.length ≤ 9223372036854775807) (T : lines.ML w) : Calls Try.prog 14 #[(.agg #[.int .i64 X.v, .int .i64 X.ut, .int .i64 X.sd, .int .i64 X.lp, .int .i64 X.tm, .int .i64 X.ty, .int .i64 X.ch]), v, .int .i64 s] w fun e w' => ∃ A a B b C c, e = .returned (.tuple #[(.agg #[.slice A z.ty.length a, .slice B z.tr.length b, .slice C z.lp.length c, .string z.ft, .int .i64 z.v]), .bool r]) ∧ Nw w.heap.size w' A B C z ∧ Below w.heap.size w w' :=
  (decode_at X l v s w h hb hn T).mono fun e w' ⟨v', h1, h2, h3⟩ => by
    rw [hz] at h2
    rw [hd'] at h1
    obtain ⟨A, a, B, b, C, c, rfl, hq, g1, g2, g3⟩ := h2
    exact ⟨A, a, B, b, C, c, h1, ⟨hq, g1, g2, g3⟩, h3⟩
theorem count_use (A : Option Addr) (a : Nat) (B : Option Addr) (b : Nat) (C : Option Addr) (c : Nat) (z : Zn) (w : World) (h : Tys w A z.ty) (hn : z.ty.length ≤ 1000) (bd : Bd z) : Calls Try.prog 10 #[(.agg #[.slice A z.ty.length a, .slice B z.tr.length b, .slice C z.lp.length c, .string z.ft, .int .i64 z.v])] w fun e w' => e = .returned (.tuple #[(.agg #[.int .i64 (cv z).v, .int .i64 (cv z).ut, .int .i64 (cv z).sd, .int .i64 (cv z).lp, .int .i64 (cv z).tm, .int .i64 (cv z).ty, .int .i64 (cv z).ch]), .bool (okC z)]) ∧ Below w.heap.size w w' := count_at A a B b C c z w h hn bd
theorem enc_yes {z : Zn} {s : Int} (h : ev z s = true) : enc z s = dat z s.toNat := if_pos h
theorem enc_no {z : Zn} {s : Int} (h : ev z s = false) : enc z s = [] := if_neg (by rw [h]; decide)
theorem enc_len {z : Zn} {s : Int} (b : Bd z) (h : ev z s = true) : (enc z s).length < 100000 ∧ ((enc z s).length : Int) = hd.sz (cv z) s := by
  have h1 := ev_iff h
  have h2 := (back b h).2.2
  rw [← cv_yes h1.1] at h2
  rw [enc_yes h]
  obtain ⟨n, e, _, h3⟩ := sz_bd (X := cv z) (s := s) (by rw [cv_yes h1.1]; exact h1.1) h1.2.1
  omega
theorem enc_bys {z : Zn} {s : Int} (h : ev z s = true) : Bys (enc z s) := by rw [enc_yes h]; exact dat_bys _ _
theorem enc_dv {z : Zn} {s : Int} (b : Bd z) (h : ev z s = true) : dv (cv z) (enc z s) s = true ∧ dec (cv z) (enc z s) s = noFt z := by
  rw [enc_yes h, cv_yes (ev_iff h).1]
  exact ⟨(back b h).1, dec_back b h⟩
/-- what may be laid by four may be by eight. -/
theorem ev_48 {z : Zn} (h : ev z 4 = true) : ev z 8 = true := by
  obtain ⟨h1, _, h3⟩ := ev_iff h
  obtain ⟨g1, g2, g3, g4⟩ := fitsP h3
  unfold ev sz48 fits
  rw [h1]
  simp only [Bool.true_and, Bool.and_eq_true, List.all_eq_true, Bool.or_eq_true, beq_iff_eq]
  rw [show (4 : Int).toNat = 4 from rfl] at g1 g4
  rw [show (8 : Int).toNat = 8 from rfl]
  refine ⟨by simp, ⟨⟨?_, g2⟩, g3⟩, ?_⟩
  · intro x _
    exact fit_iff.2 (Or.inl rfl)
  · intro x hx
    have := fL_iff (g4 x hx)
    unfold fL
    rw [Bool.and_eq_true]
    exact ⟨fit_iff.2 (Or.inl rfl), this.2⟩
/-- a head's box, whatever memory came behind. -/
theorem hbox (X : hd.Hd) (w W : World) (hb : Below (w.alloc (.cells #[.int .i64 X.v, .int .i64 X.ut, .int .i64 X.sd, .int .i64 X.lp, .int .i64 X.tm, .int .i64 X.ty, .int .i64 X.ch] 28)).heap.size (w.alloc (.cells #[.int .i64 X.v, .int .i64 X.ut, .int .i64 X.sd, .int .i64 X.lp, .int .i64 X.tm, .int .i64 X.ty, .int .i64 X.ch] 28)) W) : W.cell? ⟨w.heap.size, 0, none⟩ = some (.int .i64 X.v) ∧ W.cell? ⟨w.heap.size, 1, none⟩ = some (.int .i64 X.ut) ∧ W.cell? ⟨w.heap.size, 2, none⟩ = some (.int .i64 X.sd) ∧ W.cell? ⟨w.heap.size, 3, none⟩ = some (.int .i64 X.lp) ∧ W.cell? ⟨w.heap.size, 4, none⟩ = some (.int .i64 X.tm) ∧ W.cell? ⟨w.heap.size, 5, none⟩ = some (.int .i64 X.ty) ∧ W.cell? ⟨w.heap.size, 6, none⟩ = some (.int .i64 X.ch) ∧ w.heap.size < W.heap.size := by
  obtain ⟨x0, x1, x2, x3, x4, x5, x6, _, h⟩ := (head.box_tells X w).out W hb
  exact ⟨x0, x1, x2, x3, x4, x5, x6, h⟩
/-- a zone's box, likewise. -/
theorem zbx (A : Option Addr) (a : Nat) (B : Option Addr) (b : Nat) (C : Option Addr) (c : Nat) (z : Zn) (w W : World) (hb : Below (w.alloc (.cells #[.slice A z.ty.length a, .slice B z.tr.length b, .slice C z.lp.length c, .string z.ft, .int .i64 z.v] 26)).heap.size (w.alloc (.cells #[.slice A z.ty.length a, .slice B z.tr.length b, .slice C z.lp.length c, .string z.ft, .int .i64 z.v] 26)) W) : W.cell? ⟨w.heap.size, 0, none⟩ = some (.slice A z.ty.length a) ∧ W.cell? ⟨w.heap.size, 1, none⟩ = some (.slice B z.tr.length b) ∧ W.cell? ⟨w.heap.size, 2, none⟩ = some (.slice C z.lp.length c) ∧ W.cell? ⟨w.heap.size, 3, none⟩ = some (.string z.ft) ∧ W.cell? ⟨w.heap.size, 4, none⟩ = some (.int .i64 z.v) ∧ w.heap.size < W.heap.size := by
  obtain ⟨x0, x1, x2, x3, x4, _, h⟩ := (zbox A a B b C c z w).out W hb
  exact ⟨x0, x1, x2, x3, x4, h⟩
end Go.Proofs.Ytkdmecpelfcbmaa.blk
