/-
  The walk of BlockTells, over the small case. No condition beside it.
-/
import Derived.Test.YtllficloadncfaaG17
import Derived.Test.YtllficloadncfaaG18
import Derived.Test.YtllficloadncfaaG21
import Derived.Test.YtllficloadncfaaG24
namespace Go.Proofs.Ytllficloadncfaa.blockTells
open Go.ChangeShapes Go.WideShapes Go.ChangeAt Go.RowKit
open om mem oct bk blk ref16
set_option linter.unusedVariables false
set_option maxRecDepth 100000

theorem dec2_use {X : hd.Hd} {l : List Nat} {s : Int} {z : Zn} {r : Bool} (hd' : dv X l s = r) (hz : dec X l s = z) (v : Value) (w : World) (h : RdW w v l) (hb : Bys l) (hn : l.length ≤ 2000) : Calls Try.prog 11 #[(.agg #[.int .i64 X.v, .int .i64 X.ut, .int .i64 X.sd, .int .i64 X.lp, .int .i64 X.tm, .int .i64 X.ty, .int .i64 X.ch]), v, .int .i64 s] w fun e w' => ∃ A a B b C c, e = .returned (.tuple #[(.agg #[.slice A z.ty.length a, .slice B z.tr.length b, .slice C z.lp.length c, .string z.ft, .int .i64 z.v]), .bool r]) ∧ Nw w.heap.size w' A B C z ∧ Below w.heap.size w w' :=
  (ref16.decode_at X l v s w h hb hn).mono fun e w' ⟨v', h1, h2, h3⟩ => by
    rw [hz] at h2
    rw [hd'] at h1
    obtain ⟨A, a, B, b, C, c, rfl, hq, g1, g2, g3⟩ := h2
    exact ⟨A, a, B, b, C, c, h1, ⟨hq, g1, g2, g3⟩, h3⟩
theorem dec_small (h : hd.Hd) (l : List Nat) (s : Int) : (dec h l s).ty.length ≤ 1000000 ∧ (dec h l s).tr.length ≤ 1000000 ∧ (dec h l s).lp.length ≤ 1000000 := by
  by_cases hd' : dv h l s = true
  · obtain ⟨n, hsn, hn48, ho, hlen, hsz⟩ := dvP hd'
    obtain ⟨g1, g2, g3⟩ := gZ_len h l s.toNat
    obtain ⟨_, _, _, b1, b2, b3, _⟩ := ho
    have hdz : dec h l s = gZ h l s.toNat := if_pos hd'
    rw [hdz]
    omega
  · have hdz : dec h l s = zero := if_neg hd'
    rw [hdz]
    decide
theorem zr_keepg {g M : Nat} {W W' : World} {A B C : Option Addr} {z : Zn} (h : Nw M W A B C z) (hk : Keep g W W') (hg : g < M) : Nw M W' A B C z :=
  ⟨⟨h.1.ty.keep hk.size fun b o p e hlt => World.cell?_of_block (a := ⟨b, p, none⟩) (hk.block b hlt (by have := h.2.1 b o e; omega)), h.1.tr.keep hk.size fun b o p e hlt => World.cell?_of_block (a := ⟨b, p, none⟩) (hk.block b hlt (by have := h.2.2.1 b o e; omega)), h.1.lp.keep hk.size fun b o p e hlt => World.cell?_of_block (a := ⟨b, p, none⟩) (hk.block b hlt (by have := h.2.2.2 b o e; omega))⟩, h.2⟩
/-- at the head of a round that spoils what was handed in. -/
def SHead (base g n c : Nat) (A : Option Addr) (W0 : World) (i : Value) (W : World) : Prop :=
  ∃ (k : Nat) (L : List Nat), k ≤ n ∧ i = .int .i64 (k : Nat) ∧ L.length = n ∧ Own base W (.slice A n c) L ∧ Keep g W0 W
theorem own_cellF {base : Nat} {W : World} {g n cap : Nat} {l : List Nat} (hown : Own base W (.slice (some ⟨g, 0, none⟩) n cap) l) (i : Nat) (hi : i < l.length) : W.cell? ⟨g, i, none⟩ = some (.int .u8 (l[i] : Nat)) ∧ W.frozen? ⟨g, i, none⟩ = false := oct.own_cellF hown i hi
theorem in_block {base n c : Nat} {W : World} {A : Option Addr} {l : List Nat} (h : Own base W (.slice A n c) l) (hb : base < W.heap.size) : ∃ g, base ≤ g ∧ g < W.heap.size ∧ (0 < n → A = some ⟨g, 0, none⟩) := by
  rcases h.2 with ⟨e, hn⟩ | ⟨g, cap, cur, e, hbg, hh, _⟩
  · cases e
    exact ⟨base, Nat.le_refl _, hb, fun h => absurd h (Nat.lt_irrefl 0)⟩
  · cases e
    exact ⟨g, hbg, hp_lt hh, fun _ => rfl⟩
theorem rd_far {base g : Nat} {W W' W'' : World} {v : Value} {l : List Nat} (h : Own base W v l) (hb : Below W.heap.size W W') (hk : Keep g W' W'') (hg : W.heap.size ≤ g) : RdW W'' v l :=
  ((own_by h).imp (Q := fun _ => True) (fun b _ => trivial) fun b o x hp hx => hk.cell (p := ⟨b, o, none⟩) (by show b ≠ g; omega) ((hb.cell (p := ⟨b, o, none⟩) hp.2).trans hx)).rd
theorem s_step {base g n c k : Nat} {W0 W : World} {L : List Nat} (hk : k < n) (hL : L.length = n) (ho : Own base W (.slice (some ⟨g, 0, none⟩) n c) L) (hkp : Keep g W0 W) : SHead base g n c (some ⟨g, 0, none⟩) W0 (.int .i64 ((k : Int) + 1)) (W.setCell ⟨g, k, none⟩ (.int .u8 77)) :=
  ⟨k + 1, L.set k 77, hk, rfl, by rw [List.length_set]; exact hL, own_set ho k (by omega) 77, hkp.setCell k _⟩
theorem head7 {W : World} {g : Nat} {x0 x1 x2 x3 x4 x5 x6 : Int} (h : W.heap[g]? = some (.cells #[.int .i64 x0, .int .i64 x1, .int .i64 x2, .int .i64 x3, .int .i64 x4, .int .i64 x5, .int .i64 x6] 28)) : W.cell? ⟨g, 0, none⟩ = some (.int .i64 x0) ∧ W.cell? ⟨g, 1, none⟩ = some (.int .i64 x1) ∧ W.cell? ⟨g, 2, none⟩ = some (.int .i64 x2) ∧ W.cell? ⟨g, 3, none⟩ = some (.int .i64 x3) ∧ W.cell? ⟨g, 4, none⟩ = some (.int .i64 x4) ∧ W.cell? ⟨g, 5, none⟩ = some (.int .i64 x5) ∧ W.cell? ⟨g, 6, none⟩ = some (.int .i64 x6) :=
  ⟨row_cell h 0, row_cell h 1, row_cell h 2, row_cell h 3, row_cell h 4, row_cell h 5, row_cell h 6⟩
theorem zone5 {W : World} {g : Nat} {x0 x1 x2 x3 x4 : Value} (h : W.heap[g]? = some (.cells #[x0, x1, x2, x3, x4] 26)) : W.cell? ⟨g, 0, none⟩ = some x0 ∧ W.cell? ⟨g, 1, none⟩ = some x1 ∧ W.cell? ⟨g, 2, none⟩ = some x2 ∧ W.cell? ⟨g, 3, none⟩ = some x3 ∧ W.cell? ⟨g, 4, none⟩ = some x4 :=
  ⟨row_cell h 0, row_cell h 1, row_cell h 2, row_cell h 3, row_cell h 4⟩
set_option maxHeartbeats 16000000 in
theorem walk0 (SM0 : ∀ W, lines.ML W → Calls Try.prog 4 #[] W fun e w' => e = .returned (.bool true) ∧ Below W.heap.size W w') (w : World) (A : Option Addr) (a : Nat) (B : Option Addr) (b : Nat) (C : Option Addr) (c : Nat) (z : Zn) (hz : Zr w A B C z) (bd : Bd z) (s : Int) (hs : -9223372036854775808 ≤ s ∧ s ≤ 9223372036854775807) (h : hd.Hd) (hbd : head.Bd h) (l : List Nat) (bv : Value) (hl : RdW w bv l) (hby : Bys l) (hn : l.length ≤ 9223372036854775807) (TM : lines.ML w) : Calls Try.prog 3 #[(.agg #[.slice A z.ty.length a, .slice B z.tr.length b, .slice C z.lp.length c, .string z.ft, .int .i64 z.v]), .int .i64 s, (.agg #[.int .i64 h.v, .int .i64 h.ut, .int .i64 h.sd, .int .i64 h.lp, .int .i64 h.tm, .int .i64 h.ty, .int .i64 h.ch]), bv] w fun e w' => e = .returned (.bool true) ∧ Below w.heap.size w w' := by
  have hw0 : Hid (Below w.heap.size w ((w.alloc (.cells #[.slice A z.ty.length a, .slice B z.tr.length b, .slice C z.lp.length c, .string z.ft, .int .i64 z.v] 26)).alloc (.cells #[.int .i64 h.v, .int .i64 h.ut, .int .i64 h.sd, .int .i64 h.lp, .int .i64 h.tm, .int .i64 h.ty, .int .i64 h.ch] 28))) := Lib.hid (bal (bal (Below.refl w.heap.size w) (.cells #[.slice A z.ty.length a, .slice B z.tr.length b, .slice C z.lp.length c, .string z.ft, .int .i64 z.v] 26)) (.cells #[.int .i64 h.v, .int .i64 h.ut, .int .i64 h.sd, .int .i64 h.lp, .int .i64 h.tm, .int .i64 h.ty, .int .i64 h.ch] 28))
  have SM := Lib.hid (fun W (hb : Below ((w.alloc (.cells #[.slice A z.ty.length a, .slice B z.tr.length b, .slice C z.lp.length c, .string z.ft, .int .i64 z.v] 26)).alloc (.cells #[.int .i64 h.v, .int .i64 h.ut, .int .i64 h.sd, .int .i64 h.lp, .int .i64 h.tm, .int .i64 h.ty, .int .i64 h.ch] 28)).heap.size ((w.alloc (.cells #[.slice A z.ty.length a, .slice B z.tr.length b, .slice C z.lp.length c, .string z.ft, .int .i64 z.v] 26)).alloc (.cells #[.int .i64 h.v, .int .i64 h.ut, .int .i64 h.sd, .int .i64 h.lp, .int .i64 h.tm, .int .i64 h.ty, .int .i64 h.ch] 28)) W) => SM0 W (TM.below (btr hw0.out hb)))
  have FE := Lib.hid (fun W (hb : Below ((w.alloc (.cells #[.slice A z.ty.length a, .slice B z.tr.length b, .slice C z.lp.length c, .string z.ft, .int .i64 z.v] 26)).alloc (.cells #[.int .i64 h.v, .int .i64 h.ut, .int .i64 h.sd, .int .i64 h.lp, .int .i64 h.tm, .int .i64 h.ty, .int .i64 h.ch] 28)).heap.size ((w.alloc (.cells #[.slice A z.ty.length a, .slice B z.tr.length b, .slice C z.lp.length c, .string z.ft, .int .i64 z.v] 26)).alloc (.cells #[.int .i64 h.v, .int .i64 h.ut, .int .i64 h.sd, .int .i64 h.lp, .int .i64 h.tm, .int .i64 h.ty, .int .i64 h.ch] 28)) W) => few_at A a B b C c z W (hz.ty.below (btr hw0.out hb)))
  have T : Hid (∀ W, Below ((w.alloc (.cells #[.slice A z.ty.length a, .slice B z.tr.length b, .slice C z.lp.length c, .string z.ft, .int .i64 z.v] 26)).alloc (.cells #[.int .i64 h.v, .int .i64 h.ut, .int .i64 h.sd, .int .i64 h.lp, .int .i64 h.tm, .int .i64 h.ty, .int .i64 h.ch] 28)).heap.size ((w.alloc (.cells #[.slice A z.ty.length a, .slice B z.tr.length b, .slice C z.lp.length c, .string z.ft, .int .i64 z.v] 26)).alloc (.cells #[.int .i64 h.v, .int .i64 h.ut, .int .i64 h.sd, .int .i64 h.lp, .int .i64 h.tm, .int .i64 h.ty, .int .i64 h.ch] 28)) W → W.cell? ⟨w.heap.size, 0, none⟩ = some (.slice A z.ty.length a) ∧ W.cell? ⟨w.heap.size, 1, none⟩ = some (.slice B z.tr.length b) ∧ W.cell? ⟨w.heap.size, 2, none⟩ = some (.slice C z.lp.length c) ∧ W.cell? ⟨w.heap.size, 3, none⟩ = some (.string z.ft) ∧ W.cell? ⟨w.heap.size, 4, none⟩ = some (.int .i64 z.v)) := Lib.hid fun W hb => zone5 (kept (hp_old (hp_new w (.cells #[.slice A z.ty.length a, .slice B z.tr.length b, .slice C z.lp.length c, .string z.ft, .int .i64 z.v] 26)) (.cells #[.int .i64 h.v, .int .i64 h.ut, .int .i64 h.sd, .int .i64 h.lp, .int .i64 h.tm, .int .i64 h.ty, .int .i64 h.ch] 28)) hb)
  have TH : Hid (∀ W, Below ((w.alloc (.cells #[.slice A z.ty.length a, .slice B z.tr.length b, .slice C z.lp.length c, .string z.ft, .int .i64 z.v] 26)).alloc (.cells #[.int .i64 h.v, .int .i64 h.ut, .int .i64 h.sd, .int .i64 h.lp, .int .i64 h.tm, .int .i64 h.ty, .int .i64 h.ch] 28)).heap.size ((w.alloc (.cells #[.slice A z.ty.length a, .slice B z.tr.length b, .slice C z.lp.length c, .string z.ft, .int .i64 z.v] 26)).alloc (.cells #[.int .i64 h.v, .int .i64 h.ut, .int .i64 h.sd, .int .i64 h.lp, .int .i64 h.tm, .int .i64 h.ty, .int .i64 h.ch] 28)) W → W.cell? ⟨w.heap.size + 1, 0, none⟩ = some (.int .i64 h.v) ∧ W.cell? ⟨w.heap.size + 1, 1, none⟩ = some (.int .i64 h.ut) ∧ W.cell? ⟨w.heap.size + 1, 2, none⟩ = some (.int .i64 h.sd) ∧ W.cell? ⟨w.heap.size + 1, 3, none⟩ = some (.int .i64 h.lp) ∧ W.cell? ⟨w.heap.size + 1, 4, none⟩ = some (.int .i64 h.tm) ∧ W.cell? ⟨w.heap.size + 1, 5, none⟩ = some (.int .i64 h.ty) ∧ W.cell? ⟨w.heap.size + 1, 6, none⟩ = some (.int .i64 h.ch)) := Lib.hid fun W hb => head7 (kept (hp_new1 w (.cells #[.slice A z.ty.length a, .slice B z.tr.length b, .slice C z.lp.length c, .string z.ft, .int .i64 z.v] 26) (.cells #[.int .i64 h.v, .int .i64 h.ut, .int .i64 h.sd, .int .i64 h.lp, .int .i64 h.tm, .int .i64 h.ty, .int .i64 h.ch] 28)) hb)
  have EX : Hid (∀ W, Below ((w.alloc (.cells #[.slice A z.ty.length a, .slice B z.tr.length b, .slice C z.lp.length c, .string z.ft, .int .i64 z.v] 26)).alloc (.cells #[.int .i64 h.v, .int .i64 h.ut, .int .i64 h.sd, .int .i64 h.lp, .int .i64 h.tm, .int .i64 h.ty, .int .i64 h.ch] 28)).heap.size ((w.alloc (.cells #[.slice A z.ty.length a, .slice B z.tr.length b, .slice C z.lp.length c, .string z.ft, .int .i64 z.v] 26)).alloc (.cells #[.int .i64 h.v, .int .i64 h.ut, .int .i64 h.sd, .int .i64 h.lp, .int .i64 h.tm, .int .i64 h.ty, .int .i64 h.ch] 28)) W → Below w.heap.size w W) := Lib.hid fun W hb => btr hw0.out hb
  have hr0 : Below ((w.alloc (.cells #[.slice A z.ty.length a, .slice B z.tr.length b, .slice C z.lp.length c, .string z.ft, .int .i64 z.v] 26)).alloc (.cells #[.int .i64 h.v, .int .i64 h.ut, .int .i64 h.sd, .int .i64 h.lp, .int .i64 h.tm, .int .i64 h.ty, .int .i64 h.ch] 28)).heap.size ((w.alloc (.cells #[.slice A z.ty.length a, .slice B z.tr.length b, .slice C z.lp.length c, .string z.ft, .int .i64 z.v] 26)).alloc (.cells #[.int .i64 h.v, .int .i64 h.ut, .int .i64 h.sd, .int .i64 h.lp, .int .i64 h.tm, .int .i64 h.ty, .int .i64 h.ch] 28)) ((w.alloc (.cells #[.slice A z.ty.length a, .slice B z.tr.length b, .slice C z.lp.length c, .string z.ft, .int .i64 z.v] 26)).alloc (.cells #[.int .i64 h.v, .int .i64 h.ut, .int .i64 h.sd, .int .i64 h.lp, .int .i64 h.tm, .int .i64 h.ty, .int .i64 h.ch] 28)) := Below.refl _ _
  have HR0 := Lib.hid hr0
  obtain ⟨Ab, cb, rfl⟩ := rdw_form hl
  clear hr0 SM0
  by_cases hf : fewB z = true
  · rw [hf] at FE
    by_cases hbig : 2000 < l.length
    · clear hf hl hby hbd hw0 TM hz bd
      obtain ⟨hv, hut, hsd, hlp, htm, hty, hch⟩ := h
      obtain ⟨ty, tr, lp, ft, v⟩ := z
      simp only at *
      generalize l.length = L at *
      go_enter Try.func3, Try.ntmps3
      go_wp2_with (first
        | (go_at_call 4; (with_reducible refine (SM.out _ HR0.out).mono ?_); rintro e w1 ⟨rfl, hb1⟩; have HA1 := Lib.hid hb1; obtain ⟨x0, x1, x2, x3, x4⟩ := T.out _ HA1.out; clear hb1)
        | (go_at_call 5; (with_reducible refine (FE.out _ HA1.out).mono ?_); rintro e w2 ⟨rfl, hb2⟩; have HA2 := Lib.hid (btr HA1.out hb2); clear x0 x1 x2 x3 x4 hb2))
      go_ret
      exact ⟨rfl, EX.out _ HA2.out⟩
    · have hsm : l.length ≤ 2000 := by omega
      obtain ⟨f1, f2, f3⟩ := few_len hf
      have CO1 := Lib.hid (fun W (hb : Below ((w.alloc (.cells #[.slice A z.ty.length a, .slice B z.tr.length b, .slice C z.lp.length c, .string z.ft, .int .i64 z.v] 26)).alloc (.cells #[.int .i64 h.v, .int .i64 h.ut, .int .i64 h.sd, .int .i64 h.lp, .int .i64 h.tm, .int .i64 h.ty, .int .i64 h.ch] 28)).heap.size ((w.alloc (.cells #[.slice A z.ty.length a, .slice B z.tr.length b, .slice C z.lp.length c, .string z.ft, .int .i64 z.v] 26)).alloc (.cells #[.int .i64 h.v, .int .i64 h.ut, .int .i64 h.sd, .int .i64 h.lp, .int .i64 h.tm, .int .i64 h.ty, .int .i64 h.ch] 28)) W) => count_use A a B b C c z W (hz.ty.below (btr hw0.out hb)) (by omega) bd)
      have CO2 : Hid (∀ W, Below ((w.alloc (.cells #[.slice A z.ty.length a, .slice B z.tr.length b, .slice C z.lp.length c, .string z.ft, .int .i64 z.v] 26)).alloc (.cells #[.int .i64 h.v, .int .i64 h.ut, .int .i64 h.sd, .int .i64 h.lp, .int .i64 h.tm, .int .i64 h.ty, .int .i64 h.ch] 28)).heap.size ((w.alloc (.cells #[.slice A z.ty.length a, .slice B z.tr.length b, .slice C z.lp.length c, .string z.ft, .int .i64 z.v] 26)).alloc (.cells #[.int .i64 h.v, .int .i64 h.ut, .int .i64 h.sd, .int .i64 h.lp, .int .i64 h.tm, .int .i64 h.ty, .int .i64 h.ch] 28)) W → Calls Try.prog 7 #[(.agg #[.slice A z.ty.length a, .slice B z.tr.length b, .slice C z.lp.length c, .string z.ft, .int .i64 z.v])] W fun e w' => e = .returned (.tuple #[(.agg #[.int .i64 (cv z).v, .int .i64 (cv z).ut, .int .i64 (cv z).sd, .int .i64 (cv z).lp, .int .i64 (cv z).tm, .int .i64 (cv z).ty, .int .i64 (cv z).ch]), .bool (okC z)]) ∧ Below W.heap.size W w') := Lib.hid (fun W hb => ref16.count_at A a B b C c z W (hz.ty.below (btr hw0.out hb)) (by omega) bd)
      have EN1 := Lib.hid (fun W (hb : Below ((w.alloc (.cells #[.slice A z.ty.length a, .slice B z.tr.length b, .slice C z.lp.length c, .string z.ft, .int .i64 z.v] 26)).alloc (.cells #[.int .i64 h.v, .int .i64 h.ut, .int .i64 h.sd, .int .i64 h.lp, .int .i64 h.tm, .int .i64 h.ty, .int .i64 h.ch] 28)).heap.size ((w.alloc (.cells #[.slice A z.ty.length a, .slice B z.tr.length b, .slice C z.lp.length c, .string z.ft, .int .i64 z.v] 26)).alloc (.cells #[.int .i64 h.v, .int .i64 h.ut, .int .i64 h.sd, .int .i64 h.lp, .int .i64 h.tm, .int .i64 h.ty, .int .i64 h.ch] 28)) W) => enc_use A a B b C c z s W (hz.below (btr hw0.out hb)) (by omega) bd)
      have EN2 : Hid (∀ W, Below ((w.alloc (.cells #[.slice A z.ty.length a, .slice B z.tr.length b, .slice C z.lp.length c, .string z.ft, .int .i64 z.v] 26)).alloc (.cells #[.int .i64 h.v, .int .i64 h.ut, .int .i64 h.sd, .int .i64 h.lp, .int .i64 h.tm, .int .i64 h.ty, .int .i64 h.ch] 28)).heap.size ((w.alloc (.cells #[.slice A z.ty.length a, .slice B z.tr.length b, .slice C z.lp.length c, .string z.ft, .int .i64 z.v] 26)).alloc (.cells #[.int .i64 h.v, .int .i64 h.ut, .int .i64 h.sd, .int .i64 h.lp, .int .i64 h.tm, .int .i64 h.ty, .int .i64 h.ch] 28)) W → Calls Try.prog 9 #[(.agg #[.slice A z.ty.length a, .slice B z.tr.length b, .slice C z.lp.length c, .string z.ft, .int .i64 z.v]), .int .i64 s] W fun e w' => ∃ A1 c1, e = .returned (.tuple #[.slice A1 (enc z s).length c1, .bool (ev z s)]) ∧ Own W.heap.size w' (.slice A1 (enc z s).length c1) (enc z s) ∧ Below W.heap.size W w') := Lib.hid (fun W hb => ref16.encode_at A a B b C c z s W (hz.below (btr hw0.out hb)) (by omega) bd)
      have DE1 := Lib.hid (fun W v (hb : Below ((w.alloc (.cells #[.slice A z.ty.length a, .slice B z.tr.length b, .slice C z.lp.length c, .string z.ft, .int .i64 z.v] 26)).alloc (.cells #[.int .i64 h.v, .int .i64 h.ut, .int .i64 h.sd, .int .i64 h.lp, .int .i64 h.tm, .int .i64 h.ty, .int .i64 h.ch] 28)).heap.size ((w.alloc (.cells #[.slice A z.ty.length a, .slice B z.tr.length b, .slice C z.lp.length c, .string z.ft, .int .i64 z.v] 26)).alloc (.cells #[.int .i64 h.v, .int .i64 h.ut, .int .i64 h.sd, .int .i64 h.lp, .int .i64 h.tm, .int .i64 h.ty, .int .i64 h.ch] 28)) W) (hr : RdW W v l) => dec_use (X := h) (s := s) rfl rfl v W hr hby (by omega) (TM.below (btr hw0.out hb)))
      have DE2 := Lib.hid (fun W (hb : Below ((w.alloc (.cells #[.slice A z.ty.length a, .slice B z.tr.length b, .slice C z.lp.length c, .string z.ft, .int .i64 z.v] 26)).alloc (.cells #[.int .i64 h.v, .int .i64 h.ut, .int .i64 h.sd, .int .i64 h.lp, .int .i64 h.tm, .int .i64 h.ty, .int .i64 h.ch] 28)).heap.size ((w.alloc (.cells #[.slice A z.ty.length a, .slice B z.tr.length b, .slice C z.lp.length c, .string z.ft, .int .i64 z.v] 26)).alloc (.cells #[.int .i64 h.v, .int .i64 h.ut, .int .i64 h.sd, .int .i64 h.lp, .int .i64 h.tm, .int .i64 h.ty, .int .i64 h.ch] 28)) W) => dec2_use (X := h) (s := s) rfl rfl (.slice Ab l.length cb) W (hl.below (btr hw0.out hb)) hby hsm)
      obtain ⟨m1, m2, m3⟩ := dec_small h l s
      have RL := Lib.hid (fun W (hb : Below ((w.alloc (.cells #[.slice A z.ty.length a, .slice B z.tr.length b, .slice C z.lp.length c, .string z.ft, .int .i64 z.v] 26)).alloc (.cells #[.int .i64 h.v, .int .i64 h.ut, .int .i64 h.sd, .int .i64 h.lp, .int .i64 h.tm, .int .i64 h.ty, .int .i64 h.ch] 28)).heap.size ((w.alloc (.cells #[.slice A z.ty.length a, .slice B z.tr.length b, .slice C z.lp.length c, .string z.ft, .int .i64 z.v] 26)).alloc (.cells #[.int .i64 h.v, .int .i64 h.ut, .int .i64 h.sd, .int .i64 h.lp, .int .i64 h.tm, .int .i64 h.ty, .int .i64 h.ch] 28)) W) => hl.below (btr hw0.out hb))
      have SA : Hid (∀ W A a B b C c A' a' B' b' C' c', Zr W A B C (dec h l s) → Zr W A' B' C' (dec h l s) → Calls Try.prog 12 #[(.agg #[.slice A (dec h l s).ty.length a, .slice B (dec h l s).tr.length b, .slice C (dec h l s).lp.length c, .string (dec h l s).ft, .int .i64 (dec h l s).v]), (.agg #[.slice A' (dec h l s).ty.length a', .slice B' (dec h l s).tr.length b', .slice C' (dec h l s).lp.length c', .string (dec h l s).ft, .int .i64 (dec h l s).v])] W fun e w' => e = .returned (.bool true) ∧ Below W.heap.size W w') := Lib.hid fun W A a B b C c A' a' B' b' C' c' h1 h2 => same_at A a B b C c A' a' B' b' C' c' _ W h1 h2 ⟨m1, m2, m3⟩
      have EH : ∀ W, (Op.equalIn 10000 28 (.agg #[.int .i64 (cv z).v, .int .i64 (cv z).ut, .int .i64 (cv z).sd, .int .i64 (cv z).lp, .int .i64 (cv z).tm, .int .i64 (cv z).ty, .int .i64 (cv z).ch]) (.agg #[.int .i64 (cv z).v, .int .i64 (cv z).ut, .int .i64 (cv z).sd, .int .i64 (cv z).lp, .int .i64 (cv z).tm, .int .i64 (cv z).ty, .int .i64 (cv z).ch])).run Try.prog W = .ok true W := fun W => by have := head.eqH (cv z) (cv z) W; rw [head.hdb_self] at this; exact this
      have HSM := Lib.hid hsm
      clear hf hl hby hbd hw0 TM hz bd hbig hn f1 f2 f3 m1 m2 m3 hs
      generalize dec h l s = Z at *
      generalize dv h l s = q3 at *
      generalize cv z = X at *
      generalize okC z = q1 at *
      generalize enc z s = D at *
      generalize ev z s = q2 at *
      obtain ⟨hv, hut, hsd, hlp, htm, hty, hch⟩ := h
      obtain ⟨ty, tr, lp, ft, v⟩ := z
      obtain ⟨Zty, Ztr, Zlp, Zft, Zv⟩ := Z
      obtain ⟨Xv, Xut, Xsd, Xlp, Xtm, Xty, Xch⟩ := X
      simp only at *
      go_enter Try.func3, Try.ntmps3
      go_wp2_with (first
        | (go_at_call 4; (with_reducible refine (SM.out _ HR0.out).mono ?_); rintro e w1 ⟨rfl, hb1⟩; have HA1 := Lib.hid hb1; obtain ⟨x0, x1, x2, x3, x4⟩ := T.out _ HA1.out; clear hb1)
        | (go_at_call 5; (with_reducible refine (FE.out _ HA1.out).mono ?_); rintro e w2 ⟨rfl, hb2⟩; have HA2 := Lib.hid (btr HA1.out hb2); clear x0 x1 x2 x3 x4; obtain ⟨x0, x1, x2, x3, x4⟩ := T.out _ HA2.out; clear hb2)
        | (go_at_call 6; (with_reducible refine (CO1.out _ HA2.out).mono ?_); rintro e w3 ⟨rfl, hb3⟩; have HA3 := Lib.hid (bal (btr HA2.out hb3) (.cells #[.int .i64 Xv, .int .i64 Xut, .int .i64 Xsd, .int .i64 Xlp, .int .i64 Xtm, .int .i64 Xty, .int .i64 Xch] 28)); clear x0 x1 x2 x3 x4; obtain ⟨x0, x1, x2, x3, x4⟩ := T.out _ HA3.out; clear hb3)
        | (go_at_call 7; (with_reducible refine (CO2.out _ HA3.out).mono ?_); rintro e w4 ⟨rfl, hb4⟩; have HA4 := Lib.hid (bal (btr HA3.out hb4) (.cells #[.int .i64 Xv, .int .i64 Xut, .int .i64 Xsd, .int .i64 Xlp, .int .i64 Xtm, .int .i64 Xty, .int .i64 Xch] 28)); have P3 := Lib.hid (hp_old (kept (hp_new w3 (.cells #[.int .i64 Xv, .int .i64 Xut, .int .i64 Xsd, .int .i64 Xlp, .int .i64 Xtm, .int .i64 Xty, .int .i64 Xch] 28)) hb4) (.cells #[.int .i64 Xv, .int .i64 Xut, .int .i64 Xsd, .int .i64 Xlp, .int .i64 Xtm, .int .i64 Xty, .int .i64 Xch] 28)); have P4 := Lib.hid (hp_new w4 (.cells #[.int .i64 Xv, .int .i64 Xut, .int .i64 Xsd, .int .i64 Xlp, .int .i64 Xtm, .int .i64 Xty, .int .i64 Xch] 28)); clear x0 x1 x2 x3 x4; obtain ⟨x0, x1, x2, x3, x4⟩ := T.out _ HA4.out; clear hb4)
        | (go_at_call 8; (with_reducible refine (EN1.out _ HA4.out).mono ?_); rintro e w5 ⟨A5, c5, rfl, o5, hb5⟩; have HA5 := Lib.hid (btr HA4.out hb5); have HB5 := Lib.hid hb5; have O5 := Lib.hid o5; clear x0 x1 x2 x3 x4; obtain ⟨x0, x1, x2, x3, x4⟩ := T.out _ HA5.out; clear hb5 o5)
        | (go_at_call 9; (with_reducible refine (EN2.out _ HA5.out).mono ?_); rintro e w6 ⟨A6, c6, rfl, o6, hb6⟩; have HA6 := Lib.hid (btr HA5.out hb6); have HB6 := Lib.hid (btr HB5.out hb6); have O6 := Lib.hid o6; have R5 := Lib.hid (own_kept O5.out hb6); have E7 := Lib.hid (ref13.own_empty w6); have B7 := Lib.hid (bal (Below.refl w6.heap.size w6) (.cells #[] 5)); clear x0 x1 x2 x3 x4 hb6 o6)
        | (at_builtin; refine app_any rfl _ _ rfl w6.heap.size (w6.alloc (.cells #[] 5)) (.slice (some ⟨w6.heap.size, 0, none⟩) 0 0) (.slice Ab l.length cb) [] l rfl rfl E7.out (RL.out _ (btr HA6.out B7.out)) (by have := HSM.out; simp; omega) B7.out.size ?_; intro v7 w7 o7 g7; rw [List.nil_append] at o7; obtain ⟨A7, c7, rfl⟩ := own_len o7; have O7 := Lib.hid o7; have BW7 := Lib.hid (own_below E7.out B7.out B7.out.size g7); have BS7 := Lib.hid g7.size; have HA7 := Lib.hid (btr HA6.out BW7.out); obtain ⟨y0, y1, y2, y3, y4, y5, y6⟩ := TH.out _ HA7.out; clear o7 g7)
        | (go_at_call 10; (with_reducible refine (DE1.out _ _ HA7.out (own_by O7.out).rd).mono ?_); rintro e w8 ⟨A8, a8, B8, b8, C8, c8, rfl, nw8, hb8⟩; have N8 := Lib.hid nw8; have HB8 := Lib.hid hb8; have HA8 := Lib.hid (bal (btr HA7.out hb8) (.cells #[.slice A8 Zty.length a8, .slice B8 Ztr.length b8, .slice C8 Zlp.length c8, .string Zft, .int .i64 Zv] 26)); clear y0 y1 y2 y3 y4 y5 y6; obtain ⟨y0, y1, y2, y3, y4, y5, y6⟩ := TH.out _ HA8.out; clear hb8 nw8)
        | (go_at_call 11; (with_reducible refine (DE2.out _ HA8.out).mono ?_); rintro e w9 ⟨A9, a9, B9, b9, C9, c9, rfl, nw9, hb9⟩; have N9 := Lib.hid nw9; have HB9 := Lib.hid hb9; have HA9 := Lib.hid (bal (btr HA8.out hb9) (.cells #[.slice A9 Zty.length a9, .slice B9 Ztr.length b9, .slice C9 Zlp.length c9, .string Zft, .int .i64 Zv] 26)); clear y0 y1 y2 y3 y4 y5 y6 hb9 nw9))
      have hs67 : w6.heap.size < w7.heap.size := by have h2 := BS7.out; simp only [World.size_alloc] at h2; omega
      obtain ⟨gi, hg1, hg2, hg3⟩ := in_block O7.out hs67
      have K79 : Hid (Below w7.heap.size w7 (w9.alloc (.cells #[.slice A9 Zty.length a9, .slice B9 Ztr.length b9, .slice C9 Zlp.length c9, .string Zft, .int .i64 Zv] 26))) := Lib.hid (bal (btr (bal HB8.out (.cells #[.slice A8 Zty.length a8, .slice B8 Ztr.length b8, .slice C8 Zlp.length c8, .string Zft, .int .i64 Zv] 26)) HB9.out) (.cells #[.slice A9 Zty.length a9, .slice B9 Ztr.length b9, .slice C9 Zlp.length c9, .string Zft, .int .i64 Zv] 26))
      have K89 : Hid (Below w8.heap.size w8 (w9.alloc (.cells #[.slice A9 Zty.length a9, .slice B9 Ztr.length b9, .slice C9 Zlp.length c9, .string Zft, .int .i64 Zv] 26))) := Lib.hid (bal (btr (bal (Below.refl _ _) (.cells #[.slice A8 Zty.length a8, .slice B8 Ztr.length b8, .slice C8 Zlp.length c8, .string Zft, .int .i64 Zv] 26)) HB9.out) (.cells #[.slice A9 Zty.length a9, .slice B9 Ztr.length b9, .slice C9 Zlp.length c9, .string Zft, .int .i64 Zv] 26))
      have K69 : Hid (Below w6.heap.size w6 (w9.alloc (.cells #[.slice A9 Zty.length a9, .slice B9 Ztr.length b9, .slice C9 Zlp.length c9, .string Zft, .int .i64 Zv] 26))) := Lib.hid (btr BW7.out K79.out)
      have hs78 := HB8.out.size
      have S0 : Hid (Own w6.heap.size (w9.alloc (.cells #[.slice A9 Zty.length a9, .slice B9 Ztr.length b9, .slice C9 Zlp.length c9, .string Zft, .int .i64 Zv] 26)) (.slice A7 l.length c7) l) := Lib.hid (own_kept O7.out K79.out)
      have G3 := Lib.hid hg3
      have G1 := Lib.hid hg1
      have G2 := Lib.hid hg2
      have HP3 : Hid ((w9.alloc (.cells #[.slice A9 Zty.length a9, .slice B9 Ztr.length b9, .slice C9 Zlp.length c9, .string Zft, .int .i64 Zv] 26)).heap[w3.heap.size]? = some (.cells #[.int .i64 Xv, .int .i64 Xut, .int .i64 Xsd, .int .i64 Xlp, .int .i64 Xtm, .int .i64 Xty, .int .i64 Xch] 28) ∧ w3.heap.size < w6.heap.size) := Lib.hid ⟨kept (kept P3.out HB6.out) K69.out, Nat.lt_of_lt_of_le (hp_lt P3.out) HB6.out.size⟩
      have HP4 : Hid ((w9.alloc (.cells #[.slice A9 Zty.length a9, .slice B9 Ztr.length b9, .slice C9 Zlp.length c9, .string Zft, .int .i64 Zv] 26)).heap[w4.heap.size]? = some (.cells #[.int .i64 Xv, .int .i64 Xut, .int .i64 Xsd, .int .i64 Xlp, .int .i64 Xtm, .int .i64 Xty, .int .i64 Xch] 28) ∧ w4.heap.size < w6.heap.size) := Lib.hid ⟨kept (kept P4.out HB6.out) K69.out, Nat.lt_of_lt_of_le (hp_lt P4.out) HB6.out.size⟩
      have HZ8 : Hid ((w9.alloc (.cells #[.slice A9 Zty.length a9, .slice B9 Ztr.length b9, .slice C9 Zlp.length c9, .string Zft, .int .i64 Zv] 26)).heap[w8.heap.size]? = some (.cells #[.slice A8 Zty.length a8, .slice B8 Ztr.length b8, .slice C8 Zlp.length c8, .string Zft, .int .i64 Zv] 26)) := Lib.hid (kept (hp_new w8 (.cells #[.slice A8 Zty.length a8, .slice B8 Ztr.length b8, .slice C8 Zlp.length c8, .string Zft, .int .i64 Zv] 26)) (bal HB9.out (.cells #[.slice A9 Zty.length a9, .slice B9 Ztr.length b9, .slice C9 Zlp.length c9, .string Zft, .int .i64 Zv] 26)))
      have HZ9 : Hid ((w9.alloc (.cells #[.slice A9 Zty.length a9, .slice B9 Ztr.length b9, .slice C9 Zlp.length c9, .string Zft, .int .i64 Zv] 26)).heap[w9.heap.size]? = some (.cells #[.slice A9 Zty.length a9, .slice B9 Ztr.length b9, .slice C9 Zlp.length c9, .string Zft, .int .i64 Zv] 26)) := Lib.hid (hp_new w9 (.cells #[.slice A9 Zty.length a9, .slice B9 Ztr.length b9, .slice C9 Zlp.length c9, .string Zft, .int .i64 Zv] 26))
      have hs89 : w8.heap.size < w9.heap.size := by have := hp_lt (kept (hp_new w8 (.cells #[.slice A8 Zty.length a8, .slice B8 Ztr.length b8, .slice C8 Zlp.length c8, .string Zft, .int .i64 Zv] 26)) HB9.out); exact this
      have M8 : Hid (Nw w7.heap.size (w9.alloc (.cells #[.slice A9 Zty.length a9, .slice B9 Ztr.length b9, .slice C9 Zlp.length c9, .string Zft, .int .i64 Zv] 26)) A8 B8 C8 ⟨Zty, Ztr, Zlp, Zft, Zv⟩) := Lib.hid ⟨N8.out.1.below K89.out, N8.out.2⟩
      have M9 : Hid (Nw (w8.alloc (.cells #[.slice A8 Zty.length a8, .slice B8 Ztr.length b8, .slice C8 Zlp.length c8, .string Zft, .int .i64 Zv] 26)).heap.size (w9.alloc (.cells #[.slice A9 Zty.length a9, .slice B9 Ztr.length b9, .slice C9 Zlp.length c9, .string Zft, .int .i64 Zv] 26)) A9 B9 C9 ⟨Zty, Ztr, Zlp, Zft, Zv⟩) := Lib.hid ⟨N9.out.1.below (bal (Below.refl _ _) (.cells #[.slice A9 Zty.length a9, .slice B9 Ztr.length b9, .slice C9 Zlp.length c9, .string Zft, .int .i64 Zv] 26)), N9.out.2⟩
      have hs8a : (w8.alloc (.cells #[.slice A8 Zty.length a8, .slice B8 Ztr.length b8, .slice C8 Zlp.length c8, .string Zft, .int .i64 Zv] 26)).heap.size = w8.heap.size + 1 := by simp
      have FIN : Hid (∀ W, Keep gi (w9.alloc (.cells #[.slice A9 Zty.length a9, .slice B9 Ztr.length b9, .slice C9 Zlp.length c9, .string Zft, .int .i64 Zv] 26)) W → Below w.heap.size w W ∧ W.heap[w3.heap.size]? = some (.cells #[.int .i64 Xv, .int .i64 Xut, .int .i64 Xsd, .int .i64 Xlp, .int .i64 Xtm, .int .i64 Xty, .int .i64 Xch] 28) ∧ W.heap[w4.heap.size]? = some (.cells #[.int .i64 Xv, .int .i64 Xut, .int .i64 Xsd, .int .i64 Xlp, .int .i64 Xtm, .int .i64 Xty, .int .i64 Xch] 28) ∧ W.heap[w8.heap.size]? = some (.cells #[.slice A8 Zty.length a8, .slice B8 Ztr.length b8, .slice C8 Zlp.length c8, .string Zft, .int .i64 Zv] 26) ∧ W.heap[w9.heap.size]? = some (.cells #[.slice A9 Zty.length a9, .slice B9 Ztr.length b9, .slice C9 Zlp.length c9, .string Zft, .int .i64 Zv] 26) ∧ RdW W (.slice A5 D.length c5) D ∧ RdW W (.slice A6 D.length c6) D ∧ Zr W A8 B8 C8 ⟨Zty, Ztr, Zlp, Zft, Zv⟩ ∧ Zr W A9 B9 C9 ⟨Zty, Ztr, Zlp, Zft, Zv⟩) := Lib.hid fun W hk => by
        have g1 := G1.out
        have g2 := G2.out
        have hw : w.heap.size ≤ w6.heap.size := (EX.out _ HA6.out).size
        refine ⟨hk.to_below (EX.out _ HA9.out) (by omega) (EX.out _ HA9.out).size, ?_, ?_, ?_, ?_, rd_far R5.out K69.out hk g1, rd_far O6.out K69.out hk g1, (zr_keepg M8.out hk (by omega)).1, (zr_keepg M9.out hk (by omega)).1⟩
        · rw [hk.block _ (hp_lt HP3.out.1) (by have := HP3.out.2; omega)]; exact HP3.out.1
        · rw [hk.block _ (hp_lt HP4.out.1) (by have := HP4.out.2; omega)]; exact HP4.out.1
        · rw [hk.block _ (hp_lt HZ8.out) (by omega)]; exact HZ8.out
        · rw [hk.block _ (hp_lt HZ9.out) (by omega)]; exact HZ9.out
      clear hs67 hs78 hs89 hs8a hg1 hg2 hg3 K79 K89 K69 HP3 HP4 HZ8 HZ9 M8 M9 R5 O5 O6 N8 N9 P3 P4 HB5 HB6 HB8 HB9 E7 B7 BW7 BS7 O7 HA1 HA2 HA3 HA4 HA5 HA6 HA7 HA8 HA9 HR0 T TH SM FE CO1 CO2 EN1 EN2 DE1 DE2 RL EX HSM
      generalize w9.alloc (.cells #[.slice A9 Zty.length a9, .slice B9 Ztr.length b9, .slice C9 Zlp.length c9, .string Zft, .int .i64 Zv] 26) = V0 at *
      go_loopw [24] (fun i W => SHead w6.heap.size gi l.length c7 A7 V0 i W) (fun i _ => l.length - (intOf i).toNat)
      case atStart => exact ⟨0, l, Nat.zero_le _, rfl, rfl, S0.out, Keep.refl _ _⟩
      case round =>
        obtain ⟨k, L, hk, rfl, hL, ho, hkp⟩ := hrel
        by_cases hlt : k < l.length
        · obtain rfl := G3.out (by omega)
          obtain ⟨u0, x0⟩ : ∃ u, wr.cell? ⟨gi, k, none⟩ = some u := ⟨_, (own_cellF ho k (by omega)).1⟩
          have x1 := (own_cellF ho k (by omega)).2
          have R := Lib.hid (s_step hlt hL ho hkp)
          clear ho hkp hL FIN SA EH S0
          go_wp2
          first
            | exact ⟨R.out, by simp [intOf]; omega⟩
            | (go_roundw; (case rel => exact R.out); (case measure => simp [intOf]; omega))
        · obtain ⟨bw, p3, p4, z8, z9, r5, r6, n8, n9⟩ := FIN.out _ hkp
          obtain rfl : k = l.length := by omega
          obtain ⟨a0, a1, a2, a3, a4, a5', a6⟩ := head7 p3
          obtain ⟨d0, d1, d2, d3, d4, d5, d6⟩ := head7 p4
          obtain ⟨s0, s1, s2, s3, s4⟩ := zone5 z8
          obtain ⟨t0, t1, t2, t3, t4⟩ := zone5 z9
          have cf := str_of r5
          have ci := str_of r6
          have SAA := Lib.hid (SA.out _ A8 a8 B8 b8 C8 c8 A9 a9 B9 b9 C9 c9 n8 n9)
          have BW := Lib.hid bw
          clear ho hkp hL FIN SA S0 bw p3 p4 z8 z9 r5 r6 n8 n9 G1 G2 G3
          generalize strN D = sD at *
          generalize D.length = nD at *
          go_wp2_with (go_at_call 12; (with_reducible refine SAA.out.mono ?_); rintro e w11 ⟨rfl, hb11⟩; have BE := Lib.hid (btr BW.out hb11); clear hb11)
          go_ret
          exact ⟨rfl, BE.out⟩
  · have hf' : fewB z = false := by simpa using hf
    rw [hf'] at FE
    clear hf hf' hl hby hbd hw0 TM hz bd
    obtain ⟨hv, hut, hsd, hlp, htm, hty, hch⟩ := h
    obtain ⟨ty, tr, lp, ft, v⟩ := z
    simp only at *
    generalize l.length = L at *
    go_enter Try.func3, Try.ntmps3
    go_wp2_with (first
      | (go_at_call 4; (with_reducible refine (SM.out _ HR0.out).mono ?_); rintro e w1 ⟨rfl, hb1⟩; have HA1 := Lib.hid hb1; obtain ⟨x0, x1, x2, x3, x4⟩ := T.out _ HA1.out; clear hb1)
      | (go_at_call 5; (with_reducible refine (FE.out _ HA1.out).mono ?_); rintro e w2 ⟨rfl, hb2⟩; have HA2 := Lib.hid (btr HA1.out hb2); clear x0 x1 x2 x3 x4 hb2))
    go_ret
    exact ⟨rfl, EX.out _ HA2.out⟩
end Go.Proofs.Ytllficloadncfaa.blockTells
