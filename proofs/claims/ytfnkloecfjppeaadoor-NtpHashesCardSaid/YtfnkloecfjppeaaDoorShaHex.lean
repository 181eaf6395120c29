/-
  What sha.Hex answers: the forty digits of twenty bytes, as a text. Condition: the bytes are bytes.
-/
import Derived.Test.YtfnkloecfjppeaaDoorShaBuild
namespace Go.Proofs.YtfnkloecfjppeaaDoor.sha
open Go.ChangeShapes Go.WideShapes Go.ChangeAt Go.RowKit
open sx
set_option linter.unusedVariables false

/-- a digit of base 16. -/
def hd (n : Nat) : UInt8 := if n < 10 then UInt8.ofNat (48 + n) else UInt8.ofNat (87 + n)
def hx (f : Nat → Nat) : Nat → List UInt8
  | 0 => []
  | k + 1 => hx f k ++ [hd (f k / 16), hd (f k % 16)]
def hexS (f : Nat → Nat) : ByteArray := ⟨(hx f 20).toArray⟩
theorem hx_len (f : Nat → Nat) : ∀ k, (hx f k).length = 2 * k
  | 0 => rfl
  | k + 1 => by simp [hx, hx_len f k]; omega
def nats (l : List UInt8) : List Nat := l.map (·.toNat)
theorem nats_app (l m : List UInt8) : nats (l ++ m) = nats l ++ nats m := by simp [nats]
theorem nats_len (l : List UInt8) : (nats l).length = l.length := by simp [nats]
theorem bc_nats (l : List UInt8) : bc (nats l) = Lib.byteCells l := by simp [bc, nats, Lib.byteCells]
theorem digs (p : Nat) (hp : p < 16) (h : p < (⟨#[48, 49, 50, 51, 52, 53, 54, 55, 56, 57, 97, 98, 99, 100, 101, 102]⟩ : ByteArray).size) : ((⟨#[48, 49, 50, 51, 52, 53, 54, 55, 56, 57, 97, 98, 99, 100, 101, 102]⟩ : ByteArray)[p]'h).toNat = (hd p).toNat := by
  rcases (show p = 0 ∨ p = 1 ∨ p = 2 ∨ p = 3 ∨ p = 4 ∨ p = 5 ∨ p = 6 ∨ p = 7 ∨ p = 8 ∨ p = 9 ∨ p = 10 ∨ p = 11 ∨ p = 12 ∨ p = 13 ∨ p = 14 ∨ p = 15 by omega) with rfl | rfl | rfl | rfl | rfl | rfl | rfl | rfl | rfl | rfl | rfl | rfl | rfl | rfl | rfl | rfl <;> rfl
def HHead (f : Nat → Nat) (w : World) (t : Value) (W : World) : Prop :=
  ∃ k, k ≤ 20 ∧ t = .int .i64 (k : Nat) ∧ Bld (w.heap.size + 1) (w.heap.size + 1) (nats (hx f k)) W ∧ Below (w.heap.size + 1) (w.alloc (.cells (cs .u8 f 20) 38)) W
theorem again (f : Nat → Nat) (k : Nat) {w wr w1 : World} {x : Nat} (h1 : BldAt (w.heap.size + 1) (w.heap.size + 1) (nats (hx f k) ++ [x]) w1) (hb1 : Below (w.heap.size + 1) wr w1) (c1 : wr.cell? ⟨w.heap.size, k, none⟩ = some (.int .u8 (f k : Nat))) (hbs : w.heap.size + 1 ≤ wr.heap.size) (hk : k < 20) :
    w1.cell? ⟨w.heap.size, k, none⟩ = some (.int .u8 (f k : Nat)) ∧ Hid (Calls Tryd.prog 27 #[.pointer (some ⟨w.heap.size + 1, 0, none⟩), .int .u8 ((hd (f k % 16)).toNat : Nat)] w1 fun e w' => e = .returned .nilIface ∧ BldAt (w.heap.size + 1) (w.heap.size + 1) (nats (hx f k) ++ [x] ++ [(hd (f k % 16)).toNat]) w' ∧ Below (w.heap.size + 1) w1 w') := by
  have hs := hb1.size
  refine ⟨(hb1.cell (p := ⟨w.heap.size, k, none⟩) (by show w.heap.size < _; omega)).trans c1, write_any _ _ _ _ w1 (Or.inr h1) ?_ (by omega)⟩
  rw [List.length_append, nats_len, hx_len]
  simp; omega
set_option maxHeartbeats 2000000 in
theorem hex_any (f : Nat → Nat) (w : World) (hf : Byt f 20) : Calls Tryd.prog 20 #[.agg (cs .u8 f 20)] w fun e w' => e = .returned (.string (hexS f)) ∧ Below w.heap.size w w' := by
  go_enter Tryd.func20, Tryd.ntmps20
  go_wp2
  go_loopw [5] (fun t W => HHead f w t W) (fun t _ => 20 - (intOf t).toNat)
  case atStart =>
    refine ⟨0, by omega, rfl, ?_, ?_⟩
    · have := Lib.fresh_isBuilder 49 5 (w.alloc (.cells (cs .u8 f 20) 38))
      rw [show (w.alloc (.cells (cs .u8 f 20) 38)).heap.size = w.heap.size + 1 by simp] at this
      exact this
    · exact (Below.refl _ _).alloc (by simp) _
  case round =>
    obtain ⟨k, hk, rfl, hB, hb⟩ := hrel
    have hbs := hb.size
    have hbs2 : w.heap.size + 1 ≤ wr.heap.size := by simpa using hbs
    by_cases hlt : k < 20
    · have c1 : wr.cell? ⟨w.heap.size, k, none⟩ = some (.int .u8 (f k : Nat)) := by
        rw [hb.cell (p := ⟨w.heap.size, k, none⟩) (by show w.heap.size < _; omega)]
        exact row_cell (hp_new w _) k _ (cs_get .u8 f 20 k hlt)
      have b1 := hf k hlt
      have ha : bits .and .u8 (f k : Int) 15 = ((f k % 16 : Nat) : Int) := by
        rw [show (15 : Int) = ((15 : Nat) : Int) from rfl, u8_and_nat _ _ (by omega) (by omega), show (15 : Nat) = 2 ^ 4 - 1 from rfl, Nat.and_two_pow_sub_one_eq_mod]
      have i1 := digs (f k / 16) (by omega)
      have i2 := digs (f k % 16) (by omega)
      have hxl := hx_len f k
      have W1 := Lib.hid (write_any _ _ _ (hd (f k / 16)).toNat wr hB (by rw [nats_len]; omega) hbs2)
      have HX := Lib.hid (show hx f (k + 1) = hx f k ++ [hd (f k / 16), hd (f k % 16)] from rfl)
      clear hxl
      go_wp2_with (go_at_call 27; first
        | ((with_reducible refine W1.out.mono ?_); rintro e w1 ⟨rfl, h1, hb1⟩; clear W1; obtain ⟨c2, W2⟩ := again f k h1 hb1 c1 hbs2 hlt)
        | ((with_reducible refine W2.out.mono ?_); rintro e w2 ⟨rfl, h2, hb2⟩))
      go_roundw
      case rel =>
        refine ⟨k + 1, by omega, by go_num, Or.inr ?_, (hb.trans hb1).trans hb2⟩
        rw [HX.out, nats_app]
        simp only [List.append_assoc] at h2
        exact h2
      case measure => simp [intOf]; omega
    · obtain rfl : k = 20 := by omega
      have ST := Lib.hid (Tryd.Builder_String_any (w.heap.size + 1) (w.heap.size + 1) (hx f 20) wr (by have := hB; unfold Bld at this; rw [bc_nats] at this; exact this) hbs2)
      go_wp2_with (go_at_call 31; (with_reducible refine ST.out.mono ?_); rintro e w1 ⟨rfl, hb1⟩)
      go_ret
      refine ⟨rfl, ?_⟩
      exact ((Below.refl _ _).alloc (Nat.le_refl _) _).trans ((hb.trans hb1).mono (by omega))
end Go.Proofs.YtfnkloecfjppeaaDoor.sha
