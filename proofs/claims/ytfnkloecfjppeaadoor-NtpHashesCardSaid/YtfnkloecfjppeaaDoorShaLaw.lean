/-
  Digests, bytes and parts that came in, as they are read; and what package sha's variable holds, from the row's own condition. Conditions: the row's own.
-/
import Derived.Test.YtfnkloecfjppeaaDoorShaSmallCase
import Derived.Test.YtfnkloecfjppeaaDoorLaw
import Derived.Deep.Matrix
import Derived.LaidMore
import Derived.Lib.LaidTab
import Derived.Deep.Strs
import Derived.Stop.Joined
import Derived.Lib.QuietBelow
namespace Go.Proofs.YtfnkloecfjppeaaDoor.sha
open Go.ChangeShapes Go.WideShapes Go.ChangeAt Go.RowKit
open sx
set_option linter.unusedVariables false

theorem laid_at {P : Program} {W : World} {n : String} {d : DataW Unit} {g : Nat} {t : TypeId} (hg : P.globalNamed n = some g) (ht : (P.globals[g]?).map (·.type) = some t) :
    ∀ (l : List (String × DataW Unit)) (ps : List MemPlace), DataW.LaidVars P W l ps → (n, d) ∈ l → ∃ (cs : Array Value) (fuel : Nat) (p : List MemPlace), W.var? P n = some cs ∧ DataW.trod (fun _ => ()) P W 0 (fun _ => true) false fuel t cs.toList = some (d, p)
  | [], _, _, h => by cases h
  | (n', d') :: r, ps, h, hm => by
    obtain ⟨g', t', cs, fuel, p, q, h1, h2, h3, h4, h5, rfl⟩ := h
    rcases List.mem_cons.1 hm with e | hm
    · cases e
      obtain rfl := Option.some.inj (hg.symm.trans h1)
      obtain rfl := Option.some.inj (ht.symm.trans h2)
      exact ⟨cs, fuel, p, h3, h4⟩
    · exact laid_at hg ht r q h5 hm

theorem cS : Tryd.prog.cellsOf 36 = 1 := by kernel_rfl
theorem c20 : Tryd.prog.cellsOf 38 = 20 := by kernel_rfl
theorem open_digest {H : Type} {enc : TypeId × Value → H} {W : World} {base : Nat} {v : Value} {d : DataW H} {p : List MemPlace} (hv : Value.okWide Tryd.prog W .any base 38 v) (h : DataW.Trod enc Tryd.prog W 0 (fun _ => true) true 38 v d p) :
    ∃ f, v = .agg (cs .u8 f 20) ∧ Byt f 20 := by
  obtain ⟨c, rfl, hc⟩ : ∃ c, v = .agg c ∧ c.size = 20 := by
    unfold Value.okWide at hv
    rw [Tryd.underlying38] at hv
    obtain ⟨c, e, hs, _⟩ := hv
    exact ⟨c, e, by rw [hs, c20]⟩
  obtain ⟨fuel, hf⟩ := h
  have hf' : DataW.trod enc Tryd.prog W 0 (fun _ => true) true fuel 38 c.toList = some (d, p) := hf
  obtain ⟨xs, m, _, hx, hl, hn, hel⟩ := DataW.trod_array Tryd.underlying38 hf'
  have each : ∀ i, i < 20 → ∃ n : Nat, c[i]? = some (.int .u8 (n : Nat)) ∧ n < 256 := by
    intro i hi
    have hi' := hel i hi
    rw [List.getElem?_eq_getElem (by omega)] at hi'
    obtain ⟨z, e0, _, hw⟩ := DataW.trod_int Tryd.underlying5 hi'
    rw [cB] at e0
    have hb := bounds_u8 hw
    refine ⟨z.toNat, ?_, by omega⟩
    have e1 : c.toList[i]? = some (.int .u8 z) := by
      have := congrArg (fun l => l[0]?) e0
      simpa [List.getElem?_take, List.getElem?_drop] using this
    rw [← Array.getElem?_toList, e1, show ((z.toNat : Nat) : Int) = z by omega]
  obtain ⟨f, hff⟩ : ∃ f : Nat → Nat, ∀ i, i < 20 → c[i]? = some (.int .u8 (f i : Nat)) ∧ f i < 256 := by
    refine ⟨fun i => if h : i < 20 then (each i h).choose else 0, fun i hi => ?_⟩
    simp only [dif_pos hi]
    exact (each i hi).choose_spec
  refine ⟨f, ?_, fun j hj => (hff j hj).2⟩
  congr 1
  apply Array.ext_getElem?
  intro i
  by_cases hi : i < 20
  · rw [(hff i hi).1, cs_get .u8 f 20 i hi]
  · rw [Array.getElem?_eq_none (by omega), Array.getElem?_eq_none (by rw [cs_size]; omega)]
/-- numbers of bytes. -/
def toN (zs : List Int) : List Nat := zs.map Int.toNat
theorem toN_len (zs : List Int) : (toN zs).length = zs.length := by simp [toN]
theorem toN_bys {zs : List Int} (h : ∀ n ∈ zs, (Lit.int .u8 n).wf = true) : Bys (toN zs) := by
  intro x hx
  obtain ⟨z, hz, rfl⟩ := List.mem_map.1 hx
  have := bounds_u8 (h z hz)
  omega
theorem toN_at {zs : List Int} (h : ∀ n ∈ zs, (Lit.int .u8 n).wf = true) (k : Nat) (hk : k < (toN zs).length) : (((toN zs)[k] : Nat) : Int) = zs.getD k 0 := by
  have hk' : k < zs.length := by rw [toN_len] at hk; exact hk
  have hb := bounds_u8 (h zs[k] (List.getElem_mem _))
  simp only [toN, List.getElem_map, List.getD_eq_getElem?_getD, List.getElem?_eq_getElem hk', Option.getD_some]
  omega
theorem rd_of {W : World} {a : Option Addr} {len cap : Nat} {zs : List Int} (hl : len ≤ cap) (hz : zs.length = cap) (hw : ∀ n ∈ zs, (Lit.int .u8 n).wf = true) (h0 : a = none → cap = 0) (hc : ∀ a', a = some a' → ∀ c, c < cap → W.cell? (a'.add c) = some (.int .u8 (zs.getD c 0))) :
    RdW W (.slice a len cap) ((toN zs).take len) := by
  have hlen : ((toN zs).take len).length = len := by rw [List.length_take, toN_len]; omega
  refine ⟨a, cap, by rw [hlen], by omega, h0, fun hne => ?_⟩
  have hp : 0 < len := by rw [← hlen]; exact List.length_pos_iff.2 hne
  cases a with
  | none => have := h0 rfl; omega
  | some a' =>
    obtain ⟨b, off, spot⟩ := a'
    have hspot : spot = none := by simpa [Addr.add] using World.cell?_spot (hc _ rfl 0 (by omega))
    subst hspot
    refine ⟨b, off, rfl, fun k hk => ?_⟩
    rw [hlen] at hk
    have := hc _ rfl k (by omega)
    rw [add_at] at this
    rw [this, List.getElem_take, toN_at hw k (by rw [toN_len]; omega)]
theorem open_bytes {H : Type} {enc : TypeId × Value → H} {W : World} {base : Nat} {v : Value} {d : DataW H} {p : List MemPlace} (hv : Value.okWide Tryd.prog W .any base 36 v) (h : DataW.Trod enc Tryd.prog W 0 (fun _ => true) true 36 v d p) :
    ∃ l, RdW W v l ∧ Bys l ∧ l.length ≤ 9223372036854775807 := by
  obtain ⟨a0, len0, cap0, rfl⟩ := okWide_slice Tryd.underlying36 hv
  obtain ⟨fuel, hf⟩ := h
  rcases ChangeShapes.open_ints (cs := [.slice a0 len0 cap0]) Tryd.underlying36 Tryd.underlying5 cB hf with ⟨h1, _⟩ | ⟨a, len, cap, zs, h1, _, h3, h4, h5, _, h7, h8⟩
  · simp only [List.cons.injEq, Value.slice.injEq, and_true] at h1
    obtain ⟨rfl, rfl, rfl⟩ := h1
    exact ⟨[], ⟨none, 0, rfl, by simp, fun _ => rfl, fun h => absurd rfl h⟩, (fun x hx => by cases hx), by simp⟩
  · simp only [List.cons.injEq, Value.slice.injEq, and_true] at h1
    obtain ⟨rfl, rfl, rfl⟩ := h1
    simp only [if_true] at h5
    unfold maxLen at h4
    refine ⟨(toN zs).take len0, rd_of h3 h5 h8 (fun h => by cases h) (fun a' e c hc => by cases e; exact h7 c (by omega)), fun x hx => toN_bys h8 x (List.mem_of_mem_take hx), ?_⟩
    rw [List.length_take]; omega
theorem ret_bool {b : Bool} (h : b = true) : Ending.returned (.bool b) = .returned (.bool true) := by rw [h]
/-! regions that draw their order around calls that make memory -/
theorem qload {P : Program} {ops : Array Oper} {C : World → Prop} {Q : Act → Prop} {a : Act} {o : Oper} {rest : List Oper} (hw : Region.wanted o (yielded ops a.tmps) = true) (ty : TypeId) (x : Operand) (ho : o.op = .load ty x) (p : Addr) (hx : a.eval x = .pointer (some p)) (c : Array Value)
    (hl : ∀ W, C W → (loadVar ty p).run P W = .ok (.agg c) W) (h : wpQuiet P ops C Q rest (a.put o.dst (.agg c))) : wpQuiet P ops C Q (o :: rest) a := by
  refine wpQuiet_step (fun K hK => ?_)
  rw [if_pos hw]
  refine ⟨.agg c, fun W hW => ?_, hK _ h⟩
  unfold Oper.quietAt execOp
  simp only [ho, hx, Instr.loadAt, Instr.sureAddr, Sem.run_bind, Sem.run_pure, Result.andThen_ok, hl W hW]
  exact ⟨rfl, rfl⟩
theorem regrown20 {W : World} {g : Nat} {f : Nat → Nat} (h : W.heap[g]? = some (.cells (cs .u8 f 20) 38)) : ∀ W', (∃ p : Regrown, W' = Sort.grow (redrawn W p.d) p.os) → (loadVar 38 ⟨g, 0, none⟩).run Tryd.prog W' = .ok (.agg (cs .u8 f 20)) W' := by
  rintro W' ⟨p, rfl⟩
  exact load20 (kept h (below_regrown W p.d p.os))
theorem below_of {f : FuncId} {args : Array Value} {v : Value} (h : ∀ W : World, Calls Tryd.prog f args W fun e w' => e = .returned v ∧ Below W.heap.size W w') (w : World) (d : Nat) (os : Array Obj) :
    Calls Tryd.prog f args (Sort.grow (redrawn w d) os) fun e w'' => e = .returned v ∧ ∃ p : Regrown, w'' = Sort.grow (redrawn w p.d) p.os := Calls.regrown_of (h _)
theorem same_comm (f g : Nat → Nat) (n : Nat) : same f g n = same g f n := by
  rw [Bool.eq_iff_iff, same_iff, same_iff]
  exact ⟨fun h j hj => (h j hj).symm, fun h j hj => (h j hj).symm⟩
/-! digits at their places -/
theorem hx_even (f : Nat → Nat) : ∀ k i, i < k → (hx f k)[2 * i]? = some (hd (f i / 16)) ∧ (hx f k)[2 * i + 1]? = some (hd (f i % 16))
  | 0, i, h => by omega
  | k + 1, i, h => by
    have hl := hx_len f k
    rw [hx]
    by_cases e : i = k
    · subst e
      rw [List.getElem?_append_right (by omega), List.getElem?_append_right (by omega), hl, show 2 * i - 2 * i = 0 by omega, show 2 * i + 1 - 2 * i = 1 by omega]
      exact ⟨rfl, rfl⟩
    · rw [List.getElem?_append_left (by omega), List.getElem?_append_left (by omega)]
      exact hx_even f k i (by omega)
/-- what digit stands at a place. -/
def dg (f : Nat → Nat) (p : Nat) : Nat := if p % 2 = 0 then f (p / 2) / 16 else f (p / 2) % 16
theorem hx_at (f : Nat → Nat) (p : Nat) (hp : p < 40) : (hx f 20)[p]? = some (hd (dg f p)) := by
  unfold dg
  have := hx_even f 20 (p / 2) (by omega)
  by_cases h : p % 2 = 0
  · rw [if_pos h, ← this.1]; congr 1; omega
  · rw [if_neg h, ← this.2]; congr 1; omega
theorem get_list (s : ByteArray) (l : List UInt8) (hl : s.data.toList = l) (p : Nat) (h : p < s.size) (hp : p < l.length) : s[p]'h = l[p]'hp := by subst hl; rfl
theorem tl_ba (l : List UInt8) : (⟨l.toArray⟩ : ByteArray).data.toList = l := rfl
theorem hexS_list (f : Nat → Nat) : (hexS f).data.toList = hx f 20 := tl_ba (hx f 20)
theorem hexS_at (f : Nat → Nat) (s : ByteArray) (hs : s.data.toList = hx f 20) (p : Nat) (h : p < s.size) (hp : p < 40) : s[p]'h = hd (dg f p) := by
  have e := hx_at f p hp
  have hl : p < (hx f 20).length := by rw [hx_len]; omega
  rw [List.getElem?_eq_getElem hl] at e
  rw [get_list s _ hs p h hl]
  exact Option.some.inj e
theorem list_size (s : ByteArray) : s.size = s.data.toList.length := rfl
theorem hexS_len {f : Nat → Nat} {s : ByteArray} (hs : s.data.toList = hx f 20) : s.size = 40 := by rw [list_size, hs, hx_len]
/-- the digits, under a name of their own. -/
theorem hex_as (f : Nat → Nat) (hf : Byt f 20) : ∃ s : ByteArray, s.data.toList = hx f 20 ∧ ∀ W, Calls Tryd.prog 20 #[.agg (cs .u8 f 20)] W fun e w' => e = .returned (.string s) ∧ Below W.heap.size W w' := ⟨hexS f, hexS_list f, fun W => hex_any f W hf⟩
theorem word_byte (f : Nat → Nat) (n : Nat) (hf : Byt f n) (k : Nat) (hk : 4 * (k / 4) + 4 ≤ n) : word f (k / 4) / 2 ^ (24 - 8 * (k % 4)) % 256 = f k := by
  obtain ⟨q, j, rfl, hj⟩ : ∃ q j, k = 4 * q + j ∧ j < 4 := ⟨k / 4, k % 4, by omega, by omega⟩
  rw [show (4 * q + j) / 4 = q by omega] at hk ⊢
  rw [show (4 * q + j) % 4 = j by omega]
  have e : word f q = ((((0 * 256 + f (4 * q + 0)) * 256 + f (4 * q + 1)) * 256 + f (4 * q + 2)) * 256 + f (4 * q + 3)) := rfl
  have a := hf (4 * q + 0) (by omega)
  have b := hf (4 * q + 1) (by omega)
  have c := hf (4 * q + 2) (by omega)
  have d := hf (4 * q + 3) (by omega)
  rw [e]
  rcases (show j = 0 ∨ j = 1 ∨ j = 2 ∨ j = 3 by omega) with rfl | rfl | rfl | rfl
  · simp only [Nat.mul_zero, Nat.sub_zero]; omega
  · rw [show 24 - 8 * 1 = 16 by rfl]; omega
  · rw [show 24 - 8 * 2 = 8 by rfl]; omega
  · rw [show 24 - 8 * 3 = 0 by rfl]; omega
end Go.Proofs.YtfnkloecfjppeaaDoor.sha
