/-
  What memory keeps, in small steps: blocks that are new or old, old memory behind calls, listed variables, loads and stores of whole rows, regions that draw their order around calls that make memory. Nothing of any one function. Conditions: as said.
-/
import Derived.Test.YtldieebiicblbaaGreatDoorRows
import Derived.WalkKit
import Derived.ProofKit
import Derived.OpenShut
import Derived.IntWalk
import Derived.Below
import Derived.Laws.Rows
import Derived.Laws.Tables
import Derived.Deep.WholeRow
import Derived.Deep.MidRow
import Derived.Lib.Hide
import Derived.Lib.QuietBelow
import Derived.BigQuiet
import Derived.LaidMore
import Derived.Stop.Joined
import Derived.Test.YtldieebiicblbaaGreatDoorG08
import Derived.Test.YtldieebiicblbaaGreatDoorG09
import Derived.Test.YtldieebiicblbaaGreatDoorG11
import Derived.Test.YtldieebiicblbaaGreatDoorG12
namespace Go.Proofs.YtldieebiicblbaaGreatDoor.mem
open Go.ChangeShapes Go.WideShapes Go.ChangeAt Go.RowKit
set_option linter.unusedVariables false
set_option maxRecDepth 100000

theorem bal {w W : World} (hb : Below w.heap.size w W) (o : Obj) : Below w.heap.size w (W.alloc o) := hb.alloc hb.size o
theorem btr {w W W' : World} (hb : Below w.heap.size w W) (h : Below W.heap.size W W') : Below w.heap.size w W' := hb.trans (h.mono hb.size)
theorem kept {W W' : World} {g : Nat} {o : Obj} (h : W.heap[g]? = some o) (hb : Below W.heap.size W W') : W'.heap[g]? = some o := by
  rw [hb.block g (Array.getElem?_eq_some_iff.1 h).1]; exact h
theorem hp_lt {w : World} {k : Nat} {v : Obj} (h : w.heap[k]? = some v) : k < w.heap.size := (Array.getElem?_eq_some_iff.1 h).1
theorem hp_new (w : World) (o : Obj) : (w.alloc o).heap[w.heap.size]? = some o := heap_alloc_new w o
theorem hp_old {w : World} {k : Nat} {v : Obj} (h : w.heap[k]? = some v) (o : Obj) : (w.alloc o).heap[k]? = some v := by
  rw [Below.heap_alloc w o k (hp_lt h)]; exact h
theorem hp_new1 (w : World) (a o : Obj) : ((w.alloc a).alloc o).heap[w.heap.size + 1]? = some o := heap_alloc2_new w a o
theorem bel_setRow {B : Nat} {a w : World} (h : Below B a w) {g : Nat} (hg : B ≤ g) (c : Array Value) : Below B a (w.setRow g c) :=
  h.trans ⟨rfl, rfl, rfl, by simp, fun k hk => setRow_other _ _ _ _ (by omega)⟩
theorem bel_drewN {B : Nat} {a w : World} (h : Below B a w) (n : Nat) : Below B a (w.drewN n) := ⟨h.os, h.tape, h.output, h.size, h.block⟩
theorem row_cell {w : World} {g : Nat} {c : Array Value} {t : TypeId} {fr : Nat × Nat} (h : w.heap[g]? = some (.cells c t fr)) (j : Nat) : w.cell? ⟨g, j, none⟩ = c[j]? := by
  simp [World.cell?, h]
theorem below_grow (w : World) (k : Nat) (os : Array Obj) : Below w.heap.size w (Sort.grow (w.drewN k) os) :=
  (bel_drewN (Below.refl _ _) k).trans ⟨rfl, rfl, rfl, by simp, fun j hj => by
    simp only [Sort.grow]
    rw [Array.getElem?_append_left (by exact hj)]⟩
theorem ret_bool {b : Bool} (h : b = true) : Ending.returned (.bool b) = .returned (.bool true) := by rw [h]
theorem ret_s {a b : ByteArray} (h : a = b) : Ending.returned (.string a) = .returned (.string b) := by rw [h]
/-- 'return x', x a struct in the result's row. -/
theorem end_row {fn : Func} {R : Ending → World → Prop} {p : Tmp} {ty : TypeId} (hr : fn.results = #[.cell p ty]) (a : Act) (w : World) (g : Nat) (t : TypeId) (c : Array Value) (fs : Array Field)
    (hp : a.tmps.getD p undef = .pointer (some ⟨g, 0, none⟩)) (hg : w.heap[g]? = some (.cells c t (0, 0))) (hu : Tryz.prog.underlying ty = some (.struct fs))
    (hi : (Tryz.prog.info? ty).map (·.size) = some c.size) (hdf : a.defers = []) (h : R (.returned (.agg c)) w) : bodyPost Tryz.prog fn R .ret a w :=
  bodyPost_ret (v := .agg c) (results_cell_row hr _ _ g t c (0, 0) _ hp hg hu rfl hi) hdf h

/-! listed variables -/
theorem laid_at {P : Program} {W : World} {n : String} {d : DataW Unit} {g : Nat} {t : TypeId} (hg : P.globalNamed n = some g) (ht : (P.globals[g]?).map (·.type) = some t) :
    ∀ (l : List (String × DataW Unit)) (ps : List MemPlace), DataW.LaidVars P W l ps → (n, d) ∈ l → ∃ (cs : Array Value) (fuel : Nat) (p : List MemPlace), W.var? P n = some cs ∧ DataW.trod (fun _ => ()) P W 0 (fun _ => true) false fuel t cs.toList = some (d, p)
  | [], _, _, h => by cases h
  | (n', d') :: r, ps, h, hm => by
    obtain ⟨g', t', cs, fuel, p, q, h1, h2, h3, h4, h5, rfl⟩ := h
    rcases List.mem_cons.1 hm with e | hm
    · cases e
      obtain rfl := Option.some.inj (hg.symm.trans h1)
      obtain rfl := Option.some.inj (ht.symm.trans h2)
      exact ⟨cs, fuel, p, h3, h4⟩
    · exact laid_at hg ht r q h5 hm

/-! regions that draw their order around calls that make memory -/
theorem qload {P : Program} {ops : Array Oper} {C : World → Prop} {Q : Act → Prop} {a : Act} {o : Oper} {rest : List Oper} (hw : Region.wanted o (yielded ops a.tmps) = true) (ty : TypeId) (x : Operand) (ho : o.op = .load ty x) (p : Addr) (hx : a.eval x = .pointer (some p)) (c : Array Value)
    (hl : ∀ W, C W → (loadVar ty p).run P W = .ok (.agg c) W) (h : wpQuiet P ops C Q rest (a.put o.dst (.agg c))) : wpQuiet P ops C Q (o :: rest) a := by
  refine wpQuiet_step (fun K hK => ?_)
  rw [if_pos hw]
  refine ⟨.agg c, fun W hW => ?_, hK _ h⟩
  unfold Oper.quietAt execOp
  simp only [ho, hx, Instr.loadAt, Instr.sureAddr, Sem.run_bind, Sem.run_pure, Result.andThen_ok, hl W hW]
  exact ⟨rfl, rfl⟩
theorem below_of {f : FuncId} {args : Array Value} {v : Value} (h : ∀ W : World, Calls Tryz.prog f args W fun e w' => e = .returned v ∧ Below W.heap.size W w') (w : World) (d : Nat) (os : Array Obj) :
    Calls Tryz.prog f args (Sort.grow (redrawn w d) os) fun e w'' => e = .returned v ∧ ∃ p : Regrown, w'' = Sort.grow (redrawn w p.d) p.os := Calls.regrown_of (h _)
/-- the same of a callee that asks something of the memory which old memory keeps. -/
theorem below_at {f : FuncId} {args : Array Value} {v : Value} {T : World → Prop} {w : World} (h : ∀ W : World, T W → Calls Tryz.prog f args W fun e w' => e = .returned v ∧ Below W.heap.size W w') (hk : ∀ W, Below w.heap.size w W → T W) (d : Nat) (os : Array Obj) :
    Calls Tryz.prog f args (Sort.grow (redrawn w d) os) fun e w'' => e = .returned v ∧ ∃ p : Regrown, w'' = Sort.grow (redrawn w p.d) p.os := Calls.regrown_of (h _ (hk _ (below_regrown w d os)))
theorem same_of {f : FuncId} {args : Array Value} {v : Value} (h : ∀ W : World, Calls Tryz.prog f args W fun e w' => e = .returned v ∧ W = w') (w : World) (d : Nat) (os : Array Obj) :
    Calls Tryz.prog f args (Sort.grow (redrawn w d) os) fun e w'' => e = .returned v ∧ ∃ p : Regrown, w'' = Sort.grow (redrawn w p.d) p.os :=
  (h _).mono fun e w' ⟨he, hw⟩ => ⟨he, ⟨d, os⟩, hw.symm⟩
end Go.Proofs.YtldieebiicblbaaGreatDoor.mem

/-
  What list.kindOf and list.read answer: what a line is; its words and numbers, in new memory, where it is right. Conditions: the library's variable MaxLen holds some number; the line has fewer than 2^32 - 15 bytes.
-/
namespace Go.Proofs.YtldieebiicblbaaGreatDoor.list
open Go.ChangeShapes Go.WideShapes Go.ChangeAt Go.RowKit
open lx ls mem
set_option linter.unusedVariables false
set_option maxRecDepth 100000

/-- what a kind is called. -/
def kS : Nat → ByteArray
  | 0 => ⟨#[101, 109, 112, 116, 121]⟩
  | 1 => ⟨#[35, 36]⟩
  | 2 => ⟨#[35, 64]⟩
  | 3 => ⟨#[35, 104]⟩
  | 4 => ⟨#[35]⟩
  | _ => ⟨#[100, 97, 116, 97]⟩
theorem tl_is (M : ByteArray) (c : List UInt8) : (M.toList == c) = decide (L M = c) := by
  rw [ByteArray.toList_eq, Bool.eq_iff_iff, beq_iff_eq, decide_eq_true_eq]
  exact Iff.rfl
theorem mark_is (s : ByteArray) (n : Nat) (h : n = min 2 s.size) : s.extract 0 n = B ((L s).take 2) := by
  rw [ext_B, List.drop_zero, Nat.sub_zero, h]
  congr 1
  rw [show s.size = (L s).length from rfl]
  by_cases g : 2 ≤ (L s).length
  · rw [Nat.min_eq_left g]
  · rw [Nat.min_eq_right (by omega), List.take_of_length_le (Nat.le_refl _), List.take_of_length_le (by omega)]
theorem to_run (W : World) (s : ByteArray) (b : Nat) (z : Int) (hz : z = b) (h2 : b ≤ s.size) : (Instr.slice 9 (.string s) none (some (.int .i64 z)) none).run Tryz.prog W = .ok (.string (s.extract 0 b)) W := by
  subst hz
  rw [run_slice_string_h (P := Tryz.prog) W 9 s Tryz.underlying9 .i64 b (by omega) (by omega)]
  rfl
theorem words_of (s : ByteArray) : wordsS s = (wds [] (L s)).map B := rfl
theorem words_nil {s : ByteArray} : wordsS s = [] ↔ wds [] (L s) = [] := by
  unfold wordsS
  rw [List.map_eq_nil_iff]
theorem head_map (l : List (List UInt8)) (h : 0 < (l.map B).length) : L ((l.map B)[0]'h) = l.headD [] := by
  cases l with
  | nil => simp at h
  | cons x r => rw [List.getElem_map, L_B]; rfl
theorem words_head {s : ByteArray} (h : 0 < (wordsS s).length) : L ((wordsS s)[0]'h) = (wds [] (L s)).headD [] := head_map _ h
theorem pre_is (x : ByteArray) : Lib.hasPrefix x.data.toList [35] = decide ((L x).take 1 = [35]) := by
  unfold Lib.hasPrefix
  show List.isPrefixOf [35] (L x) = _
  cases L x with
  | nil => rfl
  | cons c r =>
    rw [List.isPrefixOf_cons_cons]
    by_cases h : (35 : UInt8) = c
    · subst h; simp
    · rw [beq_eq_false_iff_ne.2 h]
      simp
      exact fun k => h k.symm
set_option maxHeartbeats 2000000 in
theorem kind_at (s : ByteArray) (w : World) (hs : s.size < 4294967281) : Calls Tryz.prog 34 #[.string s] w fun e w' => e = .returned (.string (kS (kd (L s)))) ∧ Below w.heap.size w w' := by
  have C := Lib.hid (lines.words_at s w hs)
  unfold lines.Told at C
  by_cases h0 : wordsS s = []
  · have E : Hid (kS (kd (L s)) = ⟨#[101, 109, 112, 116, 121]⟩) := by
      show _ = _
      unfold kd
      rw [if_pos (words_nil.1 h0)]
      rfl
    rw [h0] at C
    clear h0
    go_enter Tryz.func34, Tryz.ntmps34
    go_wp2_with (go_at_call 57; with_reducible refine C.out.mono ?_; rintro e w1 ⟨A, c, rfl, hS, hc, hb1⟩)
    go_ret
    exact ⟨by rw [E.out]; rfl, hb1⟩
  · have hl : 0 < (wordsS s).length := List.length_pos_iff.2 h0
    have hz : 0 < s.size := by
      rcases Nat.eq_zero_or_pos s.size with k | k
      · exact absurd (words_nil.2 (by rw [(L_nil s).2 k]; rfl)) h0
      · exact k
    have hw0 : ¬ wds [] (L s) = [] := fun k => h0 (words_nil.2 k)
    have HH : Hid (∀ (A : Option Addr) (w1 : World), lines.Strs w1 A (wordsS s) → ∃ b o x, A = some ⟨b, o, none⟩ ∧ w1.cell? ⟨b, o, none⟩ = some (.string x) ∧ Lib.hasPrefix x.data.toList [35] = decide (((wds [] (L s)).headD []).take 1 = [35])) := by
      intro A w1 h
      obtain ⟨b, o, e, hb, hc⟩ := h h0
      refine ⟨b, o, _, e, hc 0 hl, ?_⟩
      rw [pre_is, words_head hl]
    obtain ⟨z, M, hmin, hsl, hM⟩ : ∃ (z : Int) (M : ByteArray), (∀ ts t W, (Builtin.min_ ts t #[.int .i64 2, .int .i64 (s.size : Nat)]).run Tryz.prog W = .ok (.int .i64 z) W) ∧ (∀ W, (Instr.slice 9 (.string s) none (some (.int .i64 z)) none).run Tryz.prog W = .ok (.string M) W) ∧ L M = (L s).take 2 := by
      refine ⟨((min 2 s.size : Nat) : Int), _, fun ts t W => ?_, fun W => to_run W s (min 2 s.size) _ rfl (by omega), ?_⟩
      · rw [run_min_int2]
        congr 2
        split <;> omega
      · rw [mark_is s _ rfl, L_B]
    have n0 : (((wordsS s).length : Int) == 0) = false := by simp; omega
    have E : Hid (kd (L s) = if (L s).take 2 = [35, 36] then 1 else if (L s).take 2 = [35, 64] then 2 else if (L s).take 2 = [35, 104] then 3 else if ((wds [] (L s)).headD []).take 1 = [35] then 4 else 5) := by
      show _ = _
      unfold kd
      rw [if_neg hw0]
    have HP := Lib.hid (fun x W => Tryz.strings_HasPrefix x ⟨#[35]⟩ W)
    rw [← hM] at E
    generalize kd (L s) = K at *
    generalize (wds [] (L s)).headD [] = X at *
    have e1 : (M.toList == [35, 36]) = decide (L M = [35, 36]) := tl_is _ _
    have e2 : (M.toList == [35, 64]) = decide (L M = [35, 64]) := tl_is _ _
    have e3 : (M.toList == [35, 104]) = decide (L M = [35, 104]) := tl_is _ _
    have MK : ∀ n : Nat, L M = L (kS n) → M = kS n := fun n h => L_inj h
    clear h0 hw0 hM
    by_cases q1 : L M = [35, 36]
    · obtain rfl : K = 1 := by rw [E.out, if_pos q1]
      clear E
      obtain rfl := MK 1 q1
      clear MK e1 e2 e3 q1
      unfold kS at hsl
      generalize (wordsS s).length = n at *
      go_enter Tryz.func34, Tryz.ntmps34
      go_wp2_with (go_at_call 57; with_reducible refine C.out.mono ?_; rintro e w1 ⟨A, c, rfl, hS, hc, hb1⟩)
      go_ret
      exact ⟨rfl, hb1⟩
    by_cases q2 : L M = [35, 64]
    · obtain rfl : K = 2 := by rw [E.out, if_neg q1, if_pos q2]
      clear E
      obtain rfl := MK 2 q2
      clear MK e1 e2 e3 q1 q2
      unfold kS at hsl
      generalize (wordsS s).length = n at *
      go_enter Tryz.func34, Tryz.ntmps34
      go_wp2_with (go_at_call 57; with_reducible refine C.out.mono ?_; rintro e w1 ⟨A, c, rfl, hS, hc, hb1⟩)
      go_ret
      exact ⟨rfl, hb1⟩
    by_cases q3 : L M = [35, 104]
    · obtain rfl : K = 3 := by rw [E.out, if_neg q1, if_neg q2, if_pos q3]
      clear E
      obtain rfl := MK 3 q3
      clear MK e1 e2 e3 q1 q2 q3
      unfold kS at hsl
      generalize (wordsS s).length = n at *
      go_enter Tryz.func34, Tryz.ntmps34
      go_wp2_with (go_at_call 57; with_reducible refine C.out.mono ?_; rintro e w1 ⟨A, c, rfl, hS, hc, hb1⟩)
      go_ret
      exact ⟨rfl, hb1⟩
    have E2 : Hid (K = if X.take 1 = [35] then 4 else 5) := by
      show _ = _
      rw [E.out, if_neg q1, if_neg q2, if_neg q3]
    rw [decide_eq_false q1] at e1
    rw [decide_eq_false q2] at e2
    rw [decide_eq_false q3] at e3
    clear MK q1 q2 q3 E
    by_cases q : X.take 1 = [35]
    · obtain rfl : K = 4 := by rw [E2.out, if_pos q]
      clear E2
      rw [decide_eq_true q] at HH
      clear q
      have hl := hl
      clear hs hz
      generalize (wordsS s).length = n at *
      go_enter Tryz.func34, Tryz.ntmps34
      go_wp2_with (first
        | (go_at_call 57; with_reducible refine C.out.mono ?_; rintro e w1 ⟨A, c, rfl, hS, hc, hb1⟩; obtain ⟨b, o, x, rfl, hcell, hpre⟩ := HH.out _ _ hS; have HPx := Lib.hid (HP.out x); rw [hpre] at HPx; clear hpre hS hc)
        | (go_at_call 58; with_reducible refine (HPx.out _).mono ?_; rintro e w2 ⟨rfl, rfl⟩))
      go_ret
      exact ⟨rfl, hb1⟩
    · obtain rfl : K = 5 := by rw [E2.out, if_neg q]
      clear E2
      rw [decide_eq_false q] at HH
      clear q
      have hl := hl
      clear hs hz
      generalize (wordsS s).length = n at *
      go_enter Tryz.func34, Tryz.ntmps34
      go_wp2_with (first
        | (go_at_call 57; with_reducible refine C.out.mono ?_; rintro e w1 ⟨A, c, rfl, hS, hc, hb1⟩; obtain ⟨b, o, x, rfl, hcell, hpre⟩ := HH.out _ _ hS; have HPx := Lib.hid (HP.out x); rw [hpre] at HPx; clear hpre hS hc)
        | (go_at_call 58; with_reducible refine (HPx.out _).mono ?_; rintro e w2 ⟨rfl, rfl⟩))
      go_ret
      exact ⟨rfl, hb1⟩
end Go.Proofs.YtldieebiicblbaaGreatDoor.list

/-
  What list.read answers: the words and numbers of a stamp, an expiry or data, in new memory, where it is right; nothing of other kinds. Conditions: the library's variable MaxLen holds some number; the line has fewer than 2^32 - 15 bytes.
-/
namespace Go.Proofs.YtldieebiicblbaaGreatDoor.list
open Go.ChangeShapes Go.WideShapes Go.ChangeAt Go.RowKit
open lx ls mem
set_option linter.unusedVariables false
set_option maxRecDepth 100000

/-! what stands ahead of the first '#' -/
theorem occ_hash (l : List UInt8) (j : Nat) : Lib.occAt l [35] j = decide (l[j]? = some 35) := by
  unfold Lib.occAt
  by_cases h : j < l.length
  · rw [List.drop_eq_getElem_cons h, List.getElem?_eq_getElem h]
    generalize l[j] = c
    by_cases e : c = 35
    · subst e; simp
    · rw [List.isPrefixOf_cons_cons, beq_eq_false_iff_ne.2 (fun k => e k.symm), Bool.false_and, decide_eq_false (fun k => e (Option.some.inj k))]
  · rw [List.drop_of_length_le (by omega), List.getElem?_eq_none (by omega)]
    simp
theorem ahd_hit {s : ByteArray} {i : Nat} (h : Hit s ⟨#[35]⟩ i) : ahd (L s) = L (s.extract 0 i) := by
  have e := congrArg L (hit_parts h)
  rw [L_app, L_app, show L ⟨#[35]⟩ = [35] from rfl] at e
  have no : ∀ c ∈ L (s.extract 0 i), decide (c ≠ 35) = true := by
    intro c hc
    rw [decide_eq_true_eq]
    intro k
    subst k
    obtain ⟨j, hj, he⟩ := List.getElem_of_mem hc
    have h1 : j < i := by rw [L_ext] at hj; simp at hj; omega
    have := h.2.2.2 j h1
    rw [show L ⟨#[35]⟩ = [35] from rfl, occ_hash] at this
    have k := of_decide_eq_false this
    apply k
    rw [← e, List.append_assoc, List.getElem?_append_left hj, List.getElem?_eq_getElem hj, he]
  unfold ahd
  rw [← e, List.append_assoc, List.takeWhile_append_of_pos no, List.singleton_append, List.takeWhile_cons_of_neg (by decide), List.append_nil]
theorem ahd_miss {s : ByteArray} (h : Miss s ⟨#[35]⟩) : ahd (L s) = L s := by
  unfold ahd
  have h := h
  suffices no : ∀ c ∈ L s, decide (c ≠ 35) = true by
    have := List.takeWhile_append_of_pos (l₂ := []) no
    rw [List.append_nil, List.takeWhile_nil, List.append_nil] at this
    exact this
  intro c hc
  rw [decide_eq_true_eq]
  intro k
  subst k
  obtain ⟨j, hj, he⟩ := List.getElem_of_mem hc
  rcases h with h | h
  · cases h
  · have := h j (by have : (L s).length = s.size := rfl; omega)
    rw [show L ⟨#[35]⟩ = [35] from rfl, occ_hash] at this
    apply of_decide_eq_false this
    rw [List.getElem?_eq_getElem hj, he]
theorem cut_any {w : World} (T : lines.ML w) (s : ByteArray) (hs : s.size < 4294967281) :
    Calls Tryz.prog 59 #[.string s, .string ⟨#[35]⟩] w fun e w' => ∃ Z f, e = .returned (.tuple #[.string (B (ahd (L s))), .string Z, .bool f]) ∧ Below w.heap.size w w' := by
  rcases hit_or s ⟨#[35]⟩ with hm | ⟨i, hi⟩
  · refine (lines.cut_miss T w (Below.refl _ _) s ⟨#[35]⟩ hs hm).mono ?_
    rintro e w' ⟨rfl, hb⟩
    rw [ahd_miss hm, B_L]
    exact ⟨_, _, rfl, hb⟩
  · refine (lines.cut_hit T w (Below.refl _ _) s ⟨#[35]⟩ i hs hi).mono ?_
    rintro e w' ⟨rfl, hb⟩
    rw [ahd_hit hi, B_L]
    exact ⟨_, _, rfl, hb⟩

/-! rows of numbers of the call's own -/
/-- a slice that reads as a row of numbers. -/
def Ints (w : World) (A : Option Addr) (l : List Int) : Prop :=
  l ≠ [] → ∃ b o, A = some ⟨b, o, none⟩ ∧ b < w.heap.size ∧ ∀ k (h : k < l.length), w.cell? ⟨b, o + k, none⟩ = some (.int .i64 l[k])
theorem Ints.of_own {w : World} {base : Nat} {v : Value} {l : List Int} (h : w.ownsRow base 3 1 v l.length (l.map (Value.int .i64))) :
    ∃ A c, v = .slice A l.length c ∧ Ints w A l := by
  have h0 := h
  rcases h.2 with ⟨rfl, hn⟩ | ⟨g, cap, cur, rfl, hb, hh, hnc, _⟩
  · rw [hn]
    exact ⟨none, 0, rfl, fun hl => absurd (List.eq_nil_of_length_eq_zero hn) hl⟩
  · refine ⟨_, _, rfl, fun hl => ⟨g, 0, rfl, ?_, fun k hk => ?_⟩⟩
    · rcases Nat.lt_or_ge g w.heap.size with k | k
      · exact k
      · rw [Array.getElem?_eq_none k] at hh
        cases hh
    · rw [Nat.zero_add, h0.cellAt k (by omega), List.getElem?_map, List.getElem?_eq_getElem hk]
      rfl
theorem infoI : (Tryz.prog.info? 3).map (fun i => (i.zero, i.size, i.bytes)) = some (some (.int .i64 0), 1, 8) := by kernel_rfl
theorem ints_one (l : List Int) : ∀ u ∈ l.map (Value.int .i64), u.oneCell' = true := by
  intro u hu
  obtain ⟨x, _, rfl⟩ := List.mem_map.1 hu
  rfl
/-- 'numbers = append(numbers, y)', numbers a row of the call's own. -/
theorem app_int {ops : Array Oper} {rest : List Oper} {o : Oper} {a : Act} {Q : Exit → Act → World → Prop} (hgd : o.guard = none) (s x : Operand)
    (ho : o.op = .call { callee := .builtin .append, args := #[s, x], argTypes := #[71, 71] }) (base : Nat) (W : World) (v : Value) (ls : List Int) (y : Int)
    (hs : a.eval s = v) (hx : a.eval x = .slice (some ⟨W.heap.size, 0, none⟩) 1 1) (hown : W.ownsRow base 3 1 v ls.length (ls.map (Value.int .i64))) (hn : ls.length < 8000000000000) (hbase : base ≤ W.heap.size)
    (h : ∀ v' w', w'.ownsRow base 3 1 v' (ls ++ [y]).length ((ls ++ [y]).map (Value.int .i64)) → W.grownBy w' v.ownBlock → wpList Tryz.prog ops Q rest (a.put o.dst v') w') :
    wpList Tryz.prog ops Q (o :: rest) a (W.alloc (.cells #[.int .i64 y] 3)) := by
  obtain ⟨i0, hi, hz0, hz1, hz2⟩ := info_parts infoI
  refine wpList_append_own _ hgd s x 71 ho base 3 i0 _ 1 8 Tryz.underlying71 hi hz0 hz1 hz2 rfl (by decide) v ls.length (ls.map (Value.int .i64)) hs (hown.alloc _) ⟨W.heap.size, 0, none⟩ 1 1 [.int .i64 y] hx rfl (cell_one_new _ _ _) (ints_one [y]) ?_ (by omega) (by simp; omega) ?_
  · unfold maxLen; omega
  · intro v' w' h1 h2 _
    refine h v' w' ?_ ((World.grownBy_alloc W _ _).trans h2)
    simpa using h1

/-! read -/
def wsB (k : Nat) (l : List UInt8) : List ByteArray := (ws k l).map B
def nums (X : List ByteArray) : List Int := X.map fun y => nmI (L y)
theorem nums_len (X : List ByteArray) : (nums X).length = X.length := by simp [nums]
def Kind (k : Nat) : Prop := k = 1 ∨ k = 2 ∨ k = 5
/-- what read answers. -/
def RTold (k : Nat) (l : List UInt8) (w : World) (e : Ending) (w' : World) : Prop :=
  Below w.heap.size w w' ∧ ((Kind k ∧ rk k l = true ∧ ∃ A c M m, e = .returned (.tuple #[.slice A (wsB k l).length c, .slice M (wsB k l).length m, .bool true]) ∧ lines.Strs w' A (wsB k l) ∧ Ints w' M (nums (wsB k l)) ∧ ∀ b o, A = some ⟨b, o, none⟩ → w.heap.size ≤ b) ∨
    (¬ (Kind k ∧ rk k l = true) ∧ e = .returned (.tuple #[.slice none 0 0, .slice none 0 0, .bool false])))
/-- at the head of a round. -/
def RHead (X : List ByteArray) (W0 : World) (v i : Value) (W : World) : Prop :=
  ∃ (k : Nat) (x : Value), i = .int .i64 (k : Nat) ∧ x = v ∧ k ≤ X.length ∧ W.ownsRow W0.heap.size 3 1 v ((nums X).take k).length (((nums X).take k).map (Value.int .i64)) ∧ Below W0.heap.size W0 W ∧ ∀ j (h : j < X.length), j < k → nmT (L X[j]) = true
theorem rk_no_len {k : Nat} {l : List UInt8} (h : (wsB k l).length ≠ cn k) : rk k l = false := by
  unfold rk
  unfold wsB at h
  rw [List.length_map] at h
  rw [decide_eq_false h, Bool.false_and]
theorem rk_no {k : Nat} {l : List UInt8} {j : Nat} (hj : j < (wsB k l).length) (h : nmT (L ((wsB k l)[j])) = false) : rk k l = false := by
  unfold rk
  rw [Bool.and_eq_false_iff]
  right
  unfold wsB at hj h
  rw [List.getElem_map, L_B] at h
  rw [List.all_eq_false]
  exact ⟨_, List.getElem_mem _, by rw [h]; decide⟩
theorem rk_yes {k : Nat} {l : List UInt8} (hn : (wsB k l).length = cn k) (h : ∀ j (hj : j < (wsB k l).length), nmT (L ((wsB k l)[j])) = true) : rk k l = true := by
  unfold rk
  have hn' : (ws k l).length = cn k := by unfold wsB at hn; rw [List.length_map] at hn; exact hn
  rw [decide_eq_true hn', Bool.true_and, List.all_eq_true]
  intro x hx
  obtain ⟨j, hj, rfl⟩ := List.getElem_of_mem hx
  have := h j (by unfold wsB; rw [List.length_map]; exact hj)
  unfold wsB at this
  rw [List.getElem_map, L_B] at this
  exact this
theorem word_size {Y x : ByteArray} (h : x ∈ wordsS Y) : x.size ≤ Y.size := by
  obtain ⟨k, hk⟩ := List.mem_iff_getElem?.1 h
  exact ntp.wat_size hk
theorem nums_step (X : List ByteArray) (k : Nat) (h : k < X.length) : (nums X).take k ++ [nmI (L X[k])] = (nums X).take (k + 1) := by
  rw [List.take_succ_eq_append_getElem (by rw [nums_len]; exact h)]
  unfold nums
  rw [List.getElem_map]
theorem rhead_step {X : List ByteArray} {W0 W W1 W2 : World} {v v' : Value} {k : Nat} {x : ByteArray} (h : k < X.length) (hx : X[k] = x) (hok : ∀ j (h : j < X.length), j < k → nmT (L X[j]) = true) (hn : nmT (L x) = true)
    (ho : W.ownsRow W0.heap.size 3 1 v ((nums X).take k).length (((nums X).take k).map (Value.int .i64))) (hb : Below W0.heap.size W0 W) (hb1 : Below W.heap.size W W1)
    (ho' : W2.ownsRow W0.heap.size 3 1 v' ((nums X).take k ++ [nmI (L x)]).length (((nums X).take k ++ [nmI (L x)]).map (Value.int .i64))) (hg : W1.grownBy W2 v.ownBlock) : RHead X W0 v' (.int .i64 ((k : Int) + 1)) W2 := by
  subst hx
  rw [nums_step X k h] at ho'
  refine ⟨k + 1, v', rfl, rfl, h, ho', (btr hb hb1).grown hg ((btr hb hb1).size) fun j hj => (ho.lt j hj).1, fun j hj hjk => ?_⟩
  rcases Nat.eq_or_lt_of_le (Nat.le_of_lt_succ hjk) with rfl | g
  · exact hn
  · exact hok j hj g
theorem rtold_yes {k : Nat} {l : List UInt8} {w W0 W : World} {A : Option Addr} {c : Nat} {v : Value} (hk : Kind k) (hn : (wsB k l).length = cn k) (hw : Below w.heap.size w W0) (hf : ∀ b o, A = some ⟨b, o, none⟩ → w.heap.size ≤ b) (hS : lines.Strs W0 A (wsB k l)) (hb : Below W0.heap.size W0 W)
    (ho : W.ownsRow W0.heap.size 3 1 v ((nums (wsB k l)).take (wsB k l).length).length (((nums (wsB k l)).take (wsB k l).length).map (Value.int .i64))) (hok : ∀ j (h : j < (wsB k l).length), j < (wsB k l).length → nmT (L (wsB k l)[j]) = true) :
    RTold k l w (.returned (.tuple #[.slice A (wsB k l).length c, v, .bool true])) W := by
  rw [List.take_of_length_le (by rw [nums_len]; exact Nat.le_refl _)] at ho
  obtain ⟨M, m, rfl, hI⟩ := Ints.of_own ho
  rw [nums_len]
  exact ⟨btr hw hb, .inl ⟨hk, rk_yes hn (fun j h => hok j h h), A, c, M, m, rfl, hS.below hb, hI, hf⟩⟩
theorem rtold_no {k : Nat} {l : List UInt8} {w W : World} (h : rk k l = false) (hb : Below w.heap.size w W) : RTold k l w (.returned (.tuple #[.slice none 0 0, .slice none 0 0, .bool false])) W :=
  ⟨hb, .inr ⟨fun g => by rw [h] at g; exact absurd g.2 (by decide), rfl⟩⟩
theorem Kind.cn {k : Nat} (h : Kind k) : cn k = 1 ∨ cn k = 2 := by
  rcases h with rfl | rfl | rfl
  · exact .inl rfl
  · exact .inl rfl
  · exact .inr rfl
set_option maxHeartbeats 4000000 in
theorem read_at (k : Nat) (s : ByteArray) (w : World) (T : lines.ML w) (hk : k ≤ 5) (h2 : k = 1 ∨ k = 2 → 2 ≤ s.size) (hs : s.size < 4294967281) : Calls Tryz.prog 35 #[.string (kS k), .string s] w (RTold k (L s) w) := by
  by_cases hK : Kind k
  · -- the text whose words are asked
    have CU : Hid (Calls Tryz.prog 59 #[.string s, .string ⟨#[35]⟩] w fun e w' => ∃ Z f, e = .returned (.tuple #[.string (B (ahd (L s))), .string Z, .bool f]) ∧ Below w.heap.size w w') := cut_any T s hs
    have hY : ∀ (k : Nat), (B (sd k (L s))).size < 4294967281 := by
      intro k
      rw [B_size]
      unfold sd
      have hl : (L s).length = s.size := rfl
      split
      · unfold ahd
        have := (List.takeWhile_sublist (l := L s) (fun c => decide (c ≠ 35))).length_le
        omega
      · rw [List.length_drop]; omega
    have WO := Lib.hid (fun k W => lines.words_at (B (sd k (L s))) W (hY k))
    have hX : ∀ k, wordsS (B (sd k (L s))) = wsB k (L s) := fun k => by unfold wsB ws wordsS; rw [L_B]
    unfold lines.Told at WO
    simp only [hX] at WO
    have hWS := Lib.hid (fun k x (hx : x ∈ wsB k (L s)) => (show x.size < 4294967281 from by rw [← hX] at hx; have := word_size hx; have := hY k; omega))
    have hsl : 2 ≤ s.size → ∀ k, k ≠ 5 → ∀ W, (Instr.slice 9 (.string s) (some (.int .i64 2)) none none).run Tryz.prog W = .ok (.string (B (sd k (L s)))) W := fun h k hk W => by
      rw [lines.sl_from W s 2 2 rfl h, ext_B, List.take_of_length_le (by rw [List.length_drop]; exact Nat.le_refl _)]
      unfold sd
      rw [if_neg hk]
    have HE := Lib.hid hX
    clear hX hY T
    have hkk := hK
    by_cases hn : (wsB k (L s)).length = cn k
    · have RY := Lib.hid (fun W0 W A c v hw hf hS hb ho hok => rtold_yes (w := w) (W0 := W0) (W := W) (A := A) (c := c) (v := v) hkk hn hw hf hS hb ho hok)
      have RN := Lib.hid (fun (j : Nat) (hj : j < (wsB k (L s)).length) (h : nmT (L ((wsB k (L s))[j])) = false) (W : World) (hb : Below w.heap.size w W) => rtold_no (rk_no hj h) hb)
      have W1 := Lib.hid (WO.out k)
      have S1 := Lib.hid (fun x hx => hWS.out k x hx)
      have hn2 : (wsB k (L s)).length ≤ 2 := by rw [hn]; rcases hkk.cn with h | h <;> omega
      clear WO hWS HE
      have SL := Lib.hid hsl
      clear hsl
      unfold Kind at hK
      rcases hK with rfl | rfl | rfl
      have hsl := SL.out (h2 (by simp)) 1 (by decide)
      have t1 : (((wsB 1 (L s)).length : Int) != 1) = false := by rw [hn]; rfl
      rw [show kS 1 = ⟨#[35, 36]⟩ from rfl]
      clear SL h2 CU hn
      generalize B (sd 1 (L s)) = Y at *
      generalize wsB 1 (L s) = X at *
      go_enter Tryz.func35, Tryz.ntmps35
      go_wp2_with (go_at_call 57; with_reducible refine (W1.out _).mono ?_; rintro e W0 ⟨A, c, rfl, hS, ⟨hc, hf⟩, hb1⟩; have HF := Lib.hid hf; clear hf)
      rotate_left
      have hsl := SL.out (h2 (by simp)) 2 (by decide)
      have t1 : (((wsB 2 (L s)).length : Int) != 1) = false := by rw [hn]; rfl
      rw [show kS 2 = ⟨#[35, 64]⟩ from rfl]
      clear SL h2 CU hn
      generalize B (sd 2 (L s)) = Y at *
      generalize wsB 2 (L s) = X at *
      go_enter Tryz.func35, Tryz.ntmps35
      go_wp2_with (go_at_call 57; with_reducible refine (W1.out _).mono ?_; rintro e W0 ⟨A, c, rfl, hS, ⟨hc, hf⟩, hb1⟩; have HF := Lib.hid hf; clear hf)
      rotate_left
      have t1 : (((wsB 5 (L s)).length : Int) != 2) = false := by rw [hn]; rfl
      rw [show kS 5 = ⟨#[100, 97, 116, 97]⟩ from rfl]
      rw [show ahd (L s) = sd 5 (L s) from rfl] at CU
      clear SL h2 hn
      generalize B (sd 5 (L s)) = Y at *
      generalize wsB 5 (L s) = X at *
      go_enter Tryz.func35, Tryz.ntmps35
      go_wp2_with (first
        | (go_at_call 59; with_reducible refine CU.out.mono ?_; rintro e w5 ⟨Z, f, rfl, hb5⟩)
        | (go_at_call 57; with_reducible refine (W1.out _).mono ?_; rintro e W0 ⟨A, c, rfl, hS, ⟨hc, hf⟩, hb6⟩; have HF := Lib.hid (fun b o e => Nat.le_trans hb5.size (hf b o e)); clear hf; have hb1 := btr hb5 hb6))
      rotate_left
      all_goals
        go_loopw [10, 40] (fun v i W => RHead X W0 v i W) (fun _ i _ => X.length - (intOf i).toNat)
        case atStart => exact ⟨0, _, rfl, rfl, Nat.zero_le _, World.ownsRow_nil _ _ _ _, Below.refl _ _, fun j _ h => by omega⟩
        case round =>
          obtain ⟨k, v, rfl, rfl, hkn, ho, hb, hok⟩ := hrel
          by_cases hlt : k < X.length
          · obtain ⟨b, o, rfl, hbl, hcell⟩ := hS (by intro e; rw [e] at hlt; simp at hlt)
            have c0 : wr.cell? ⟨b, o + k, none⟩ = some (.string (X[k]'hlt)) := (hb.cell (p := ⟨b, o + k, none⟩) hbl).trans (hcell k hlt)
            have NB := Lib.hid (lines.number_at (X[k]'hlt) wr (S1.out _ (List.getElem_mem hlt)))
            unfold lines.NTold at NB
            have RK := Lib.hid (RN.out k hlt)
            obtain ⟨x, hxk⟩ : ∃ x, X[k]'hlt = x := ⟨_, rfl⟩
            rw [hxk] at c0 NB RK
            cases hq : nmT (L x) with
            | true =>
              rw [hq] at NB
              have ST := Lib.hid (fun W1 W2 v' hb1 ho' hg => rhead_step (v := v) (v' := v') (W1 := W1) (W2 := W2) hlt hxk hok hq ho hb hb1 ho' hg)
              have HO := Lib.hid (fun W1 (hb1 : Below wr.heap.size wr W1) => ntp.own_keep ho hb1)
              have hsz := hb.size
              have d1 : decide ((k : Int) < (X.length : Int)) = true := by simp; omega
              have d2 : decide (k < X.length) = true := by simp; omega
              have hll : ((nums X).take k).length < 8000000000000 := by rw [List.length_take, nums_len]; omega
              clear RY RN W1 S1 RK hS hc hcell hok ho hq hxk
              generalize nmI (L x) = a at *
              go_wp2_with (first
                | (go_at_call 60; (with_reducible refine NB.out.mono ?_); rintro e w2 ⟨rfl, hb2⟩; have HO2 := Lib.hid (HO.out _ hb2); have hsz2 := Nat.le_trans hsz hb2.size)
                | (at_builtin; refine app_int rfl _ _ rfl W0.heap.size w2 v ((nums X).take k) a rfl rfl HO2.out hll hsz2 ?_; intro v' w3 ho' hg))
              go_roundw
              case rel => exact ST.out _ _ _ hb2 ho' hg
              case measure => simp [intOf]; omega
            | false =>
              rw [hq] at NB
              have RK := Lib.hid (RK.out hq)
              clear RY RN W1 S1 hS hc hcell hok ho hq hxk
              generalize nmI (L x) = a at *
              go_wp2_with (go_at_call 60; (with_reducible refine NB.out.mono ?_); rintro e w2 ⟨rfl, hb2⟩)
              go_ret3
              exact RK.out _ (btr hb1 (btr hb hb2))
          · obtain rfl : k = X.length := by omega
            have R := Lib.hid (RY.out W0 wr A c v hb1 HF.out hS hb ho hok)
            clear RY RN W1 S1 hS hc hok ho
            go_wp2
            go_ret3
            exact R.out
    · have RN := Lib.hid (fun W (hb : Below w.heap.size w W) => rtold_no (rk_no_len hn) hb)
      have W1 := Lib.hid (WO.out k)
      clear WO hWS HE
      have SL := Lib.hid hsl
      clear hsl
      unfold Kind at hK
      rcases hK with rfl | rfl | rfl
      · have hsl := SL.out (h2 (by simp)) 1 (by decide)
        have t1 : (((wsB 1 (L s)).length : Int) != 1) = true := by simp; have : cn 1 = 1 := rfl; omega
        rw [show kS 1 = ⟨#[35, 36]⟩ from rfl]
        clear SL h2 CU hn
        generalize B (sd 1 (L s)) = Y at *
        generalize wsB 1 (L s) = X at *
        go_enter Tryz.func35, Tryz.ntmps35
        go_wp2_with (go_at_call 57; with_reducible refine (W1.out _).mono ?_; rintro e W0 ⟨A, c, rfl, hS, hc, hb1⟩)
        go_ret3
        exact RN.out _ hb1
      · have hsl := SL.out (h2 (by simp)) 2 (by decide)
        have t1 : (((wsB 2 (L s)).length : Int) != 1) = true := by simp; have : cn 2 = 1 := rfl; omega
        rw [show kS 2 = ⟨#[35, 64]⟩ from rfl]
        clear SL h2 CU hn
        generalize B (sd 2 (L s)) = Y at *
        generalize wsB 2 (L s) = X at *
        go_enter Tryz.func35, Tryz.ntmps35
        go_wp2_with (go_at_call 57; with_reducible refine (W1.out _).mono ?_; rintro e W0 ⟨A, c, rfl, hS, hc, hb1⟩)
        go_ret3
        exact RN.out _ hb1
      · have t1 : (((wsB 5 (L s)).length : Int) != 2) = true := by simp; have : cn 5 = 2 := rfl; omega
        rw [show kS 5 = ⟨#[100, 97, 116, 97]⟩ from rfl]
        rw [show ahd (L s) = sd 5 (L s) from rfl] at CU
        clear SL h2 hn
        generalize B (sd 5 (L s)) = Y at *
        generalize wsB 5 (L s) = X at *
        go_enter Tryz.func35, Tryz.ntmps35
        go_wp2_with (first
          | (go_at_call 59; with_reducible refine CU.out.mono ?_; rintro e w5 ⟨Z, f, rfl, hb5⟩)
          | (go_at_call 57; with_reducible refine (W1.out _).mono ?_; rintro e W0 ⟨A, c, rfl, hS, hc, hb6⟩))
        go_ret3
        exact RN.out _ (btr hb5 hb6)
  · have R : Hid (∀ W, Below w.heap.size w W → RTold k (L s) w (.returned (.tuple #[.slice none 0 0, .slice none 0 0, .bool false])) W) := fun W hb => ⟨hb, .inr ⟨fun h => hK h.1, rfl⟩⟩
    have hk3 : k = 0 ∨ k = 3 ∨ k = 4 := by unfold Kind at hK; omega
    clear hK h2
    rcases hk3 with rfl | rfl | rfl
    all_goals
      unfold kS
      go_enter Tryz.func35, Tryz.ntmps35
      go_wp2
      go_ret3
      exact R.out _ (Below.refl _ _)
end Go.Proofs.YtldieebiicblbaaGreatDoor.list
