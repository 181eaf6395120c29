/-
  What ntp's Hash answers: the five numbers of a text of five words, or noughts and false. Condition: the text has fewer than 2^32 - 15 bytes.
-/
import Derived.Test.YtldieebiicblbaaGreatDoorG10
import Derived.Test.YtldieebiicblbaaGreatDoorG09
import Derived.Lib.SlBytesConst
import Derived.Lib.SmallJoins
import Derived.Test.YtldieebiicblbaaGreatDoorRows
import Derived.WalkKit
import Derived.ProofKit
import Derived.OpenShut
import Derived.Carry
import Derived.Deep.Matrix
import Derived.LaidMore
import Derived.Lib.LaidTab
import Derived.Deep.Strs
import Derived.Stop.Joined
import Derived.Lib.QuietBelow
namespace Go.Proofs.YtldieebiicblbaaGreatDoor.ntp
open Go.ChangeShapes Go.WideShapes Go.ChangeAt Go.RowKit
open lx nx sx
open sha (upto upto_set upto_all upto_zero hp_new hp_old row_cell row_set szc sz5 kept bal btr bel_setRow)
set_option linter.unusedVariables false
set_option maxRecDepth 100000

/-- 'return x, ok', x an array. -/
theorem end_pair {fn : Func} {R : Ending → World → Prop} {p q : Tmp} {ty : TypeId} (hr : fn.results = #[.cell p ty, .tmp q]) (a : Act) (w : World) (g : Nat) (t : TypeId) (c : Array Value) (n : Nat) (e : TypeId) (v : Value)
    (hp : a.tmps.getD p undef = .pointer (some ⟨g, 0, none⟩)) (hq : a.tmps.getD q undef = v) (hg : w.heap[g]? = some (.cells c t (0, 0))) (hu : Tryz.prog.underlying ty = some (.array n e))
    (hi : (Tryz.prog.info? ty).map (·.size) = some c.size) (hdf : a.defers = []) (h : R (.returned (.tuple #[.agg c, v])) w) : bodyPost Tryz.prog fn R .ret a w := by
  refine bodyPost_ret (v := .tuple #[.agg c, v]) ?_ hdf h
  have hp' : a.tmps[p]?.getD undef = .pointer (some ⟨g, 0, none⟩) := by simpa using hp
  have hq' : a.tmps[q]?.getD undef = v := by simpa using hq
  simp [results, hr, hp', hq', asAddr, run_loadVar_row w g t ty c (0, 0) _ hg hu rfl hi]
def z5 : Array Value := #[.int .u32 0, .int .u32 0, .int .u32 0, .int .u32 0, .int .u32 0]
theorem z5_cs : z5 = cs .u32 (fun _ => 0) 5 := rfl
def HTold (s : ByteArray) (w : World) (e : Ending) (w' : World) : Prop := e = .returned (.tuple #[.agg (cs .u32 (hN s) 5), .bool (hT s)]) ∧ Below w.heap.size w w'
theorem htold_no {s : ByteArray} {w W : World} (h : hT s = false) (hb : Below w.heap.size w W) : HTold s w (.returned (.tuple #[.agg z5, .bool false])) W := by
  refine ⟨?_, hb⟩
  rw [h, cs_congr .u32 (hN s) (fun _ => 0) 5 (fun j _ => hN_no h j)]
  rfl
theorem htold_yes {s : ByteArray} {w W : World} (h : hT s = true) (hb : Below w.heap.size w W) : HTold s w (.returned (.tuple #[.agg (cs .u32 (fun k => wN (wat s k)) 5), .bool true])) W := by
  refine ⟨?_, hb⟩
  rw [h, cs_congr .u32 (hN s) (fun k => wN (wat s k)) 5 (fun j _ => hN_yes h j)]
/-- at the head of a round. -/
def HHead (s : ByteArray) (A : Option Addr) (w : World) (t : Value) (W : World) : Prop :=
  ∃ k : Nat, t = .int .i64 k ∧ k ≤ 5 ∧ W.heap[w.heap.size]? = some (.cells z5 43) ∧ W.heap[w.heap.size + 1]? = some (.cells (cs .u32 (upto (fun k => wN (wat s k)) k) 5) 43) ∧ lines.Strs W A (wordsS s) ∧ (∀ j, j < k → wT (wat s j) = true) ∧ Below w.heap.size w W
theorem hhead_start {s : ByteArray} {A : Option Addr} {w w1 : World} (hb : Below ((w.alloc (.cells z5 43)).alloc (.cells z5 43)).heap.size ((w.alloc (.cells z5 43)).alloc (.cells z5 43)) w1) (hs : lines.Strs w1 A (wordsS s)) : HHead s A w (.int .i64 0) w1 := by
  refine ⟨0, rfl, by omega, kept (hp_old (hp_new w _) _) hb, ?_, hs, (fun j hj => by omega), ?_⟩
  · rw [upto_zero, ← z5_cs]
    refine kept ?_ hb
    have := hp_new (w.alloc (.cells z5 43)) (.cells z5 43)
    rw [show (w.alloc (.cells z5 43)).heap.size = w.heap.size + 1 by simp] at this
    exact this
  · exact btr (bal (bal (Below.refl _ _) _) _) hb
theorem wat_of {W : World} {A : Option Addr} {s : ByteArray} (h : lines.Strs W A (wordsS s)) (k : Nat) (hk : k < (wordsS s).length) : ∃ b o x, A = some ⟨b, o, none⟩ ∧ b < W.heap.size ∧ W.cell? ⟨b, o + k, none⟩ = some (.string x) ∧ L x = wat s k ∧ (wordsS s)[k]? = some x := by
  obtain ⟨b, o, e, hb, hc⟩ := h (fun e => by rw [e] at hk; simp at hk)
  refine ⟨b, o, _, e, hb, hc k hk, ?_, List.getElem?_eq_getElem hk⟩
  unfold wat
  rw [List.getD_eq_getElem?_getD, List.getElem?_eq_getElem hk]
  rfl
theorem wat_size {s x : ByteArray} {k : Nat} (h : (wordsS s)[k]? = some x) : x.size ≤ s.size := by
  obtain ⟨y, hy, rfl⟩ := List.mem_map.1 (List.mem_of_getElem? h)
  have t := wds_tot (L s) []
  have m : ∀ l : List (List UInt8), y ∈ l → y.length ≤ tot l := by
    intro l
    induction l with
    | nil => intro h; cases h
    | cons a r ih =>
      intro h
      rcases List.mem_cons.1 h with rfl | h
      · rw [tot]; omega
      · rw [tot]; have := ih h; omega
  have := m _ hy
  rw [B_size]
  have z : (L s).length = s.size := rfl
  simp at t
  omega
theorem strs_set {W : World} {A : Option Addr} {l : List ByteArray} {g i : Nat} {v : Value} {f : Nat → Nat} {t : TypeId} (h : lines.Strs W A l) (hg : W.heap[g]? = some (.cells (cs .u32 f 5) t (0, 0))) : lines.Strs (W.setCell ⟨g, i, none⟩ v) A l := by
  intro hl
  obtain ⟨b, o, e, hb, hc⟩ := h hl
  have hne : b ≠ g := by
    rintro rfl
    have h0 := hc 0 (List.length_pos_iff.2 hl)
    rw [cell_of_row W b (o + 0) _ _ _ hg] at h0
    by_cases ho : o + 0 < 5
    · rw [cs_get _ _ _ _ ho] at h0; cases h0
    · rw [Array.getElem?_eq_none (by rw [cs_size]; omega)] at h0; cases h0
  have K := (sha.Keep.refl g W).setCell i v
  exact ⟨b, o, e, Nat.lt_of_lt_of_le hb K.size, fun k hk => K.cell (p := ⟨b, o + k, none⟩) hne (hc k hk)⟩
theorem word_here {s x : ByteArray} {k : Nat} {b : Bool} (ex : L x = wat s k) (ht : wT (wat s k) = b) (hs : x.size ≤ 9223372036854775807) (W : World) :
    Calls Tryz.prog 94 #[.string x] W fun e w' => e = .returned (.tuple #[.int .u32 (wN (wat s k) : Nat), .bool b]) ∧ Below W.heap.size W w' :=
  (word_at x W hs).mono fun e w' ⟨he, hw⟩ => ⟨by rw [he, ex, ht], hw⟩
theorem row_facts {W W' : World} {g : Nat} {f : Nat → Nat} {t : TypeId} {k : Nat} (hg : W.heap[g]? = some (.cells (cs .u32 f 5) t (0, 0))) (hb : Below W.heap.size W W') (hk : k < 5) : W'.cell? ⟨g, k, none⟩ = some (.int .u32 (f k : Nat)) ∧ W'.frozen? ⟨g, k, none⟩ = false :=
  ⟨row_cell (kept hg hb) k _ (cs_get _ _ _ _ hk), frozen_of_row _ _ _ _ _ (kept hg hb)⟩
/-- noughts laid over noughts. -/
theorem zeros_set {W : World} {g : Nat} (h : W.heap[g]? = some (.cells z5 43)) :
    (((((W.setCell ⟨g, 0, none⟩ (.int .u32 0)).setCell ⟨g, 1, none⟩ (.int .u32 0)).setCell ⟨g, 2, none⟩ (.int .u32 0)).setCell ⟨g, 3, none⟩ (.int .u32 0)).setCell ⟨g, 4, none⟩ (.int .u32 0)).heap[g]? = some (.cells z5 43) :=
  row_set (i := 4) (v := .int .u32 0) (row_set (i := 3) (v := .int .u32 0) (row_set (i := 2) (v := .int .u32 0) (row_set (i := 1) (v := .int .u32 0) (row_set (i := 0) (v := .int .u32 0) h))))
theorem zeros_below {w W : World} {g : Nat} (hg : w.heap.size ≤ g) (hb : Below w.heap.size w W) :
    Below w.heap.size w (((((W.setCell ⟨g, 0, none⟩ (.int .u32 0)).setCell ⟨g, 1, none⟩ (.int .u32 0)).setCell ⟨g, 2, none⟩ (.int .u32 0)).setCell ⟨g, 3, none⟩ (.int .u32 0)).setCell ⟨g, 4, none⟩ (.int .u32 0)) :=
  ((((hb.setCell (p := ⟨g, 0, none⟩) hg _).setCell (p := ⟨g, 1, none⟩) hg _).setCell (p := ⟨g, 2, none⟩) hg _).setCell (p := ⟨g, 3, none⟩) hg _).setCell (p := ⟨g, 4, none⟩) hg _
theorem zeros_at {W : World} {g : Nat} (h : W.heap[g]? = some (.cells z5 43)) :
    W.cell? ⟨g, 0, none⟩ = some (.int .u32 0) ∧ W.cell? ⟨g, 1, none⟩ = some (.int .u32 0) ∧ W.cell? ⟨g, 2, none⟩ = some (.int .u32 0) ∧ W.cell? ⟨g, 3, none⟩ = some (.int .u32 0) ∧ W.cell? ⟨g, 4, none⟩ = some (.int .u32 0) ∧ ∀ j, W.frozen? ⟨g, j, none⟩ = false :=
  ⟨row_cell h 0 _ rfl, row_cell h 1 _ rfl, row_cell h 2 _ rfl, row_cell h 3 _ rfl, row_cell h 4 _ rfl, fun j => frozen_of_row _ _ _ _ _ h⟩
set_option maxHeartbeats 2000000 in
theorem hash_at (s : ByteArray) (w : World) (hs : s.size < 4294967281) : Calls Tryz.prog 68 #[.string s] w (HTold s w) := by
  have C := Lib.hid (fun W => lines.words_at s W hs)
  have hwl : (wordsS s).length ≤ s.size := by
    unfold wordsS
    rw [List.length_map]
    have := wds_len (L s) []
    have z : (L s).length = s.size := rfl
    simp at this
    omega
  by_cases h5 : (wordsS s).length = 5
  · go_enter Tryz.func68, Tryz.ntmps68
    go_wp2_with (go_at_call 57; (with_reducible refine (C.out _).mono ?_); rintro e w1 ⟨A, c, rfl, hstr, hcap, hb1⟩; rw [h5]; have H0 := Lib.hid (hhead_start (w := w) hb1 hstr))
    rw [h5] at hcap
    go_loopw [18] (fun t W => HHead s A w t W) (fun t _ => 5 - (intOf t).toNat)
    case atStart => exact H0.out
    case round =>
      obtain ⟨k, rfl, hk, g0, g1, hst, hok, hb⟩ := hrel
      have hbs := hb.size
      by_cases hlt : k < 5
      · obtain ⟨b, o, x, rfl, hblt, cx, ex, ex2⟩ := wat_of hst k (by omega)
        have xs := wat_size ex2
        cases ht : wT (wat s k) with
        | true =>
          have R : Hid (∀ w2, Below wr.heap.size wr w2 → HHead s (some ⟨b, o, none⟩) w (.int .i64 ((k : Int) + 1)) (w2.setCell ⟨w.heap.size + 1, k, none⟩ (.int .u32 (wN (wat s k) : Nat)))) := by
            intro w2 hb2
            have hb3 := btr hb hb2
            refine ⟨k + 1, rfl, by omega, ?_, ?_, strs_set (hst.below hb2) (kept g1 hb2), ?_, hb3.setCell (p := ⟨w.heap.size + 1, k, none⟩) (by show w.heap.size ≤ w.heap.size + 1; omega) _⟩
            · rw [Below.heap_setCell _ _ _ _ (by simp)]; exact kept g0 hb2
            · rw [row_set (kept g1 hb2)]
              congr 2
              exact upto_set .u32 (fun k => wN (wat s k)) k 5 _ rfl
            · intro j hj
              rcases Nat.lt_or_ge j k with h | h
              · exact hok j h
              · obtain rfl : j = k := by omega
                exact ht
          have WD := Lib.hid (word_here ex ht (by omega) wr)
          have G1 := Lib.hid g1
          have hNlt := wN_lt (wat s k)
          clear ex ex2 ht hok g0 g1 hst
          generalize wN (wat s k) = N at *
          go_wp2_with (go_at_call 94; (with_reducible refine WD.out.mono ?_); rintro e w2 ⟨rfl, hb2⟩; obtain ⟨c2, f2⟩ := row_facts G1.out hb2 hlt)
          go_roundw
          case rel => exact R.out _ hb2
          case measure => simp [intOf]; omega
        | false =>
          have R := Lib.hid (fun W' hb' => htold_no (w := w) (W := W') (hT_bad hlt ht) hb')
          have WD := Lib.hid (word_here ex ht (by omega) wr)
          have G0 := Lib.hid g0
          clear ex ex2 ht hok g0 g1 hst
          generalize wN (wat s k) = N at *
          go_wp2_with (go_at_call 94; (with_reducible refine WD.out.mono ?_); rintro e w2 ⟨rfl, hb2⟩; have G2 := Lib.hid (kept G0.out hb2); obtain ⟨c0, c1, c2, c3, c4, fz⟩ := zeros_at G2.out)
          (try simp only [Exit.inBlock, Exit.then])
          refine end_pair rfl _ _ w.heap.size 43 z5 5 42 (.bool false) (by rfl) (by rfl) (zeros_set G2.out) Tryz.underlying43 sz5 (by rfl) (R.out _ (zeros_below (Nat.le_refl _) (btr hb hb2)))
      · obtain rfl : k = 5 := by omega
        have R := Lib.hid (fun W' hb' => htold_yes (w := w) (W := W') ((hT_iff s).2 ⟨h5, hok⟩) hb')
        have G0 := Lib.hid g0
        rw [upto_all] at g1
        have G1 := Lib.hid g1
        clear hok g0 g1 hst
        go_wp2_with (first
          | (refine wpList_load_row rfl 43 (.tmp 4) rfl (w.heap.size + 1) rfl _ _ _ _ G1.out Tryz.underlying43 rfl (szc sz5 _ _) ?_)
          | (refine wpList_store_row rfl 43 (.tmp 2) (.tmp 35) rfl w.heap.size (cs .u32 (fun k => wN (wat s k)) 5) rfl rfl 43 z5 G0.out (szc sz5 _ _) (by rw [cs_size]; rfl) (cs_one _ _ _) ?_))
        (try simp only [Exit.inBlock, Exit.then])
        refine end_pair rfl _ _ w.heap.size 43 _ 5 42 (.bool true) rfl rfl (setRow_heap _ _ _ _ _ _ G0.out) Tryz.underlying43 (szc sz5 _ _) rfl (R.out _ (bel_setRow hb (Nat.le_refl _) _))
  · have R := Lib.hid (fun W' hb' => htold_no (w := w) (W := W') (hT_len h5) hb')
    have t1 : (((wordsS s).length : Int) != 5) = true := by simp; omega
    clear h5
    go_enter Tryz.func68, Tryz.ntmps68
    go_wp2_with (go_at_call 57; (with_reducible refine (C.out _).mono ?_); rintro e w1 ⟨A, c, rfl, hstr, hcap, hb1⟩; have G0 : Hid (w1.heap[w.heap.size]? = some (.cells z5 43)) := kept (hp_old (hp_new w _) _) hb1; obtain ⟨c0, c1, c2, c3, c4, fz⟩ := zeros_at G0.out)
    (try simp only [Exit.inBlock, Exit.then])
    refine end_pair rfl _ _ w.heap.size 43 z5 5 42 (.bool false) (by rfl) (by rfl) (zeros_set G0.out) Tryz.underlying43 sz5 (by rfl) (R.out _ (zeros_below (Nat.le_refl _) (btr (bal (bal (Below.refl _ _) _) _) hb1)))
theorem hash_on {w : World} (W : World) (hb : Below w.heap.size w W) (s : ByteArray) (hs : s.size < 4294967281) : Calls Tryz.prog 68 #[.string s] W fun e w' => e = .returned (.tuple #[.agg (cs .u32 (hN s) 5), .bool (hT s)]) ∧ Below w.heap.size w w' :=
  (hash_at s W hs).mono fun e w' ⟨he, hw⟩ => ⟨he, hb.trans (hw.mono hb.size)⟩
end Go.Proofs.YtldieebiicblbaaGreatDoor.ntp

/-
  The small case of layer 6 comes out true, walked. Condition: package sha's variable start holds what its initialiser lays.
-/
namespace Go.Proofs.YtldieebiicblbaaGreatDoor.sha
open Go.ChangeShapes Go.WideShapes Go.ChangeAt Go.RowKit
open sx
set_option linter.unusedVariables false
set_option maxRecDepth 100000

end Go.Proofs.YtldieebiicblbaaGreatDoor.sha

/-
  One frame for all laws of this seat: if a call returns true and leaves all old memory as it was, the law's row holds. Conditions: the law's specification is the given one, it reads no package variable, its parameters are readable.
-/
namespace Go.Proofs.YtldieebiicblbaaGreatDoor.law
open Go.ChangeShapes Go.WideShapes Go.ChangeAt Go.RowKit
set_option linter.unusedVariables false

theorem own : ownKnob Tryz.prog.godebug = none := by kernel_rfl
theorem laidOut : laidOutB Tryz.prog = true := by kernel_rfl

def readB (P : Program) (ts : List TypeId) : Bool := ts.all fun t => P.readableRec t && decide (t < P.types.size)

theorem trodAll_stays {H : Type} {enc : TypeId × Value → H} {P : Program} (hl : laidOutB P = true) {W W' : World} (hb : Below W.heap.size W W') :
    ∀ (ts : List TypeId) (vs : List Value) (ds : List (DataW H)) (ps : List MemPlace), readB P ts = true → (∀ x ∈ ps, x.block < W.heap.size) →
      DataW.TrodAll enc P W 0 (fun _ => true) true ts vs ds ps → DataW.TrodAll enc P W' 0 (fun b => decide (b < W.heap.size)) true ts vs ds ps
  | [], [], [], ps, _, _, h => h
  | t :: ts, v :: vs, d :: ds, ps, hr, hlt, h => by
    obtain ⟨p, q, h1, h2, rfl⟩ := h
    simp only [readB, List.all_cons, Bool.and_eq_true, decide_eq_true_eq] at hr
    refine ⟨p, q, Below.trod hl hr.1.1 hr.1.2 h1 hb (fun x hx => hlt x (List.mem_append_left _ hx)), ?_, rfl⟩
    exact trodAll_stays hl hb ts vs ds q hr.2 (fun x hx => hlt x (List.mem_append_right _ hx)) h2
  | [], [], _ :: _, _, _, _, h => h.elim
  | [], _ :: _, _, _, _, _, h => h.elim
  | _ :: _, [], _, _, _, _, h => h.elim
  | _ :: _, _ :: _, [], _, _, _, h => h.elim

/-- what is left of a law's row when its call is known: it returned true, old memory is as it was. -/
theorem post {H : Type} {enc : TypeId × Value → H} {P : Program} {f : Func} {s : ChangeSpec} {W W' : World} {args : Array Value} {ds gs : List (DataW H)} {before : List MemPlace} {tb : TypeId}
    (hl : laidOutB P = true) (hr : readB P f.params.toList = true) (hs : s.vars = []) (hrt : f.resultTypes = #[tb]) (hu : P.underlying tb = some .bool)
    (hfn : s.fn H (ds ++ gs) = { results := [.lit (.bool true)], args := ds })
    (hW : DataW.Whole enc P f.params.toList s.vars false W args.toList ds gs before) (hb : Below W.heap.size W W') :
    s.post enc P f false true false false W args (.bool true) W' := by
  have hlt := hW.lt
  have hW' := hW
  obtain ⟨p, q, hA, hV, rfl, _, _⟩ := hW
  rw [hs] at hV
  obtain ⟨rfl, rfl⟩ := trodVars_none hV
  refine ⟨ds, [], p ++ [], [], p, [], hW', ?_, ?_, ?_, hb.frame _, fun h => by cases h⟩
  · rw [hfn, hrt]; exact trodAll_mk1 (shut_bool hu _)
  · rw [hfn]; exact trodAll_stays hl hb _ _ _ _ hr (fun x hx => hlt x (List.mem_append_left _ hx)) hA
  · rw [hfn, hs]; rfl
end Go.Proofs.YtldieebiicblbaaGreatDoor.law

/-
  Digests, bytes and parts that came in, as they are read; and what package sha's variable holds, from the row's own condition. Conditions: the row's own.
-/
namespace Go.Proofs.YtldieebiicblbaaGreatDoor.sha
open Go.ChangeShapes Go.WideShapes Go.ChangeAt Go.RowKit
open sx
set_option linter.unusedVariables false
set_option maxRecDepth 100000

theorem laid_at {P : Program} {W : World} {n : String} {d : DataW Unit} {g : Nat} {t : TypeId} (hg : P.globalNamed n = some g) (ht : (P.globals[g]?).map (·.type) = some t) :
    ∀ (l : List (String × DataW Unit)) (ps : List MemPlace), DataW.LaidVars P W l ps → (n, d) ∈ l → ∃ (cs : Array Value) (fuel : Nat) (p : List MemPlace), W.var? P n = some cs ∧ DataW.trod (fun _ => ()) P W 0 (fun _ => true) false fuel t cs.toList = some (d, p)
  | [], _, _, h => by cases h
  | (n', d') :: r, ps, h, hm => by
    obtain ⟨g', t', cs, fuel, p, q, h1, h2, h3, h4, h5, rfl⟩ := h
    rcases List.mem_cons.1 hm with e | hm
    · cases e
      obtain rfl := Option.some.inj (hg.symm.trans h1)
      obtain rfl := Option.some.inj (ht.symm.trans h2)
      exact ⟨cs, fuel, p, h3, h4⟩
    · exact laid_at hg ht r q h5 hm
theorem gStart : Tryz.prog.globalNamed "epact/sha.start" = some 0 := by kernel_rfl
theorem tStart : (Tryz.prog.globals[0]?).map (·.type) = some 43 := by kernel_rfl
theorem st_of {W : World} {l : List (String × DataW Unit)} (h : laidMet Tryz.prog l W) (h1 : ("epact/sha.start", Rows.laid_epact_sha_start) ∈ l) : St W := by
  obtain ⟨ps, hL, _, _⟩ := h
  obtain ⟨c, f, p, hv, ht⟩ := laid_at gStart tStart l ps hL h1
  have e1 : c.toList = [1732584193, 4023233417, 2562383102, 271733878, 3285377520].map fun z => Value.int .u32 z := Lib.cells_of_tab (zs := [1732584193, 4023233417, 2562383102, 271733878, 3285377520]) Tryz.underlying43 Tryz.underlying42 cW (by kernel_rfl) ht
  intro j v hj
  rw [World.var?_cell gStart hv j, ← Array.getElem?_toList, e1]
  exact hj

theorem cS : Tryz.prog.cellsOf 62 = 1 := by kernel_rfl
theorem c20 : Tryz.prog.cellsOf 35 = 20 := by kernel_rfl
theorem open_digest {H : Type} {enc : TypeId × Value → H} {W : World} {base : Nat} {v : Value} {d : DataW H} {p : List MemPlace} (hv : Value.okWide Tryz.prog W .any base 35 v) (h : DataW.Trod enc Tryz.prog W 0 (fun _ => true) true 35 v d p) :
    ∃ f, v = .agg (cs .u8 f 20) ∧ Byt f 20 := by
  obtain ⟨c, rfl, hc⟩ : ∃ c, v = .agg c ∧ c.size = 20 := by
    unfold Value.okWide at hv
    rw [Tryz.underlying35] at hv
    obtain ⟨c, e, hs, _⟩ := hv
    exact ⟨c, e, by rw [hs, c20]⟩
  obtain ⟨fuel, hf⟩ := h
  have hf' : DataW.trod enc Tryz.prog W 0 (fun _ => true) true fuel 35 c.toList = some (d, p) := hf
  obtain ⟨xs, m, _, hx, hl, hn, hel⟩ := DataW.trod_array Tryz.underlying35 hf'
  have each : ∀ i, i < 20 → ∃ n : Nat, c[i]? = some (.int .u8 (n : Nat)) ∧ n < 256 := by
    intro i hi
    have hi' := hel i hi
    rw [List.getElem?_eq_getElem (by omega)] at hi'
    obtain ⟨z, e0, _, hw⟩ := DataW.trod_int Tryz.underlying5 hi'
    rw [cB] at e0
    have hb := bounds_u8 hw
    refine ⟨z.toNat, ?_, by omega⟩
    have e1 : c.toList[i]? = some (.int .u8 z) := by
      have := congrArg (fun l => l[0]?) e0
      simpa [List.getElem?_take, List.getElem?_drop] using this
    rw [← Array.getElem?_toList, e1, show ((z.toNat : Nat) : Int) = z by omega]
  obtain ⟨f, hff⟩ : ∃ f : Nat → Nat, ∀ i, i < 20 → c[i]? = some (.int .u8 (f i : Nat)) ∧ f i < 256 := by
    refine ⟨fun i => if h : i < 20 then (each i h).choose else 0, fun i hi => ?_⟩
    simp only [dif_pos hi]
    exact (each i hi).choose_spec
  refine ⟨f, ?_, fun j hj => (hff j hj).2⟩
  congr 1
  apply Array.ext_getElem?
  intro i
  by_cases hi : i < 20
  · rw [(hff i hi).1, cs_get .u8 f 20 i hi]
  · rw [Array.getElem?_eq_none (by omega), Array.getElem?_eq_none (by rw [cs_size]; omega)]
/-- numbers of bytes. -/
def toN (zs : List Int) : List Nat := zs.map Int.toNat
theorem toN_len (zs : List Int) : (toN zs).length = zs.length := by simp [toN]
theorem toN_bys {zs : List Int} (h : ∀ n ∈ zs, (Lit.int .u8 n).wf = true) : Bys (toN zs) := by
  intro x hx
  obtain ⟨z, hz, rfl⟩ := List.mem_map.1 hx
  have := bounds_u8 (h z hz)
  omega
theorem toN_at {zs : List Int} (h : ∀ n ∈ zs, (Lit.int .u8 n).wf = true) (k : Nat) (hk : k < (toN zs).length) : (((toN zs)[k] : Nat) : Int) = zs.getD k 0 := by
  have hk' : k < zs.length := by rw [toN_len] at hk; exact hk
  have hb := bounds_u8 (h zs[k] (List.getElem_mem _))
  simp only [toN, List.getElem_map, List.getD_eq_getElem?_getD, List.getElem?_eq_getElem hk', Option.getD_some]
  omega
theorem rd_of {W : World} {a : Option Addr} {len cap : Nat} {zs : List Int} (hl : len ≤ cap) (hz : zs.length = cap) (hw : ∀ n ∈ zs, (Lit.int .u8 n).wf = true) (h0 : a = none → cap = 0) (hc : ∀ a', a = some a' → ∀ c, c < cap → W.cell? (a'.add c) = some (.int .u8 (zs.getD c 0))) :
    RdW W (.slice a len cap) ((toN zs).take len) := by
  have hlen : ((toN zs).take len).length = len := by rw [List.length_take, toN_len]; omega
  refine ⟨a, cap, by rw [hlen], by omega, h0, fun hne => ?_⟩
  have hp : 0 < len := by rw [← hlen]; exact List.length_pos_iff.2 hne
  cases a with
  | none => have := h0 rfl; omega
  | some a' =>
    obtain ⟨b, off, spot⟩ := a'
    have hspot : spot = none := by simpa [Addr.add] using World.cell?_spot (hc _ rfl 0 (by omega))
    subst hspot
    refine ⟨b, off, rfl, fun k hk => ?_⟩
    rw [hlen] at hk
    have := hc _ rfl k (by omega)
    rw [add_at] at this
    rw [this, List.getElem_take, toN_at hw k (by rw [toN_len]; omega)]
theorem open_bytes {H : Type} {enc : TypeId × Value → H} {W : World} {base : Nat} {v : Value} {d : DataW H} {p : List MemPlace} (hv : Value.okWide Tryz.prog W .any base 62 v) (h : DataW.Trod enc Tryz.prog W 0 (fun _ => true) true 62 v d p) :
    ∃ l, RdW W v l ∧ Bys l ∧ l.length ≤ 9223372036854775807 := by
  obtain ⟨a0, len0, cap0, rfl⟩ := okWide_slice Tryz.underlying62 hv
  obtain ⟨fuel, hf⟩ := h
  rcases ChangeShapes.open_ints (cs := [.slice a0 len0 cap0]) Tryz.underlying62 Tryz.underlying5 cB hf with ⟨h1, _⟩ | ⟨a, len, cap, zs, h1, _, h3, h4, h5, _, h7, h8⟩
  · simp only [List.cons.injEq, Value.slice.injEq, and_true] at h1
    obtain ⟨rfl, rfl, rfl⟩ := h1
    exact ⟨[], ⟨none, 0, rfl, by simp, fun _ => rfl, fun h => absurd rfl h⟩, (fun x hx => by cases hx), by simp⟩
  · simp only [List.cons.injEq, Value.slice.injEq, and_true] at h1
    obtain ⟨rfl, rfl, rfl⟩ := h1
    simp only [if_true] at h5
    unfold maxLen at h4
    refine ⟨(toN zs).take len0, rd_of h3 h5 h8 (fun h => by cases h) (fun a' e c hc => by cases e; exact h7 c (by omega)), fun x hx => toN_bys h8 x (List.mem_of_mem_take hx), ?_⟩
    rw [List.length_take]; omega
theorem open_parts {H : Type} {enc : TypeId × Value → H} {W : World} {base : Nat} {v : Value} {d : DataW H} {p : List MemPlace} (hv : Value.okWide Tryz.prog W .any base 103 v) (h : DataW.Trod enc Tryz.prog W 0 (fun _ => true) true 103 v d p) :
    ∃ ls, Pts W v ls ∧ (∀ l ∈ ls, Bys l) ∧ ls.length ≤ 9223372036854775807 ∧ ∀ l ∈ ls, l.length ≤ 9223372036854775807 := by
  obtain ⟨a0, len0, cap0, rfl⟩ := okWide_slice Tryz.underlying103 hv
  obtain ⟨fuel, hf⟩ := h
  rcases Deep.open_int_rows (cs := [.slice a0 len0 cap0]) Tryz.underlying103 Tryz.underlying62 Tryz.underlying5 cS cB hf with ⟨h1, _⟩ | ⟨a, len, cap, A, L, C, Z, h1, _, h3, h4, _, h7⟩
  · simp only [List.cons.injEq, Value.slice.injEq, and_true] at h1
    obtain ⟨rfl, rfl, rfl⟩ := h1
    exact ⟨[], ⟨none, 0, rfl, fun h => absurd rfl h⟩, (fun x hx => by cases hx), by simp, (fun x hx => by cases hx)⟩
  · simp only [List.cons.injEq, Value.slice.injEq, and_true] at h1
    obtain ⟨rfl, rfl, rfl⟩ := h1
    unfold maxLen at h4
    have hln : ((List.range len0).map fun r => (toN (Z r)).take (L r)).length = len0 := by simp
    refine ⟨(List.range len0).map fun r => (toN (Z r)).take (L r), ⟨some a, cap0, by rw [hln], fun hne => ?_⟩, ?_, by rw [hln]; omega, ?_⟩
    · have hp : 0 < len0 := by rw [← hln]; exact List.length_pos_iff.2 hne
      obtain ⟨b, off, spot⟩ := a
      have hspot : spot = none := by simpa [Addr.add] using World.cell?_spot (h7 0 (by omega)).1
      subst hspot
      refine ⟨b, off, rfl, fun k hk => ?_⟩
      rw [hln] at hk
      obtain ⟨e1, e2, e3, e4, e5, e6, e7⟩ := h7 k (by omega)
      rw [add_at] at e1
      refine ⟨_, e1, ?_⟩
      have := rd_of (W := W) e2 e4 e5 e6 (fun a' ea c hc => (e7 a' ea).2 c hc)
      simpa using this
    · intro l hl
      obtain ⟨r, hr, rfl⟩ := List.mem_map.1 hl
      obtain ⟨e1, e2, e3, e4, e5, e6, e7⟩ := h7 r (by have := List.mem_range.1 hr; omega)
      exact fun x hx => toN_bys e5 x (List.mem_of_mem_take hx)
    · intro l hl
      obtain ⟨r, hr, rfl⟩ := List.mem_map.1 hl
      obtain ⟨e1, e2, e3, e4, e5, e6, e7⟩ := h7 r (by have := List.mem_range.1 hr; omega)
      unfold maxLen at e3
      rw [List.length_take]; omega
theorem ret_bool {b : Bool} (h : b = true) : Ending.returned (.bool b) = .returned (.bool true) := by rw [h]
/-! regions that draw their order around calls that make memory -/
theorem qload {P : Program} {ops : Array Oper} {C : World → Prop} {Q : Act → Prop} {a : Act} {o : Oper} {rest : List Oper} (hw : Region.wanted o (yielded ops a.tmps) = true) (ty : TypeId) (x : Operand) (ho : o.op = .load ty x) (p : Addr) (hx : a.eval x = .pointer (some p)) (c : Array Value)
    (hl : ∀ W, C W → (loadVar ty p).run P W = .ok (.agg c) W) (h : wpQuiet P ops C Q rest (a.put o.dst (.agg c))) : wpQuiet P ops C Q (o :: rest) a := by
  refine wpQuiet_step (fun K hK => ?_)
  rw [if_pos hw]
  refine ⟨.agg c, fun W hW => ?_, hK _ h⟩
  unfold Oper.quietAt execOp
  simp only [ho, hx, Instr.loadAt, Instr.sureAddr, Sem.run_bind, Sem.run_pure, Result.andThen_ok, hl W hW]
  exact ⟨rfl, rfl⟩
theorem regrown20 {W : World} {g : Nat} {f : Nat → Nat} (h : W.heap[g]? = some (.cells (cs .u8 f 20) 35)) : ∀ W', (∃ p : Regrown, W' = Sort.grow (redrawn W p.d) p.os) → (loadVar 35 ⟨g, 0, none⟩).run Tryz.prog W' = .ok (.agg (cs .u8 f 20)) W' := by
  rintro W' ⟨p, rfl⟩
  exact load20 (kept h (below_regrown W p.d p.os))
theorem below_of {f : FuncId} {args : Array Value} {v : Value} (h : ∀ W : World, Calls Tryz.prog f args W fun e w' => e = .returned v ∧ Below W.heap.size W w') (w : World) (d : Nat) (os : Array Obj) :
    Calls Tryz.prog f args (Sort.grow (redrawn w d) os) fun e w'' => e = .returned v ∧ ∃ p : Regrown, w'' = Sort.grow (redrawn w p.d) p.os := Calls.regrown_of (h _)
theorem same_comm (f g : Nat → Nat) (n : Nat) : same f g n = same g f n := by
  rw [Bool.eq_iff_iff, same_iff, same_iff]
  exact ⟨fun h j hj => (h j hj).symm, fun h j hj => (h j hj).symm⟩
/-! digits at their places -/
theorem hx_even (f : Nat → Nat) : ∀ k i, i < k → (hx f k)[2 * i]? = some (hd (f i / 16)) ∧ (hx f k)[2 * i + 1]? = some (hd (f i % 16))
  | 0, i, h => by omega
  | k + 1, i, h => by
    have hl := hx_len f k
    rw [hx]
    by_cases e : i = k
    · subst e
      rw [List.getElem?_append_right (by omega), List.getElem?_append_right (by omega), hl, show 2 * i - 2 * i = 0 by omega, show 2 * i + 1 - 2 * i = 1 by omega]
      exact ⟨rfl, rfl⟩
    · rw [List.getElem?_append_left (by omega), List.getElem?_append_left (by omega)]
      exact hx_even f k i (by omega)
/-- what digit stands at a place. -/
def dg (f : Nat → Nat) (p : Nat) : Nat := if p % 2 = 0 then f (p / 2) / 16 else f (p / 2) % 16
theorem hx_at (f : Nat → Nat) (p : Nat) (hp : p < 40) : (hx f 20)[p]? = some (hd (dg f p)) := by
  unfold dg
  have := hx_even f 20 (p / 2) (by omega)
  by_cases h : p % 2 = 0
  · rw [if_pos h, ← this.1]; congr 1 <;> omega
  · rw [if_neg h, ← this.2]; congr 1 <;> omega
theorem get_list (s : ByteArray) (l : List UInt8) (hl : s.data.toList = l) (p : Nat) (h : p < s.size) (hp : p < l.length) : s[p]'h = l[p]'hp := by subst hl; rfl
theorem tl_ba (l : List UInt8) : (⟨l.toArray⟩ : ByteArray).data.toList = l := rfl
theorem hexS_list (f : Nat → Nat) : (hexS f).data.toList = hx f 20 := tl_ba (hx f 20)
theorem hexS_at (f : Nat → Nat) (s : ByteArray) (hs : s.data.toList = hx f 20) (p : Nat) (h : p < s.size) (hp : p < 40) : s[p]'h = hd (dg f p) := by
  have e := hx_at f p hp
  have hl : p < (hx f 20).length := by rw [hx_len]; omega
  rw [List.getElem?_eq_getElem hl] at e
  rw [get_list s _ hs p h hl]
  exact Option.some.inj e
theorem list_size (s : ByteArray) : s.size = s.data.toList.length := rfl
theorem hexS_len {f : Nat → Nat} {s : ByteArray} (hs : s.data.toList = hx f 20) : s.size = 40 := by rw [list_size, hs, hx_len]
theorem word_byte (f : Nat → Nat) (n : Nat) (hf : Byt f n) (k : Nat) (hk : 4 * (k / 4) + 4 ≤ n) : word f (k / 4) / 2 ^ (24 - 8 * (k % 4)) % 256 = f k := by
  obtain ⟨q, j, rfl, hj⟩ : ∃ q j, k = 4 * q + j ∧ j < 4 := ⟨k / 4, k % 4, by omega, by omega⟩
  rw [show (4 * q + j) / 4 = q by omega] at hk ⊢
  rw [show (4 * q + j) % 4 = j by omega]
  have e : word f q = ((((0 * 256 + f (4 * q + 0)) * 256 + f (4 * q + 1)) * 256 + f (4 * q + 2)) * 256 + f (4 * q + 3)) := rfl
  have a := hf (4 * q + 0) (by omega)
  have b := hf (4 * q + 1) (by omega)
  have c := hf (4 * q + 2) (by omega)
  have d := hf (4 * q + 3) (by omega)
  rw [e]
  rcases (show j = 0 ∨ j = 1 ∨ j = 2 ∨ j = 3 by omega) with rfl | rfl | rfl | rfl
  · simp only [Nat.mul_zero, Nat.sub_zero]; omega
  · rw [show 24 - 8 * 1 = 16 by rfl]; omega
  · rw [show 24 - 8 * 2 = 8 by rfl]; omega
  · rw [show 24 - 8 * 3 = 0 by rfl]; omega
end Go.Proofs.YtldieebiicblbaaGreatDoor.sha
