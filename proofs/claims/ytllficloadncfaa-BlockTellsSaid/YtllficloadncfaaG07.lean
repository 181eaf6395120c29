/-
  What package head's Encode answers: a head's bytes in new memory, or none. Condition: none.
-/
import Derived.Test.YtllficloadncfaaG05
import Derived.Test.YtllficloadncfaaG06
import Derived.Lib.SmallJoins
import Derived.Test.YtllficloadncfaaRows
import Derived.WalkKit
import Derived.ProofKit
import Derived.OpenShut
import Derived.Carry
import Derived.Deep.SlicePairs
import Derived.Stop.Joined
import Derived.Test.YtllficloadncfaaG04
import Derived.Laws.OwnMore
namespace Go.Proofs.Ytllficloadncfaa.head
open Go.ChangeShapes Go.WideShapes Go.ChangeAt Go.RowKit
open om mem oct hd
set_option linter.unusedVariables false
set_option maxRecDepth 100000

def EncTold (w : World) (h : Hd) (e : Ending) (w' : World) : Prop :=
  ∃ v', e = .returned (.tuple #[v', .bool (okB h)]) ∧ Own w.heap.size w' v' (enc h) ∧ Below w.heap.size w w'
theorem cpS : (Try.prog.info? 5).map (·.size) = some 1 := by kernel_rfl
theorem made20 : madeCells (Value.int .u8 0).cells 20 = #[.int .u8 0, .int .u8 0, .int .u8 0, .int .u8 0, .int .u8 0, .int .u8 0, .int .u8 0, .int .u8 0, .int .u8 0, .int .u8 0, .int .u8 0, .int .u8 0, .int .u8 0, .int .u8 0, .int .u8 0, .int .u8 0, .int .u8 0, .int .u8 0, .int .u8 0, .int .u8 0] := by kernel_rfl
/-- 'make([]byte, 20)'. -/
theorem make20 (W : World) : (Instr.makeSlice 29 (.int .i64 20) (.int .i64 20)).run Try.prog W = .ok (.slice (some ⟨W.heap.size, 0, none⟩) 20 20) (W.alloc (.cells #[.int .u8 0, .int .u8 0, .int .u8 0, .int .u8 0, .int .u8 0, .int .u8 0, .int .u8 0, .int .u8 0, .int .u8 0, .int .u8 0, .int .u8 0, .int .u8 0, .int .u8 0, .int .u8 0, .int .u8 0, .int .u8 0, .int .u8 0, .int .u8 0, .int .u8 0, .int .u8 0] 5)) := by
  obtain ⟨i0, hi, hz0, hz1, hz2⟩ := info_parts infoB
  have := run_make (P := Try.prog) W 29 5 i0 _ Try.underlying29 hi hz0 .i64 .i64 20 20 (by decide) (by decide) (by rw [hz2]; decide) (by decide)
  rw [hz1, Nat.mul_one, show (20 : Int).toNat = 20 from rfl, made20] at this
  exact this
theorem alloc_set (W : World) (a b : Array Value) (t : TypeId) : (W.alloc (.cells a t)).setRow W.heap.size b = W.alloc (.cells b t) := by
  unfold World.setRow World.alloc
  simp only [World.mk.injEq, and_true]
  refine Array.ext (by simp) fun i h1 h2 => ?_
  rw [Array.getElem_modify]
  by_cases e : W.heap.size = i
  · subst e
    simp
  · rw [if_neg e]
    have : i < W.heap.size := by simp at h2; omega
    rw [Array.getElem_push_lt this, Array.getElem_push_lt this]
/-- 'copy(b, "TZif")'. -/
theorem copy20 (W : World) : (Builtin.copy_ #[29, 9] 3 #[.slice (some ⟨W.heap.size, 0, none⟩) 20 20, .string ⟨#[84, 90, 105, 102]⟩]).run Try.prog (W.alloc (.cells #[.int .u8 0, .int .u8 0, .int .u8 0, .int .u8 0, .int .u8 0, .int .u8 0, .int .u8 0, .int .u8 0, .int .u8 0, .int .u8 0, .int .u8 0, .int .u8 0, .int .u8 0, .int .u8 0, .int .u8 0, .int .u8 0, .int .u8 0, .int .u8 0, .int .u8 0, .int .u8 0] 5)) =
    .ok (.int .i64 4) (W.alloc (.cells #[.int .u8 84, .int .u8 90, .int .u8 105, .int .u8 102, .int .u8 0, .int .u8 0, .int .u8 0, .int .u8 0, .int .u8 0, .int .u8 0, .int .u8 0, .int .u8 0, .int .u8 0, .int .u8 0, .int .u8 0, .int .u8 0, .int .u8 0, .int .u8 0, .int .u8 0, .int .u8 0] 5)) := by
  have := Lib.run_copy_row_string (P := Try.prog) (W.alloc (.cells #[.int .u8 0, .int .u8 0, .int .u8 0, .int .u8 0, .int .u8 0, .int .u8 0, .int .u8 0, .int .u8 0, .int .u8 0, .int .u8 0, .int .u8 0, .int .u8 0, .int .u8 0, .int .u8 0, .int .u8 0, .int .u8 0, .int .u8 0, .int .u8 0, .int .u8 0, .int .u8 0] 5)) 29 9 3 5 W.heap.size 0 20 20 ⟨#[84, 90, 105, 102]⟩ #[.int .u8 0, .int .u8 0, .int .u8 0, .int .u8 0, .int .u8 0, .int .u8 0, .int .u8 0, .int .u8 0, .int .u8 0, .int .u8 0, .int .u8 0, .int .u8 0, .int .u8 0, .int .u8 0, .int .u8 0, .int .u8 0, .int .u8 0, .int .u8 0, .int .u8 0, .int .u8 0] 5 Try.underlying29 cpS (hp_new W _) (by decide) (by decide)
  rw [alloc_set] at this
  exact this
theorem put_one (h : Hd) (hok : Ok h) (k : Nat) (hk : k < 6) (w W : World) (v : Value) (ho : Own w.heap.size W v (pref h.v ++ lay4s ((nums h).take k))) (hb : Below w.heap.size w W) :
    Calls Try.prog 55 #[v, .int .i64 ((nums h)[k]'(by exact hk)), .int .i64 4] W fun e w' => ∃ v', e = .returned (.tuple #[v', .bool true]) ∧ Own w.heap.size w' v' (pref h.v ++ lay4s ((nums h).take (k + 1))) ∧ Below w.heap.size w w' := by
  have hk' : k < (nums h).length := hk
  have bd : -2147483648 ≤ (nums h)[k]'(by exact hk) ∧ (nums h)[k]'(by exact hk) ≤ 2147483647 := by
    obtain ⟨k1, k2, k3, k4, k5, k6, k7⟩ := hok
    obtain rfl | rfl | rfl | rfl | rfl | rfl : k = 0 ∨ k = 1 ∨ k = 2 ∨ k = 3 ∨ k = 4 ∨ k = 5 := by omega
    all_goals simp only [nums, List.getElem_cons_zero, List.getElem_cons_succ]; omega
  have hf : fitB ((nums h)[k]'(by exact hk)) 4 = true := fit_iff.2 (fits4 bd)
  have hl : (pref h.v ++ lay4s ((nums h).take k)).length < 2000000000000 := by
    rw [List.length_append, lay4s_len, List.length_take]
    have : (pref h.v).length = 20 := rfl
    omega
  refine (put_at _ v _ 4 W ⟨by omega, by omega⟩ ⟨by decide, by decide⟩ (own_by ho).rd hl).mono ?_
  rintro e w' ⟨v', rfl, ho', hb'⟩
  rw [put_yes hf] at ho'
  refine ⟨v', by rw [hf], ?_, btr hb hb'⟩
  rw [List.take_succ_eq_append_getElem hk', lay4s_snoc, ← List.append_assoc]
  exact own_mono ho' hb.size
/-- at the head of a round. -/
def EHead (h : Hd) (w : World) (b i : Value) (W : World) : Prop :=
  ∃ (k : Nat) (v : Value), k ≤ 6 ∧ i = .int .i64 (k : Nat) ∧ v = b ∧ Own w.heap.size W v (pref h.v ++ lay4s ((nums h).take k)) ∧ Below w.heap.size w W
end Go.Proofs.Ytllficloadncfaa.head

/-
  The small case of layer 13's statements comes out true. No condition.
-/
namespace Go.Proofs.Ytllficloadncfaa.oct
open Go.ChangeShapes Go.WideShapes Go.ChangeAt Go.RowKit
open om mem
set_option linter.unusedVariables false
set_option maxRecDepth 100000

/-- bytes that lie in a world's blocks. -/
def Old (W : World) (v : Value) (l : List Nat) : Prop := By (fun b => b < W.heap.size) W v l
theorem Old.below {W W' : World} {v : Value} {l : List Nat} (h : Old W v l) (hb : Below W.heap.size W W') : Old W' v l :=
  By.imp (By.below h hb) (fun b hb' => Nat.lt_of_lt_of_le hb' hb.size) fun _ _ _ _ h => h
theorem Old.keep {W W' : World} {v : Value} {l : List Nat} (h : Old W v l) {g : Nat} (hk : Keep g W W') (hg : W.heap.size ≤ g) : Old W' v l :=
  By.imp (By.keep h hk (fun b hb => by omega)) (fun b hb' => Nat.lt_of_lt_of_le hb' hk.size) fun _ _ _ _ h => h
theorem own_old {base : Nat} {W : World} {v : Value} {l : List Nat} (h : Own base W v l) : Old W v l :=
  By.imp (own_by h) (fun b hb => hb.2) fun _ _ _ _ h => h
theorem lit_rd (W : World) (cs : Array Value) (l : List Nat) (n : Nat) (hn' : n = l.length) (h : cs.toList = bc l) (hn : l.length < 1000) : RdW (W.alloc (.cells cs 5)) (.slice (some ⟨W.heap.size, 0, none⟩) n n) l := by
  subst hn'; exact (own_by (own_lit W.heap.size W cs l (Nat.le_refl _) h hn)).rd
theorem lit_rd2 (W : World) (cs : Array Value) (l : List Nat) (n : Nat) (fr : Nat × Nat) (hn' : n = l.length) (h : cs.toList = bc l) : RdW (W.alloc (.cells cs 5 fr)) (.slice (some ⟨W.heap.size, 0, none⟩) n n) l := by
  subst hn'
  refine ⟨_, _, rfl, Nat.le_refl _, (fun h => by cases h), fun _ => ⟨W.heap.size, 0, rfl, fun k hk => ?_⟩⟩
  rw [Nat.zero_add, row_cell (hp_new W (.cells cs 5 fr)) k, ← Array.getElem?_toList, h]
  simp [bc, hk]
theorem bys_lit {l : List Nat} (h : l.all (fun x => decide (x < 256)) = true) : Bys l := fun x hx => by simpa using List.all_eq_true.1 h x hx
/-- bytes that lie below a place. -/
def Lo (M : Nat) (W : World) (v : Value) (l : List Nat) : Prop := By (fun b => b < M) W v l
theorem Lo.below {M : Nat} {W W' : World} {v : Value} {l : List Nat} (h : Lo M W v l) (hb : Below W.heap.size W W') : Lo M W' v l := By.below h hb
theorem Lo.keep {M : Nat} {W W' : World} {v : Value} {l : List Nat} (h : Lo M W v l) {g : Nat} (hk : Keep g W W') (hg : M ≤ g) : Lo M W' v l := By.keep h hk (fun b hb => by omega)
end Go.Proofs.Ytllficloadncfaa.oct

/-
  One frame for all laws of this seat: if a call returns true and leaves all old memory as it was, the law's row holds. Conditions: the law's specification is the given one, it reads no package variable, its parameters are readable.
-/
namespace Go.Proofs.Ytllficloadncfaa.law
open Go.ChangeShapes Go.WideShapes Go.ChangeAt Go.RowKit
set_option linter.unusedVariables false

theorem own : ownKnob Try.prog.godebug = none := by kernel_rfl
theorem laidOut : laidOutB Try.prog = true := by kernel_rfl

def readB (P : Program) (ts : List TypeId) : Bool := ts.all fun t => P.readableRec t && decide (t < P.types.size)

theorem trodAll_stays {H : Type} {enc : TypeId × Value → H} {P : Program} (hl : laidOutB P = true) {W W' : World} (hb : Below W.heap.size W W') :
    ∀ (ts : List TypeId) (vs : List Value) (ds : List (DataW H)) (ps : List MemPlace), readB P ts = true → (∀ x ∈ ps, x.block < W.heap.size) →
      DataW.TrodAll enc P W 0 (fun _ => true) true ts vs ds ps → DataW.TrodAll enc P W' 0 (fun b => decide (b < W.heap.size)) true ts vs ds ps
  | [], [], [], ps, _, _, h => h
  | t :: ts, v :: vs, d :: ds, ps, hr, hlt, h => by
    obtain ⟨p, q, h1, h2, rfl⟩ := h
    simp only [readB, List.all_cons, Bool.and_eq_true, decide_eq_true_eq] at hr
    refine ⟨p, q, Below.trod hl hr.1.1 hr.1.2 h1 hb (fun x hx => hlt x (List.mem_append_left _ hx)), ?_, rfl⟩
    exact trodAll_stays hl hb ts vs ds q hr.2 (fun x hx => hlt x (List.mem_append_right _ hx)) h2
  | [], [], _ :: _, _, _, _, h => h.elim
  | [], _ :: _, _, _, _, _, h => h.elim
  | _ :: _, [], _, _, _, _, h => h.elim
  | _ :: _, _ :: _, [], _, _, _, h => h.elim

/-- what is left of a law's row when its call is known: it returned true, old memory is as it was. -/
theorem post {H : Type} {enc : TypeId × Value → H} {P : Program} {f : Func} {s : ChangeSpec} {W W' : World} {args : Array Value} {ds gs : List (DataW H)} {before : List MemPlace} {tb : TypeId}
    (hl : laidOutB P = true) (hr : readB P f.params.toList = true) (hs : s.vars = []) (hrt : f.resultTypes = #[tb]) (hu : P.underlying tb = some .bool)
    (hfn : s.fn H (ds ++ gs) = { results := [.lit (.bool true)], args := ds })
    (hW : DataW.Whole enc P f.params.toList s.vars false W args.toList ds gs before) (hb : Below W.heap.size W W') :
    s.post enc P f false true false false W args (.bool true) W' := by
  have hlt := hW.lt
  have hW' := hW
  obtain ⟨p, q, hA, hV, rfl, _, _⟩ := hW
  rw [hs] at hV
  obtain ⟨rfl, rfl⟩ := trodVars_none hV
  refine ⟨ds, [], p ++ [], [], p, [], hW', ?_, ?_, ?_, hb.frame _, fun h => by cases h⟩
  · rw [hfn, hrt]; exact trodAll_mk1 (shut_bool hu _)
  · rw [hfn]; exact trodAll_stays hl hb _ _ _ _ hr (fun x hx => hlt x (List.mem_append_left _ hx)) hA
  · rw [hfn, hs]; rfl
end Go.Proofs.Ytllficloadncfaa.law

/-
  Bytes, and rows of calls, that came in, as they are read. Conditions: the row's own.
-/
namespace Go.Proofs.Ytllficloadncfaa.oct
open Go.ChangeShapes Go.WideShapes Go.ChangeAt Go.RowKit
open om mem
set_option linter.unusedVariables false
set_option maxRecDepth 100000

theorem cB : Try.prog.cellsOf 5 = 1 := by kernel_rfl
/-- numbers of bytes. -/
def toN (zs : List Int) : List Nat := zs.map Int.toNat
theorem toN_len (zs : List Int) : (toN zs).length = zs.length := by simp [toN]
theorem toN_bys {zs : List Int} (h : ∀ n ∈ zs, (Lit.int .u8 n).wf = true) : Bys (toN zs) := by
  intro x hx
  obtain ⟨z, hz, rfl⟩ := List.mem_map.1 hx
  have := bounds_u8 (h z hz)
  omega
theorem toN_at {zs : List Int} (h : ∀ n ∈ zs, (Lit.int .u8 n).wf = true) (k : Nat) (hk : k < (toN zs).length) : (((toN zs)[k] : Nat) : Int) = zs.getD k 0 := by
  have hk' : k < zs.length := by rw [toN_len] at hk; exact hk
  have hb := bounds_u8 (h zs[k] (List.getElem_mem _))
  simp only [toN, List.getElem_map, List.getD_eq_getElem?_getD, List.getElem?_eq_getElem hk', Option.getD_some]
  omega
theorem rd_of {W : World} {a : Option Addr} {len cap : Nat} {zs : List Int} (hl : len ≤ cap) (hz : zs.length = cap) (hw : ∀ n ∈ zs, (Lit.int .u8 n).wf = true) (h0 : a = none → cap = 0) (hc : ∀ a', a = some a' → ∀ c, c < cap → W.cell? (a'.add c) = some (.int .u8 (zs.getD c 0))) :
    RdW W (.slice a len cap) ((toN zs).take len) := by
  have hlen : ((toN zs).take len).length = len := by rw [List.length_take, toN_len]; omega
  refine ⟨a, cap, by rw [hlen], by omega, h0, fun hne => ?_⟩
  have hp : 0 < len := by rw [← hlen]; exact List.length_pos_iff.2 hne
  cases a with
  | none => have := h0 rfl; omega
  | some a' =>
    obtain ⟨b, off, spot⟩ := a'
    have hspot : spot = none := by simpa [Addr.add] using World.cell?_spot (hc _ rfl 0 (by omega))
    subst hspot
    refine ⟨b, off, rfl, fun k hk => ?_⟩
    rw [hlen] at hk
    have := hc _ rfl k (by omega)
    rw [Addr.add_mid] at this
    rw [this, List.getElem_take, toN_at hw k (by rw [toN_len]; omega)]
theorem open_bytes {H : Type} {enc : TypeId × Value → H} {W : World} {base : Nat} {v : Value} {d : DataW H} {p : List MemPlace} (hv : Value.okWide Try.prog W .any base 29 v) (h : DataW.Trod enc Try.prog W 0 (fun _ => true) true 29 v d p) :
    ∃ l, RdW W v l ∧ Bys l ∧ l.length ≤ 9223372036854775807 := by
  obtain ⟨a0, len0, cap0, rfl⟩ := okWide_slice Try.underlying29 hv
  obtain ⟨fuel, hf⟩ := h
  rcases ChangeShapes.open_ints (cs := [.slice a0 len0 cap0]) Try.underlying29 Try.underlying5 cB hf with ⟨h1, _⟩ | ⟨a, len, cap, zs, h1, _, h3, h4, h5, _, h7, h8⟩
  · simp only [List.cons.injEq, Value.slice.injEq, and_true] at h1
    obtain ⟨rfl, rfl, rfl⟩ := h1
    exact ⟨[], ⟨none, 0, rfl, by simp, fun _ => rfl, fun h => absurd rfl h⟩, (fun x hx => by cases hx), by simp⟩
  · simp only [List.cons.injEq, Value.slice.injEq, and_true] at h1
    obtain ⟨rfl, rfl, rfl⟩ := h1
    simp only [if_true] at h5
    unfold maxLen at h4
    refine ⟨(toN zs).take len0, rd_of h3 h5 h8 (fun h => by cases h) (fun a' e c hc => by cases e; exact h7 c (by omega)), fun x hx => toN_bys h8 x (List.mem_of_mem_take hx), ?_⟩
    rw [List.length_take]; omega
/-- a slice that reads as a row of calls: what is done, its number. -/
abbrev Ac := Int × Int
end Go.Proofs.Ytllficloadncfaa.oct

/-
  Bytes as texts: when they are the same, one behind the other, and their order. Nothing of any program's functions. Conditions: as said.
-/
namespace Go.Proofs.Ytllficloadncfaa.oct
open Go.ChangeShapes Go.WideShapes Go.ChangeAt Go.RowKit
open om mem
set_option linter.unusedVariables false
set_option maxRecDepth 100000

def u8s (l : List Nat) : List UInt8 := l.map UInt8.ofNat
theorem strN_list (l : List Nat) : (strN l).toList = u8s l := by
  rw [ByteArray.toList_eq]
  unfold strN u8s
  rw [strOfNums_data, List.map_map]
  rfl
theorem strN_data (l : List Nat) : (strN l).data.toList = u8s l := by rw [← ByteArray.toList_eq, strN_list]
theorem u8_inj {x y : Nat} (hx : x < 256) (hy : y < 256) (h : UInt8.ofNat x = UInt8.ofNat y) : x = y := by
  have := congrArg UInt8.toNat h
  simp only [UInt8.toNat_ofNat'] at this
  omega
theorem u8s_inj : ∀ {l m : List Nat}, Bys l → Bys m → u8s l = u8s m → l = m
  | [], [], _, _, _ => rfl
  | [], y :: m, _, _, h => by simp [u8s] at h
  | x :: l, [], _, _, h => by simp [u8s] at h
  | x :: l, y :: m, hl, hm, h => by
    simp only [u8s, List.map_cons, List.cons.injEq] at h
    rw [u8_inj (hl x (List.mem_cons_self ..)) (hm y (List.mem_cons_self ..)) h.1, u8s_inj (l := l) (m := m) (fun z hz => hl z (List.mem_cons_of_mem _ hz)) (fun z hz => hm z (List.mem_cons_of_mem _ hz)) h.2]
theorem strN_inj {l m : List Nat} (hl : Bys l) (hm : Bys m) (h : strN l = strN m) : l = m := u8s_inj hl hm (by rw [← strN_list, ← strN_list, h])
theorem strN_app (l m : List Nat) : strN l ++ strN m = strN (l ++ m) := by
  apply ByteArray.ext
  apply Array.toList_inj.1
  rw [ByteArray.data_append, Array.toList_append, strN_data, strN_data, strN_data]
  simp [u8s]
theorem strN_size (l : List Nat) : (strN l).size = l.length := by
  have := congrArg List.length (strN_data l)
  simpa [u8s] using this
theorem less_val : ∀ (l m : List Nat), l.length = m.length → Bys l → Bys m → Op.bytesLess (u8s l) (u8s m) = decide (val l 0 < val m 0)
  | [], [], _, _, _ => rfl
  | [], y :: m, h, _, _ => by simp at h
  | x :: l, [], h, _, _ => by simp at h
  | x :: l, y :: m, h, hl, hm => by
    have hl' : Bys l := fun z hz => hl z (List.mem_cons_of_mem _ hz)
    have hm' : Bys m := fun z hz => hm z (List.mem_cons_of_mem _ hz)
    have e : l.length = m.length := by simpa using h
    have ih := less_val l m e hl' hm'
    have hx := hl x (List.mem_cons_self ..)
    have hy := hm y (List.mem_cons_self ..)
    have a := val_lt l hl'
    have b := val_lt m hm'
    have s1 : val (x :: l) 0 = x * 256 ^ l.length + val l 0 := by rw [val, val_split]; simp
    have s2 : val (y :: m) 0 = y * 256 ^ l.length + val m 0 := by rw [val, val_split, ← e]; simp
    rw [← e] at b
    rw [s1, s2]
    simp only [u8s, List.map_cons, Op.bytesLess]
    rw [show Op.bytesLess (l.map UInt8.ofNat) (m.map UInt8.ofNat) = decide (val l 0 < val m 0) from ih]
    rw [Bool.eq_iff_iff]
    simp only [Bool.or_eq_true, Bool.and_eq_true, decide_eq_true_eq, beq_iff_eq, UInt8.lt_iff_toNat_lt, UInt8.toNat_ofNat']
    rw [Nat.mod_eq_of_lt (by omega : x < 2 ^ 8), Nat.mod_eq_of_lt (by omega : y < 2 ^ 8)]
    rcases Nat.lt_trichotomy x y with h1 | rfl | h1
    · have := Nat.mul_le_mul_right (256 ^ l.length) (show x + 1 ≤ y from h1)
      rw [Nat.add_mul] at this
      constructor
      · intro _; omega
      · intro _; exact Or.inl h1
    · constructor
      · rintro (h2 | ⟨_, h2⟩) <;> omega
      · intro h2; exact Or.inr ⟨rfl, by omega⟩
    · have := Nat.mul_le_mul_right (256 ^ l.length) (show y + 1 ≤ x from h1)
      rw [Nat.add_mul] at this
      constructor
      · rintro (h2 | ⟨h2, _⟩)
        · omega
        · have := u8_inj hx hy h2; omega
      · intro h2; omega
/-- of two numbers, not below 0, the greater one has the greater bytes. -/
theorem less_lay (a b : Int) (k : Nat) (ha : 0 ≤ a) (hb : 0 ≤ b) (ha' : a < 256 ^ k) (hb' : b < 256 ^ k) : Op.bytesLess (strN (lay a k)).toList (strN (lay b k)).toList = decide (a < b) := by
  rw [strN_list, strN_list, less_val _ _ (by rw [lay_len, lay_len]) (lay_bys a k) (lay_bys b k)]
  have e1 := val_lay a k
  have e2 := val_lay b k
  rw [Int.emod_eq_of_lt ha ha'] at e1
  rw [Int.emod_eq_of_lt hb hb'] at e2
  rw [Bool.eq_iff_iff]
  simp only [decide_eq_true_eq]
  omega
theorem beq_str (a b : ByteArray) : (a.toList == b.toList) = decide (a = b) := by
  rw [ByteArray.toList_eq, ByteArray.toList_eq, Bool.eq_iff_iff]
  simp only [beq_iff_eq, decide_eq_true_eq]
  constructor
  · intro e
    exact ByteArray.ext (Array.ext' e)
  · rintro rfl; rfl
end Go.Proofs.Ytllficloadncfaa.oct

/-
  Readers and bytes in worlds that have drawn, and pieces of bytes that came in. Conditions: as said.
-/
namespace Go.Proofs.Ytllficloadncfaa.oct
open Go.ChangeShapes Go.WideShapes Go.ChangeAt Go.RowKit
open om mem
set_option linter.unusedVariables false
set_option maxRecDepth 100000

theorem str_drew {W : World} {v : Value} {l : List Nat} (h : RdW W v l) (n : Nat) : (convert 29 9 v).run Try.prog (W.drewN n) = .ok (.string (strN l)) (W.drewN n) := str_of (h.below (bel_drewN (Below.refl _ _) n))
theorem Rdr.drew {T : TypeId} {lo hi : Nat} {W : World} {g : Nat} {l : List Nat} {f : Bool} (h : Rdr T lo hi W g l f) (n : Nat) : Rdr T lo hi (W.drewN n) g l f := h.below (bel_drewN (Below.refl _ _) n)
theorem RdW.head {W : World} {A : Option Addr} {l : List Nat} {c : Nat} (h : RdW W (.slice A l.length c) l) (f : Nat) (hf : f ≤ l.length) : RdW W (.slice A f c) (l.take f) := by
  obtain ⟨A', cap, e, hc, hz, hr⟩ := h
  cases e
  refine ⟨A, c, by rw [List.length_take, Nat.min_eq_left hf], by rw [List.length_take]; omega, hz, fun hne => ?_⟩
  have h0 : l ≠ [] := fun e => by subst e; simp at hne
  obtain ⟨b, o, hA, hcell⟩ := hr h0
  refine ⟨b, o, hA, fun k hk => ?_⟩
  rw [List.length_take] at hk
  rw [List.getElem_take]
  exact hcell k (by omega)
theorem own_len {base : Nat} {W : World} {v : Value} {l : List Nat} (h : Own base W v l) : ∃ A c, v = .slice A l.length c := by
  rcases h.2 with ⟨rfl, hn⟩ | ⟨g, cap, cur, rfl, _⟩
  · exact ⟨none, 0, by rw [hn]⟩
  · exact ⟨_, _, rfl⟩
theorem Rdr.lo_le {T : TypeId} {lo hi : Nat} {W : World} {g : Nat} {l : List Nat} {f : Bool} (h : Rdr T lo hi W g l f) : lo ≤ g := h.1
end Go.Proofs.Ytllficloadncfaa.oct

/-
  What bytes.Equal and package head's Decode answer. Condition: the slices that are handed in read as bytes.
-/
namespace Go.Proofs.Ytllficloadncfaa.head
open Go.ChangeShapes Go.WideShapes Go.ChangeAt Go.RowKit
open om mem oct hd
set_option linter.unusedVariables false
set_option maxRecDepth 100000

theorem strN_eq {l m : List Nat} (hl : Bys l) (hm : Bys m) : ((strN l).toList == (strN m).toList) = decide (l = m) := by
  rw [beq_str, Bool.eq_iff_iff]
  simp only [decide_eq_true_eq]
  exact ⟨strN_inj hl hm, fun e => by rw [e]⟩
theorem RdW.tail {W : World} {A : Option Addr} {l : List Nat} {c : Nat} (h : RdW W (.slice A l.length c) l) (f : Nat) (hf : f ≤ l.length) : RdW W (.slice (tlA A c f) (l.length - f) (c - f)) (l.drop f) := by
  obtain ⟨A', cap, e, hc, hz, hr⟩ := h
  cases e
  have hl : (l.drop f).length = l.length - f := List.length_drop
  refine ⟨tlA A c f, c - f, by rw [hl], by rw [hl]; omega, fun e => ?_, fun hne => ?_⟩
  · cases A with
    | none => have := hz rfl; omega
    | some a => unfold tlA at e; split at e <;> cases e
  · have hp : 0 < l.length - f := by rw [← hl]; exact List.length_pos_iff.2 hne
    obtain ⟨b, o, rfl, hcell⟩ := hr (List.ne_nil_of_length_pos (by omega))
    refine ⟨b, o + f, ?_, fun k hk => ?_⟩
    · unfold tlA
      rw [if_neg (by omega)]
      simp [Addr.add]
    · rw [hl] at hk
      rw [List.getElem_drop, show o + f + k = o + (f + k) by omega]
      exact hcell (f + k) (by omega)
/-- one of the six numbers. -/
theorem num_one (m : List Nat) (hm : Bys m) (hl : m.length = 44) (j : Nat) (hj : j < 6) (k : Nat) (hk : k = 20 + 4 * j) (k' : Nat) (hk' : k' = 20 + 4 * (j + 1)) (lo hi : Nat) (W : World) (g : Nat) (h : Rdr 95 lo hi W g (m.drop k) false) :
    Calls Try.prog 49 #[.pointer (some ⟨g, 0, none⟩), .int .i64 4] W fun e w' => e = .returned (.int .i64 (at4 m j)) ∧ Rdr 95 lo hi w' g (m.drop k') false ∧ Keep g W w' := by
  subst hk hk'
  have hok : okB 4 (m.drop (20 + 4 * j)) = true := by rw [oct.ok_iff, List.length_drop]; omega
  refine (num_at lo hi W g _ false 4 h ⟨by decide, by decide⟩ (by rw [List.length_drop]; omega) (hm.drop _)).mono ?_
  rintro e w' ⟨rfl, hr, hk⟩
  rw [nz_yes (by unfold Sz; omega)] at hr ⊢
  rw [rst_yes hok, fl_yes hok, List.drop_drop] at hr
  rw [pre_yes hok]
  exact ⟨rfl, hr, hk⟩
/-- 'return h, ok', h a struct in the result's row. -/
theorem end_pair {fn : Func} {R : Ending → World → Prop} {p q : Tmp} {ty : TypeId} (hr : fn.results = #[.cell p ty, .tmp q]) (a : Act) (w : World) (g : Nat) (t : TypeId) (c : Array Value) (fs : Array Field) (v : Value)
    (hp : a.tmps.getD p undef = .pointer (some ⟨g, 0, none⟩)) (hq : a.tmps.getD q undef = v) (hg : w.heap[g]? = some (.cells c t (0, 0))) (hu : Try.prog.underlying ty = some (.struct fs))
    (hi : (Try.prog.info? ty).map (·.size) = some c.size) (hdf : a.defers = []) (h : R (.returned (.tuple #[.agg c, v])) w) : bodyPost Try.prog fn R .ret a w := by
  refine bodyPost_ret (v := .tuple #[.agg c, v]) ?_ hdf h
  have hp' : a.tmps[p]?.getD undef = .pointer (some ⟨g, 0, none⟩) := by simpa using hp
  have hq' : a.tmps[q]?.getD undef = v := by simpa using hq
  simp [results, hr, hp', hq', asAddr, run_loadVar_row w g t ty c (0, 0) _ hg hu rfl hi]
/-- the cells of a head. -/
def hcs (h : Hd) : Array Value := #[.int .i64 h.v, .int .i64 h.ut, .int .i64 h.sd, .int .i64 h.lp, .int .i64 h.tm, .int .i64 h.ty, .int .i64 h.ch]
theorem hcs_one (h : Hd) : (hcs h).all (·.oneCell') = true := by simp [hcs, Value.oneCell']
theorem szH : (Try.prog.info? 28).map (·.size) = some 7 := by kernel_rfl
def DecTold (f : Int → Int) (l : List Nat) (w : World) (e : Ending) (w' : World) : Prop := e = .returned (.tuple #[.agg (hcs (dec f l)), .bool (isB f l)]) ∧ Below w.heap.size w w'
theorem at4_take (l : List Nat) (k : Nat) (hk : k < 6) : at4 (l.take 44) k = at4 l k := by
  unfold at4
  rw [List.drop_take, List.take_take, Nat.min_eq_left (by omega)]
theorem four_take (l : List Nat) : (l.take 44).getD 4 0 = l.getD 4 0 := by
  simp [List.getD]
theorem cnd_take (f : Int → Int) (l : List Nat) : cnd f (l.take 44) = cnd f l := by
  unfold cnd
  rw [four_take, at4_take l 0 (by decide), at4_take l 1 (by decide), at4_take l 2 (by decide), at4_take l 3 (by decide), at4_take l 4 (by decide), at4_take l 5 (by decide)]
theorem parts {w : World} {A : Option Addr} {l : List Nat} {c : Nat} (h : RdW w (.slice A l.length c) l) (h44 : 44 ≤ l.length) :
    RdW w (.slice A 44 c) (l.take 44) ∧ RdW w (.slice (tlA A c 20) 24 (c - 20)) ((l.take 44).drop 20) ∧ 44 ≤ c ∧ ∃ b o, A = some ⟨b, o, none⟩ ∧ ∀ W, Below w.heap.size w W → W.cell? ⟨b, o + 4, none⟩ = some (.int .u8 (l.getD 4 0 : Nat)) := by
  have hl : (l.take 44).length = 44 := by rw [List.length_take]; omega
  have h1 := h.head 44 h44
  have h2 := RdW.tail (l := l.take 44) (by rw [hl]; exact h1) 20 (by omega)
  rw [hl] at h2
  obtain ⟨A', c', e, hc, _, hr⟩ := h
  cases e
  obtain ⟨b, o, rfl, hcell⟩ := hr (List.ne_nil_of_length_pos (by omega))
  have h4 := hcell 4 (by omega)
  refine ⟨h1, h2, by omega, b, o, rfl, fun W hb => ?_⟩
  rw [(hb.cell (p := ⟨b, o + 4, none⟩) (World.block_lt_of_cell? w _ h4)).trans h4]
  have h5 : 4 < l.length := by omega
  simp [List.getD, h5]
end Go.Proofs.Ytllficloadncfaa.head

/-
  'append' onto a row of a call's own: where the new row lies. Nothing of any program.
-/
namespace Go.Proofs.Ytllficloadncfaa.apl
open Go.ChangeShapes Go.WideShapes Go.ChangeAt Go.RowKit
set_option linter.unusedVariables false
set_option maxRecDepth 100000

theorem run_where {P : Program} (w : World) (base : Nat) (t ty e : TypeId) (i : TypeInfo) (z : Value) (size bytes : Nat) (ht : P.underlying t = some (.slice e)) (hi : P.info? e = some i) (hz : i.zero = some z)
    (hsize : i.size = size) (hby : i.bytes = bytes) (hzs : z.cells.size = size) (hsz : 0 < size)
    (v : Value) (n : Nat) (xs : List Value) (hown : w.ownsRow base e size v n xs)
    (a : Addr) (m c : Nat) (news : List Value) (hm : 0 < m) (hl : news.length = m * size) (hnews : ∀ j u, news[j]? = some u → w.cell? (a.add j) = some u) (h1 : ∀ u ∈ news, u.oneCell' = true)
    (h63 : n + m ≤ maxLen) (hbytes : (n + m) * bytes ≤ 140737488355328) (hbase : base ≤ w.heap.size) :
    ∃ v' w', (Builtin.append_ #[t, t] ty #[v, .slice (some a) m c]).run P w = .ok v' w' ∧ w'.ownsRow base e size v' (n + m) (xs ++ news) ∧ w.grownBy w' v.ownBlock ∧
      (v'.ownBlock = v.ownBlock ∨ ∃ g, v'.ownBlock = some g ∧ w.heap.size ≤ g) := by
  obtain ⟨v', w', hr, ho, hg, _⟩ := run_append_own (P := P) w base t ty e i z size bytes ht hi hz hsize hby hzs hsz v n xs hown a m c news hl hnews h1 h63 hbytes hbase
  refine ⟨v', w', hr, ho, hg, ?_⟩
  have hsmall : n + m ≤ 9223372036854775807 := by simp only [maxLen] at h63; omega
  rcases hown.2 with ⟨rfl, rfl⟩ | ⟨g, cap, cur, rfl, hbg, hh, hnc, hcm, hcs, htake⟩
  · right
    have := run_append_nil (P := P) w t ty e i z ht hi hz a m c news (by rw [hl, hsize]) hnews (by omega) (by omega) (by rw [hby]; have hb := hbytes; simp only [Nat.zero_add] at hb; omega)
    rw [this] at hr
    injection hr with h1 h2
    subst h1
    exact ⟨_, rfl, Nat.le_refl _⟩
  · by_cases hroom : n + m ≤ cap
    · left
      have hfit : n * i.size + news.length ≤ cur.size := by rw [hl, hcs, hsize, ← Nat.add_mul]; exact Nat.mul_le_mul_right _ hroom
      have := run_append_room (P := P) w t ty e i ht hi g n cap cur hh a m c news (by rw [hl, hsize]) hnews h1 hroom hfit
      rw [this] at hr
      injection hr with h1 h2
      subst h1
      rfl
    · right
      have := run_append_grow (P := P) w t ty e i z ht hi hz ⟨g, 0, none⟩ n cap xs (by rw [hown.1, hsize]) (fun j u hu => hown.cells (g := g) rfl j u hu) a m c news (by rw [hl, hsize]) hnews (by omega) (by omega) (by rw [hby]; exact growslice_fits (by omega) hbytes)
      rw [this] at hr
      injection hr with h1 h2
      subst h1
      exact ⟨_, rfl, Nat.le_refl _⟩
theorem list_app {P : Program} {ops : Array Oper} {o : Oper} {rest : List Oper} {a : Act} {W : World} {Q : Exit → Act → World → Prop} (hgd : o.guard = none) (s x : Operand) (t u : TypeId)
    (ho : o.op = .call { callee := .builtin .append, args := #[s, x], argTypes := #[t, u] }) (va vx v : Value) (W' : World) (hs : a.eval s = va) (hx : a.eval x = vx)
    (run : (Builtin.append_ #[t, u] o.type #[va, vx]).run P W = .ok v W') (h : wpList P ops Q rest (a.put o.dst v) W') : wpList P ops Q (o :: rest) a W := by
  refine wpList_plain hgd fun K hK => ?_
  unfold Oper.wp execOp
  simp only [ho, resolve, invoke, builtin, Sem.run_bind, Sem.run_pure, Result.andThen_ok, List.map_toArray, List.map_cons, List.map_nil, hs, hx, run]
  exact hK _ _ h
end Go.Proofs.Ytllficloadncfaa.apl
