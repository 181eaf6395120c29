/-
  What package abbr's Pool answers: the names, each of them once, and of each where it begins. Condition: there are at most a thousand names, and each is no longer than an int can tell.
-/
import Derived.Test.YtllficloadncfaaG10
import Derived.WalkSpells
import Derived.Test.YtllficloadncfaaG09
namespace Go.Proofs.Ytllficloadncfaa.abr
open Go.ChangeShapes Go.WideShapes Go.ChangeAt Go.RowKit
open lx ab mem
open Go.Maps (Keyed string_keyed)
open Go.ChangeMaps Go.MapKept Go.WideElems
set_option linter.unusedVariables false
set_option maxRecDepth 100000

/-- a builder, a map, a row of numbers. -/
structure Tri (w : World) (p : List UInt8) (D : DataW Unit) (n : Nat) (ns : List Int) (u : Value) (W : World) : Prop where
  bel : Below w.heap.size w W
  bld : Bld w.heap.size w.heap.size p W
  map : Pm (w.heap.size + 1) n D W
  row : IOwn w.heap.size W u ns
theorem tri_size {w : World} {p : List UInt8} {D : DataW Unit} {n : Nat} {ns : List Int} {u : Value} {W : World} (h : Tri w p D n ns u W) : w.heap.size ≤ W.heap.size := h.bel.size
theorem tri_put {w : World} {p : List UInt8} {D D' : DataW Unit} {n n' : Nat} {ns : List Int} {u : Value} {W W' : World} (h : Tri w p D n ns u W) (ho : Pm (w.heap.size + 1) n' D' W') (hg : W.grownBy W' (some (w.heap.size + 1))) : Tri w p D' n' ns u W' :=
  have f := fr_put h.map hg
  ⟨h.bel.grown hg h.bel.size (fun k hk => by injection hk with hk; omega), bld_fr h.bld f (fun _ => not_bm), ho, iown_fr h.row f (fun _ => not_im)⟩
theorem tri_str {w : World} {p p' : List UInt8} {D : DataW Unit} {n : Nat} {ns : List Int} {u : Value} {W W' : World} (h : Tri w p D n ns u W) (h1 : Bld w.heap.size w.heap.size p' W') (h2 : Below w.heap.size W W') (f : Fr isB W W') : Tri w p' D n ns u W' :=
  ⟨h.bel.trans h2, h1, pm_fr h.map f (fun o h1 h2 => not_bm h2 h1), iown_fr h.row f (fun o h1 h2 => not_bi h2 h1)⟩
theorem tri_app {w : World} {p : List UInt8} {D : DataW Unit} {n : Nat} {ns ns' : List Int} {u u' : Value} {W W' : World} (h : Tri w p D n ns u W) (h1 : IOwn w.heap.size W' u' ns') (hg : W.grownBy W' u.ownBlock) : Tri w p D n ns' u' W' :=
  have f := fr_app h.row hg
  ⟨iown_below h.row h.bel h.bel.size hg, bld_fr h.bld f (fun _ => not_bi), pm_fr h.map f (fun o h1 h2 => not_im h2 h1), h1⟩
theorem tri_drew {w : World} {p : List UInt8} {D : DataW Unit} {n : Nat} {ns : List Int} {u : Value} {W : World} (h : Tri w p D n ns u W) (k : Nat) : Tri w p D n ns u (W.drewN k) :=
  ⟨bel_drewN h.bel k, bld_fr h.bld ((Fr.refl (fun _ => False) W).drewN k) (fun _ _ h => h), h.map, h.row⟩
/-- what stands behind the names Y. -/
def At (w : World) (Y : List Nm) (u : Value) (W : World) : Prop := ∃ D n, n ≤ Y.length ∧ Tri w (pl (dst Y)) D n (Y.map fun y => (st y (dst Y) : Int)) u W ∧ MD D (dst Y)
def PHead (X : List ByteArray) (w : World) (v t : Value) (W : World) : Prop :=
  ∃ (j : Nat) (u : Value), j ≤ X.length ∧ u = v ∧ t = .int .i64 (j : Nat) ∧ okB ((X.take j).map L) = true ∧ At w ((X.take j).map L) u W
/-- what Pool answers. -/
def PTold (X : List Nm) (w : World) (e : Ending) (w' : World) : Prop :=
  ∃ A c, e = .returned (.tuple #[.string (B (pT X)), .slice A (pN X).length c, .bool (okB X)]) ∧ Ints w' A (pN X) ∧ Below w.heap.size w w'
/-- the same, and the places lie in a row of the call's own. -/
def POwn (X : List Nm) (w : World) (e : Ending) (w' : World) : Prop :=
  ∃ u, e = .returned (.tuple #[.string (B (pT X)), u, .bool (okB X)]) ∧ IOwn w.heap.size w' u (pN X) ∧ Below w.heap.size w w'
theorem pown_told {X : List Nm} {w w' : World} {e : Ending} (h : POwn X w e w') : PTold X w e w' := by
  obtain ⟨u, rfl, ho, hb⟩ := h
  obtain ⟨A, c, rfl, hi, _⟩ := ints_own ho
  exact ⟨A, c, rfl, hi, hb⟩
theorem ptold_no {X : List Nm} {w w' : World} (h : okB X = false) (hb : Below w.heap.size w w') : POwn X w (.returned (.tuple #[.string ⟨#[]⟩, .slice none 0 0, .bool false])) w' := by
  refine ⟨.slice none 0 0, ?_, ?_, hb⟩
  · unfold pT
    rw [h]
    rfl
  · unfold pN
    rw [h]
    exact World.ownsRow_nil w' _ _ _
theorem ptold_yes {X : List Nm} {w w' : World} {u : Value} (h : okB X = true) (hb : Below w.heap.size w w') (hr : IOwn w.heap.size w' u (X.map fun y => (st y (dst X) : Int))) : POwn X w (.returned (.tuple #[.string (B (pl (dst X))), u, .bool true])) w' := by
  have e : pN X = X.map fun y => (st y (dst X) : Int) := if_pos h
  refine ⟨u, ?_, by rw [e]; exact hr, hb⟩
  unfold pT
  rw [if_pos h, h]
theorem take_all {X : List ByteArray} {j : Nat} (hj : j < X.length) : ∃ Z, X.map L = (X.take j).map L ++ L X[j] :: Z := by
  refine ⟨(X.drop (j + 1)).map L, ?_⟩
  rw [← List.map_cons, ← List.drop_eq_getElem_cons hj, ← List.map_append, List.take_append_drop]
theorem take_snoc {X : List ByteArray} {j : Nat} (hj : j < X.length) : (X.take (j + 1)).map L = (X.take j).map L ++ [L X[j]] := by
  rw [List.take_succ_eq_append_getElem hj, List.map_append, List.map_cons, List.map_nil]
theorem bad_right {X : List ByteArray} {j : Nat} (hj : j < X.length) (h : rt (L X[j]) = false) : okB (X.map L) = false := by
  obtain ⟨Z, e⟩ := take_all hj
  rw [← Bool.not_eq_true, ok_iff]
  intro k
  rw [k.1 (L X[j]) (by rw [e]; simp)] at h
  cases h
theorem bad_long {X : List ByteArray} {j : Nat} (hj : j < X.length) (h : 256 < (pl (dst ((X.take j).map L ++ [L X[j]]))).length) : okB (X.map L) = false := by
  obtain ⟨Z, e⟩ := take_all hj
  rw [← Bool.not_eq_true, ok_iff]
  intro k
  have := pl_mono ((X.take j).map L ++ [L X[j]]) Z
  rw [show ((X.take j).map L ++ [L X[j]]) ++ Z = X.map L by rw [e]; simp] at this
  omega
theorem ok_more {Y : List Nm} {x : Nm} (h : okB Y = true) (hx : rt x = true) (hl : (pl (dst (Y ++ [x]))).length ≤ 256) : okB (Y ++ [x]) = true := by
  rw [ok_iff] at h ⊢
  refine ⟨fun y hy => ?_, hl⟩
  rcases List.mem_append.1 hy with k | k
  · exact h.1 y k
  · rw [List.mem_singleton.1 k]; exact hx
theorem lookup_had {ops : Array Oper} {rest : List Oper} {o : Oper} {a : Act} {Q : Exit → Act → World → Prop} (hg : o.guard = none) (m x : Operand) (hop : o.op = Op.lookup 79 m x true) {b n : Nat} {D : DataW Unit} {ds : List Nm} (W : World) (hown : Pm b n D W) (s : ByteArray) (hs : s.size ≤ 1000)
    (hm : a.eval m = .map (some b)) (hx : a.eval x = .string s) (h : MD D ds) (hin : L s ∈ ds) (hK : wpList Try.prog ops Q rest (a.put o.dst (.tuple #[.int .i64 (st (L s) ds : Nat), .bool true])) W) : wpList Try.prog ops Q (o :: rest) a W := by
  refine wpList_lookup_own_ok_int W hg m x 79 hop 9 3 .i64 lawS Try.underlying79 Try.underlying3 (zeroI _) b n D hm hown _ _ hx (key_is hs) ?_
  intro c hat hwc
  rw [(h (L s)).2 hin] at hat
  injection hat with hat
  injection hat with _ hat
  rw [(h (L s)).1, decide_eq_true hin, ← hat]
  exact hK
theorem lookup_new {ops : Array Oper} {rest : List Oper} {o : Oper} {a : Act} {Q : Exit → Act → World → Prop} (hg : o.guard = none) (m x : Operand) (hop : o.op = Op.lookup 79 m x true) {b n : Nat} {D : DataW Unit} {ds : List Nm} (W : World) (hown : Pm b n D W) (s : ByteArray) (hs : s.size ≤ 1000)
    (hm : a.eval m = .map (some b)) (hx : a.eval x = .string s) (h : MD D ds) (hin : L s ∉ ds) (hK : wpList Try.prog ops Q rest (a.put o.dst (.tuple #[.int .i64 0, .bool false])) W) : wpList Try.prog ops Q (o :: rest) a W := by
  refine wpList_lookup_own_ok_int W hg m x 79 hop 9 3 .i64 lawS Try.underlying79 Try.underlying3 (zeroI _) b n D hm hown _ _ hx (key_is hs) ?_
  intro c hat hwc
  have hh : Maps.has D (.string (L s)) = false := by rw [(h (L s)).1, decide_eq_false hin]
  rw [Maps.atKey_of_not_has hh] at hat
  injection hat with hat
  injection hat with _ hat
  rw [hh, ← hat]
  exact hK
theorem len_is {B b : Nat} {l : List UInt8} {w : World} (h : Bld B b l w) {N : Nat} (hN : l.length = N) : Calls Try.prog 39 #[.pointer (some ⟨b, 0, none⟩)] w fun e w' => e = .returned (.int .i64 (N : Nat)) ∧ w = w' := by
  subst hN
  exact len_at B b l w h
theorem tri_name {w : World} {p : List UInt8} {D : DataW Unit} {n : Nat} {ns : List Int} {u : Value} {W : World} (h : Tri w p D n ns u W) (s : ByteArray) (hp : p.length < 10000000) (hs : s.size < 10000000) :
    Calls Try.prog 40 #[.pointer (some ⟨w.heap.size, 0, none⟩), .string s] W fun e w' => e = .returned (.tuple #[.int .i64 (s.size : Nat), .nilIface]) ∧ Tri w (p ++ L s) D n ns u w' :=
  (string_k _ _ p s W h.bld hp hs h.bel.size).mono fun _ _ ⟨e, h1, h2, h3⟩ => ⟨e, tri_str h h1 h2 h3⟩
theorem tri_text {w : World} {p : List UInt8} {D : DataW Unit} {n : Nat} {ns : List Int} {u : Value} {W : World} (h : Tri w p D n ns u W) :
    Calls Try.prog 41 #[.pointer (some ⟨w.heap.size, 0, none⟩)] W fun e w' => e = .returned (.string (B p)) ∧ Below w.heap.size w w' ∧ IOwn w.heap.size w' u ns :=
  (text_at _ _ p W h.bld h.bel.size).mono fun _ _ ⟨e, h1, h2⟩ => ⟨e, h.bel.trans h1, iown_fr h.row h2 (fun o h1 h2 => not_bi h2 h1)⟩
/-- the start. -/
theorem at_start (w : World) (c : Nat) (hc : c < 8000000000) :
    At w [] (.slice (some ⟨w.heap.size + 2, 0, none⟩) 0 c) (((w.alloc (.cells #[.pointer none, .slice none 0 0] 78)).alloc (.map #[] 0)).alloc (.cells (madeCells #[.int .i64 0] c) 3)) := by
  have hb : Below w.heap.size w (((w.alloc (.cells #[.pointer none, .slice none 0 0] 78)).alloc (.map #[] 0)).alloc (.cells (madeCells #[.int .i64 0] c) 3)) := bal (bal (bal (Below.refl _ _) _) _) _
  have fr : ∀ (W : World) (o : Obj), Fr (fun _ => False) W (W.alloc o) := fun W o => Fr.below (bal (Below.refl _ _) _)
  have h1 : Bld w.heap.size w.heap.size [] (w.alloc (.cells #[.pointer none, .slice none 0 0] 78)) := Lib.fresh_isBuilder 78 5 w
  have h2 : Pm (w.heap.size + 1) 0 (.map []) ((w.alloc (.cells #[.pointer none, .slice none 0 0] 78)).alloc (.map #[] 0)) := by
    have := World.ownsMap_made (H := Unit) (w.alloc (.cells #[.pointer none, .slice none 0 0] 78)) Try.prog 9 (plainElem Try.prog 3)
    rw [show (w.alloc (.cells #[.pointer none, .slice none 0 0] 78)).heap.size = w.heap.size + 1 by simp] at this
    exact this
  have h3 := make_own w.heap.size ((w.alloc (.cells #[.pointer none, .slice none 0 0] 78)).alloc (.map #[] 0)) c (by simp; omega) hc
  rw [show ((w.alloc (.cells #[.pointer none, .slice none 0 0] 78)).alloc (.map #[] 0)).heap.size = w.heap.size + 2 by simp] at h3
  exact ⟨_, 0, Nat.le_refl _, ⟨hb, bld_fr (bld_fr h1 (fr _ _) (fun _ _ h => h)) (fr _ _) (fun _ _ h => h), pm_fr h2 (fr _ _) (fun _ _ h => h), h3⟩, md_none⟩
set_option maxHeartbeats 4000000 in
theorem pool_own (X : List ByteArray) (A : Option Addr) (cap : Nat) (w : World) (hS : lines.Strs w A X) (hn : X.length ≤ 1000) (hz : ∀ x ∈ X, x.size ≤ 9223372036854775807) : Calls Try.prog 13 #[.slice A X.length cap] w (POwn (X.map L) w) := by
  have hmk := fun W => make_run W X.length (X.length : Int) rfl (by omega)
  have ST := Lib.hid (at_start w X.length (by omega))
  have hmm := @run_makeMap Try.prog
  go_enter Try.func13, Try.ntmps13
  go_wp2
  clear hmk hmm
  go_loopw [7, 18] (fun v t W => PHead X w v t W) (fun _ t _ => X.length - (intOf t).toNat)
  case atStart => exact ⟨0, _, Nat.zero_le _, rfl, rfl, rfl, by simpa using ST.out⟩
  case round =>
    obtain ⟨j, u, hj, rfl, rfl, hok, D, n, hnj, ht, hmd⟩ := hrel
    have hYl : ((X.take j).map L).length = j := by rw [List.length_map, List.length_take]; omega
    by_cases hlt : j < X.length
    · obtain ⟨g, o, rfl, hgl, hcell⟩ := hS (by intro e; rw [e] at hlt; simp at hlt)
      have c0 := (ht.bel.cell (p := ⟨g, o + j, none⟩) hgl).trans (hcell j hlt)
      have hsn := take_snoc hlt
      have BR := Lib.hid (bad_right hlt)
      have BL := Lib.hid (bad_long hlt)
      have hxs := hz (X[j]'hlt) (List.getElem_mem hlt)
      generalize hx : X[j]'hlt = x at *
      have RI := Lib.hid (fun W => right_at x W hxs)
      have HT := Lib.hid ht
      cases hq : rt (L x) with
      | false =>
        rw [hq] at RI
        have R := Lib.hid (ptold_no (BR.out hq) ht.bel)
        clear ht hmd hok hcell hS hsn BR BL hYl hz ST HT hxs hx hgl
        go_wp2_with (go_at_call 38; (with_reducible refine (RI.out _).mono ?_); rintro e w' ⟨rfl, rfl⟩)
        go_ret3
        exact R.out
      | true =>
        rw [hq] at RI
        have HX : Hid (x.size ≤ 1000) := by have := ((rt_iff _).1 hq).2.1; rw [L_len] at this; exact (by omega : x.size ≤ 1000)
        generalize hY : (X.take j).map L = Y at *
        have hl0 := ((ok_iff Y).1 hok).2
        have HM := Lib.hid hmd
        have HL : Hid ((Y.map fun y => (st y (dst Y) : Int)).length < 8000000000) := by rw [List.length_map, hYl]; exact (by omega : j < 8000000000)
        by_cases hin : L x ∈ dst Y
        · have HI := Lib.hid hin
          obtain ⟨N, hN⟩ : ∃ N, (pl (dst Y)).length = N := ⟨_, rfl⟩
          have n0 : N ≤ 256 := by rw [← hN]; exact hl0
          have HN := Lib.hid hN
          have ed : dst (Y ++ [L x]) = dst Y := by rw [dst_snoc, nx_had hin]
          have STEP : Hid (∀ v' w1, IOwn w.heap.size w1 v' ((Y.map fun y => (st y (dst Y) : Int)) ++ [(st (L x) (dst Y) : Int)]) → wr.grownBy w1 u.ownBlock → PHead X w v' (.int .i64 ((j : Int) + 1)) w1) := fun v' w1 h1 hg => by
            refine ⟨j + 1, v', hlt, rfl, rfl, ?_, ?_⟩
            · rw [hsn]
              exact ok_more hok hq (by rw [ed]; exact hl0)
            · rw [hsn]
              refine ⟨D, n, by rw [List.length_append]; omega, ?_, by rw [ed]; exact hmd⟩
              rw [at_snoc, ed, nx_had hin]
              exact tri_app ht h1 hg
          clear ht hmd hok hcell hS hsn BR BL hYl hz ST hxs hx hgl hin hl0 ed hN hY hq
          go_wp2_with (first
            | (go_at_call 38; (with_reducible refine (RI.out _).mono ?_); rintro e w' ⟨rfl, rfl⟩)
            | (at_lookup; refine lookup_had rfl _ _ rfl wr HT.out.map x HX.out rfl rfl HM.out HI.out ?_)
            | (go_at_call 39; (with_reducible refine (len_is HT.out.bld HN.out).mono ?_); rintro e w' ⟨rfl, rfl⟩)
            | (at_builtin; refine app_int rfl _ _ rfl w.heap.size wr u _ _ rfl rfl HT.out.row HL.out HT.out.bel.size ?_; intro v' w1 ho' hg))
          go_roundw
          case rel => exact STEP.out _ _ ho' hg
          case measure => simp [intOf]; omega
        · have HI := Lib.hid hin
          obtain ⟨N, hN⟩ : ∃ N, (pl (dst Y)).length = N := ⟨_, rfl⟩
          have n0 : N ≤ 256 := by rw [← hN]; exact hl0
          have HN := Lib.hid hN
          have ed : dst (Y ++ [L x]) = dst Y ++ [L x] := by rw [dst_snoc, nx_new hin]
          have ep : pl (dst (Y ++ [L x])) = pl (dst Y) ++ L x ++ L ⟨#[0]⟩ := by rw [ed, pl_snoc]; rfl
          obtain ⟨N1, hN1⟩ : ∃ N, (pl (dst Y) ++ L x ++ L ⟨#[0]⟩).length = N := ⟨_, rfl⟩
          have HN1 := Lib.hid hN1
          have HB0 : Hid ((pl (dst Y)).length < 10000000) := (by omega : (pl (dst Y)).length < 10000000)
          have HB1 : Hid ((pl (dst Y) ++ L x).length < 10000000) := by
            have := HX.out
            rw [← L_len] at this
            show (pl (dst Y) ++ L x).length < 10000000
            rw [List.length_append]
            omega
          have HX1 : Hid (x.size < 10000000) := by have := HX.out; exact (by omega : x.size < 10000000)
          have hn1 : n < maxLen := by unfold maxLen; omega
          have HK := Lib.hid (key_is HX.out)
          have HP := Lib.hid (pm_map ht.map)
          have WF : Hid ((Lit.int .i64 (N : Nat)).wf = true) := WalkArith.wf_i64 (by omega)
          by_cases hl1 : N1 ≤ 256
          · have STEP : Hid (∀ v' w4 w1, Tri w (pl (dst Y) ++ L x ++ L ⟨#[0]⟩) (D.put (.string (L x)) (num (N : Nat))) (n + 1) (Y.map fun y => (st y (dst Y) : Int)) u w4 → IOwn w.heap.size w1 v' ((Y.map fun y => (st y (dst Y) : Int)) ++ [(N : Int)]) → w4.grownBy w1 u.ownBlock → PHead X w v' (.int .i64 ((j : Int) + 1)) w1) := fun v' w4 w1 h0 h1 hg => by
              refine ⟨j + 1, v', hlt, rfl, rfl, ?_, ?_⟩
              · rw [hsn]
                exact ok_more hok hq (by rw [ep, hN1]; exact hl1)
              · rw [hsn]
                refine ⟨D.put (.string (L x)) (num (N : Nat)), n + 1, by rw [List.length_append]; simp; omega, ?_, by rw [ed, ← hN]; exact md_put HP.out hmd hin⟩
                rw [at_snoc, ep, nx_new hin, st_new hin, hN]
                exact tri_app h0 h1 hg
            clear ht hmd hok hcell hS hsn BR BL hYl hz ST hxs hx hgl hin hl0 ed ep hN hN1 hY hq
            go_wp2_with (first
              | (go_at_call 38; (with_reducible refine (RI.out _).mono ?_); rintro e w' ⟨rfl, rfl⟩)
              | (at_lookup; refine lookup_new rfl _ _ rfl wr HT.out.map x HX.out rfl rfl HM.out HI.out ?_)
              | (go_at_call 39; (with_reducible refine (len_is HT.out.bld HN.out).mono ?_); rintro e w' ⟨rfl, rfl⟩)
              | (at_mapUpdate; refine wpList_mapUpdate_own wr rfl _ _ _ 79 rfl 9 3 lawS Try.underlying79 (plainElem Try.prog 3) (w.heap.size + 1) n D rfl HT.out.map hn1 _ _ (.string (L x)) rfl rfl HK.out _ [] (plainElem_int Try.underlying3 WF.out) ?_; intro w2 ho2 hg2; replace HT := Lib.hid (tri_put HT.out ho2 hg2); clear ho2 hg2)
              | (go_at_call 40; (with_reducible refine (tri_name HT.out x HB0.out HX1.out).mono ?_); rintro e w3 ⟨rfl, h3⟩; replace HT := Lib.hid h3; clear h3)
              | (go_at_call 40; (with_reducible refine (tri_name HT.out ⟨#[0]⟩ HB1.out (by decide)).mono ?_); rintro e w4 ⟨rfl, h4⟩; replace HT := Lib.hid h4; clear h4)
              | (go_at_call 39; (with_reducible refine (len_is HT.out.bld HN1.out).mono ?_); rintro e w' ⟨rfl, rfl⟩)
              | (at_builtin; refine app_int rfl _ _ rfl w.heap.size w4 u _ _ rfl rfl HT.out.row HL.out HT.out.bel.size ?_; intro v' w1 ho' hg))
            go_roundw
            case rel => exact STEP.out _ _ _ HT.out ho' hg
            case measure => simp [intOf]; omega
          · have R := Lib.hid (fun W' (hb : Below w.heap.size w W') => ptold_no (BL.out (by rw [ep, hN1]; omega)) hb)
            have hl2 : 256 < N1 := by omega
            clear ht hmd hok hcell hS hsn BR BL hYl hz ST hxs hx hgl hin hl0 ed ep hN hN1 hY hq hl1
            go_wp2_with (first
              | (go_at_call 38; (with_reducible refine (RI.out _).mono ?_); rintro e w' ⟨rfl, rfl⟩)
              | (at_lookup; refine lookup_new rfl _ _ rfl wr HT.out.map x HX.out rfl rfl HM.out HI.out ?_)
              | (go_at_call 39; (with_reducible refine (len_is HT.out.bld HN.out).mono ?_); rintro e w' ⟨rfl, rfl⟩)
              | (at_mapUpdate; refine wpList_mapUpdate_own wr rfl _ _ _ 79 rfl 9 3 lawS Try.underlying79 (plainElem Try.prog 3) (w.heap.size + 1) n D rfl HT.out.map hn1 _ _ (.string (L x)) rfl rfl HK.out _ [] (plainElem_int Try.underlying3 WF.out) ?_; intro w2 ho2 hg2; replace HT := Lib.hid (tri_put HT.out ho2 hg2); clear ho2 hg2)
              | (go_at_call 40; (with_reducible refine (tri_name HT.out x HB0.out HX1.out).mono ?_); rintro e w3 ⟨rfl, h3⟩; replace HT := Lib.hid h3; clear h3)
              | (go_at_call 40; (with_reducible refine (tri_name HT.out ⟨#[0]⟩ HB1.out (by decide)).mono ?_); rintro e w4 ⟨rfl, h4⟩; replace HT := Lib.hid h4; clear h4)
              | (go_at_call 39; (with_reducible refine (len_is HT.out.bld HN1.out).mono ?_); rintro e w' ⟨rfl, rfl⟩))
            go_ret3
            exact R.out _ HT.out.bel
    · obtain rfl : j = X.length := by omega
      rw [List.take_length] at hok ht hmd hYl
      have HT := Lib.hid ht
      have R := Lib.hid (fun W' (hb : Below w.heap.size w W') (hr : IOwn w.heap.size W' u ((X.map L).map fun y => (st y (dst (X.map L)) : Int))) => ptold_yes hok hb hr)
      clear ht hmd hok hS hYl hz ST
      go_wp2_with (go_at_call 41; (with_reducible refine (tri_text HT.out).mono ?_); rintro e w1 ⟨rfl, hb1, hr1⟩)
      go_ret3
      exact R.out _ hb1 hr1
theorem pool_at (X : List ByteArray) (A : Option Addr) (cap : Nat) (w : World) (hS : lines.Strs w A X) (hn : X.length ≤ 1000) (hz : ∀ x ∈ X, x.size ≤ 9223372036854775807) : Calls Try.prog 13 #[.slice A X.length cap] w (PTold (X.map L) w) :=
  (pool_own X A cap w hS hn hz).mono fun _ _ h => pown_told h
end Go.Proofs.Ytllficloadncfaa.abr

/-
  What block.Count answers. Conditions: the zone's kinds are read, and are no more than a thousand.
-/
namespace Go.Proofs.Ytllficloadncfaa.blk
open Go.ChangeShapes Go.WideShapes Go.ChangeAt Go.RowKit
open om mem oct bk
open head (hcs hcs_one szH end_pair)
set_option linter.unusedVariables false
set_option maxRecDepth 100000

def CTold (z : Zn) (w : World) (e : Ending) (w' : World) : Prop := e = .returned (.tuple #[.agg (hcs (cv z)), .bool (okC z)]) ∧ Below w.heap.size w w'
set_option maxHeartbeats 4000000 in
theorem count_at (A : Option Addr) (a : Nat) (B : Option Addr) (b : Nat) (C : Option Addr) (c : Nat) (z : Zn) (w : World) (h : Tys w A z.ty) (hn : z.ty.length ≤ 1000) (bd : Bd z) : Calls Try.prog 6 #[(.agg #[.slice A z.ty.length a, .slice B z.tr.length b, .slice C z.lp.length c, .string z.ft, .int .i64 z.v])] w (CTold z w) := by
  have T := zbox A a B b C c z w
  have NM : Hid (∀ W, Below w.heap.size w W → Calls Try.prog 14 #[(.agg #[.slice A z.ty.length a, .slice B z.tr.length b, .slice C z.lp.length c, .string z.ft, .int .i64 z.v])] W (NTold z.ty W)) := Lib.hid fun W hb => names_at A a B b C c z W (h.below hb) hn
  have PO : Hid (∀ W A' c', lines.Strs W A' (nm z.ty) → Calls Try.prog 13 #[.slice A' (nm z.ty).length c'] W (fun e w' => ∃ A c, e = .returned (.tuple #[.string (lx.B (ab.pT (nmL z.ty))), .slice A (ab.pN (nmL z.ty)).length c, .bool (ab.okB (nmL z.ty))]) ∧ Below W.heap.size W w')) := Lib.hid fun W A' c' hs =>
    (abr.pool_at (nm z.ty) A' c' W hs (by rw [nm_len]; exact hn) bd.ab).mono fun e w' ⟨A, c, h1, _, h3⟩ => ⟨A, c, h1, h3⟩
  have ps : (lx.B (ab.pT (nmL z.ty))).size = (cnt z).ch := by rw [lx.B_size]; rfl
  have RI : Hid (∀ W, Calls Try.prog 15 #[.agg #[.int .i64 z.v, .int .i64 0, .int .i64 0, .int .i64 z.lp.length, .int .i64 z.tr.length, .int .i64 z.ty.length, .int .i64 (lx.B (ab.pT (nmL z.ty))).size]] W fun e w' => e = .returned (.bool (okC z)) ∧ Below W.heap.size W w') := Lib.hid fun W => by
    rw [ps]
    exact head.right_at (cnt z) W
  have hw0 : Hid (Below w.heap.size w ((w.alloc (.cells #[.slice A z.ty.length a, .slice B z.tr.length b, .slice C z.lp.length c, .string z.ft, .int .i64 z.v] 26)).alloc (.cells #[.int .i64 0, .int .i64 0, .int .i64 0, .int .i64 0, .int .i64 0, .int .i64 0, .int .i64 0] 28))) := Lib.hid (bal (bal (Below.refl _ _) _) _)
  have box := Lib.hid (hp_new1 w (.cells #[.slice A z.ty.length a, .slice B z.tr.length b, .slice C z.lp.length c, .string z.ft, .int .i64 z.v] 26) (.cells #[.int .i64 0, .int .i64 0, .int .i64 0, .int .i64 0, .int .i64 0, .int .i64 0, .int .i64 0] 28))
  have hz0 : Hid (∀ W, Below ((w.alloc (.cells #[.slice A z.ty.length a, .slice B z.tr.length b, .slice C z.lp.length c, .string z.ft, .int .i64 z.v] 26)).alloc (.cells #[.int .i64 0, .int .i64 0, .int .i64 0, .int .i64 0, .int .i64 0, .int .i64 0, .int .i64 0] 28)).heap.size ((w.alloc (.cells #[.slice A z.ty.length a, .slice B z.tr.length b, .slice C z.lp.length c, .string z.ft, .int .i64 z.v] 26)).alloc (.cells #[.int .i64 0, .int .i64 0, .int .i64 0, .int .i64 0, .int .i64 0, .int .i64 0, .int .i64 0] 28)) W → Below (w.alloc (.cells #[.slice A z.ty.length a, .slice B z.tr.length b, .slice C z.lp.length c, .string z.ft, .int .i64 z.v] 26)).heap.size (w.alloc (.cells #[.slice A z.ty.length a, .slice B z.tr.length b, .slice C z.lp.length c, .string z.ft, .int .i64 z.v] 26)) W) := Lib.hid fun W hb => btr (bal (Below.refl _ _) _) hb
  have Q : Hid (∀ w' h k, h = cv z → k = okC z → Below w.heap.size w w' → CTold z w (.returned (.tuple #[.agg (hcs h), .bool k])) w') := Lib.hid fun w' h k e1 e2 hb => ⟨by rw [e1, e2], hb⟩
  by_cases hk : okC z = true
  · have hno := okC_names hk
    have e1 : (⟨z.v, 0, 0, z.lp.length, z.tr.length, z.ty.length, (lx.B (ab.pT (nmL z.ty))).size⟩ : hd.Hd) = cv z := by rw [cv_yes hk, ps]; rfl
    have Q2 := Lib.hid (fun w' => Q.out w' _ true e1 hk.symm)
    rw [hno] at PO
    rw [hk] at RI
    clear e1 hk hno Q h ps bd
    obtain ⟨l, tr, lp, ft, v⟩ := z
    simp only at *
    generalize lx.B (ab.pT (nmL l)) = ps at *
    generalize (ab.pN (nmL l)).length = pn at *
    go_enter Try.func6, Try.ntmps6
    go_wp2_with (first
      | (go_at_call 14; (with_reducible refine (NM.out _ hw0.out).mono ?_); rintro e w1 ⟨A1, c1, rfl, hs1, hb1⟩; have S1 := Lib.hid hs1; have HA1 := Lib.hid hb1; clear hs1 hb1)
      | (go_at_call 13; (with_reducible refine (PO.out _ _ _ S1.out).mono ?_); rintro e w2 ⟨A2, c2, rfl, hb2⟩; have HA2 := Lib.hid (btr HA1.out hb2); obtain ⟨x0, x1, x2, x3, x4, hb3, hs3⟩ := T.out _ (hz0.out _ HA2.out); clear hb2 HA1)
      | (go_at_call 15; (with_reducible refine (RI.out _).mono ?_); rintro e w3 ⟨rfl, hb4⟩; have H3 := Lib.hid (kept (hp_new w2 _) hb4); have d0 := row_cell H3.out 0; have d1 := row_cell H3.out 1; have d2 := row_cell H3.out 2; have d3 := row_cell H3.out 3; have d4 := row_cell H3.out 4; have d5 := row_cell H3.out 5; have d6 := row_cell H3.out 6; have HA3 := Lib.hid (btr (bal HA2.out _) hb4); have BX3 := Lib.hid (kept box.out HA3.out); have HB3 := Lib.hid (btr hw0.out HA3.out); clear hb4)
      | (refine wpList_store_row rfl 28 (.tmp 2) (.tmp 37) rfl (w.heap.size + 1) (hcs ⟨v, 0, 0, lp.length, tr.length, l.length, ps.size⟩) rfl rfl 28 _ BX3.out szH rfl (hcs_one _) ?_))
    refine end_pair Try.results6 _ _ (w.heap.size + 1) _ (hcs ⟨v, 0, 0, lp.length, tr.length, l.length, ps.size⟩) _ _ rfl rfl (setRow_heap _ _ _ _ _ _ BX3.out) Try.underlying28 szH rfl ?_
    exact Q2.out _ (bel_setRow HB3.out (Nat.le_succ _) _)
  · have hk' : okC z = false := by simpa using hk
    have Q2 := Lib.hid (fun w' => Q.out w' _ false (cv_no hk').symm hk'.symm)
    rw [hk'] at RI
    by_cases hno : ab.okB (nmL z.ty) = true
    · rw [hno] at PO
      clear hk hk' hno Q h ps bd
      obtain ⟨l, tr, lp, ft, v⟩ := z
      simp only at *
      generalize lx.B (ab.pT (nmL l)) = ps at *
      generalize (ab.pN (nmL l)).length = pn at *
      go_enter Try.func6, Try.ntmps6
      go_wp2_with (first
        | (go_at_call 14; (with_reducible refine (NM.out _ hw0.out).mono ?_); rintro e w1 ⟨A1, c1, rfl, hs1, hb1⟩; have S1 := Lib.hid hs1; have HA1 := Lib.hid hb1; clear hs1 hb1)
        | (go_at_call 13; (with_reducible refine (PO.out _ _ _ S1.out).mono ?_); rintro e w2 ⟨A2, c2, rfl, hb2⟩; have HA2 := Lib.hid (btr HA1.out hb2); obtain ⟨x0, x1, x2, x3, x4, hb3, hs3⟩ := T.out _ (hz0.out _ HA2.out); clear hb2 HA1)
        | (go_at_call 15; (with_reducible refine (RI.out _).mono ?_); rintro e w3 ⟨rfl, hb4⟩; have HA3 := Lib.hid (btr (bal HA2.out _) hb4); have BX3 := Lib.hid (kept box.out HA3.out); have HB3 := Lib.hid (btr hw0.out HA3.out); clear hb4)
        | (refine wpList_store_row rfl 28 (.tmp 2) (.tmp 36) rfl (w.heap.size + 1) (hcs hd.zero) rfl rfl 28 _ BX3.out szH rfl (hcs_one _) ?_))
      refine end_pair Try.results6 _ _ (w.heap.size + 1) _ (hcs hd.zero) _ _ rfl rfl (setRow_heap _ _ _ _ _ _ BX3.out) Try.underlying28 szH rfl ?_
      exact Q2.out _ (bel_setRow HB3.out (Nat.le_succ _) _)
    · have hno' : ab.okB (nmL z.ty) = false := by simpa using hno
      rw [hno'] at PO
      clear hk hk' hno hno' Q h ps bd
      obtain ⟨l, tr, lp, ft, v⟩ := z
      simp only at *
      generalize lx.B (ab.pT (nmL l)) = ps at *
      generalize (ab.pN (nmL l)).length = pn at *
      go_enter Try.func6, Try.ntmps6
      go_wp2_with (first
        | (go_at_call 14; (with_reducible refine (NM.out _ hw0.out).mono ?_); rintro e w1 ⟨A1, c1, rfl, hs1, hb1⟩; have S1 := Lib.hid hs1; have HA1 := Lib.hid hb1; clear hs1 hb1)
        | (go_at_call 13; (with_reducible refine (PO.out _ _ _ S1.out).mono ?_); rintro e w2 ⟨A2, c2, rfl, hb2⟩; have HA2 := Lib.hid (btr HA1.out hb2); obtain ⟨x0, x1, x2, x3, x4, hb3, hs3⟩ := T.out _ (hz0.out _ HA2.out); have BX3 := Lib.hid (hp_old (kept box.out HA2.out) (.cells #[.int .i64 v, .int .i64 0, .int .i64 0, .int .i64 lp.length, .int .i64 tr.length, .int .i64 l.length, .int .i64 ps.size] 28)); have HB3 := Lib.hid (bal (btr hw0.out HA2.out) (.cells #[.int .i64 v, .int .i64 0, .int .i64 0, .int .i64 lp.length, .int .i64 tr.length, .int .i64 l.length, .int .i64 ps.size] 28)); clear hb2 HA1)
        | (refine wpList_store_row rfl 28 (.tmp 2) (.tmp 36) rfl (w.heap.size + 1) (hcs hd.zero) rfl rfl 28 _ BX3.out szH rfl (hcs_one _) ?_))
      refine end_pair Try.results6 _ _ (w.heap.size + 1) _ (hcs hd.zero) _ _ rfl rfl (setRow_heap _ _ _ _ _ _ BX3.out) Try.underlying28 szH rfl ?_
      exact Q2.out _ (bel_setRow HB3.out (Nat.le_succ _) _)
end Go.Proofs.Ytllficloadncfaa.blk
