/-
  What zic.great, writeLine and Text answer, and leave: the lines of a table (zs.full). Conditions: the names of months of package zic, the tables of package day and the library's powers of ten hold what their initialisers lay; the library's variable MaxLen holds some number.
-/
import Derived.Test.YtiboijhfieaepaaGreatDoorZicText
import Derived.Test.YtiboijhfieaepaaGreatDoorHeadTail
import Derived.Test.YtiboijhfieaepaaGreatDoorBldr
import Derived.Laws.AppendOwnNone
namespace Go.Proofs.YtiboijhfieaepaaGreatDoor.zic
open Go.ChangeShapes Go.WideShapes Go.ChangeAt Go.RowKit
open lx zs mem stx
open lm (Lp ce dy st)
open leap (tcs Lps rl)
set_option linter.unusedVariables false
set_option maxRecDepth 100000

/-- what layer 11 asks of the memory. -/
structure All (w : World) : Prop where
  tabs : day.Tabs w
  ml : lines.ML w
  nm : Nm w
  pw : Lib.TabIs Tryz.prog w "internal/strconv.uint64pow10" .u64 Lib.pow10Tab
theorem All.tb {w : World} (T : All w) : stamp.Tb w := ⟨T.tabs, T.pw⟩
theorem All.below {w W : World} (T : All w) (hb : Below w.heap.size w W) : All W := ⟨T.tabs.below hb, T.ml.below hb, T.nm.below hb, (stamp.Tb.below T.tb hb).2⟩

/-! great -/
theorem sl_to (W : World) (x : List UInt8) (b : Nat) (z : Int) (hz : z = b) (h : b ≤ x.length) : (Instr.slice 9 (.string (B x)) none (some (.int .i64 z)) none).run Tryz.prog W = .ok (.string (B (x.take b))) W := by
  subst hz
  have hs := B_size x
  rw [run_slice_string_h (P := Tryz.prog) W 9 (B x) Tryz.underlying9 .i64 b (by omega) (by rw [hs]; omega)]
  show Result.ok (Value.string ((B x).extract 0 b)) W = _
  rw [ext_B, L_B, List.drop_zero, Nat.sub_zero]
theorem sl_off (W : World) (x : List UInt8) (b : Nat) (z : Int) (hz : z = b) (h : b ≤ x.length) : (Instr.slice 9 (.string (B x)) (some (.int .i64 z)) none none).run Tryz.prog W = .ok (.string (B (x.drop b))) W := by
  have hs := B_size x
  rw [lines.sl_from W (B x) b z hz (by rw [hs]; exact h), ext_B, L_B, hs, List.take_of_length_le (by rw [List.length_drop]; omega)]
theorem ret_s {a b : ByteArray} (h : a = b) : Ending.returned (.string a) = .returned (.string b) := by rw [h]
theorem great_at (x : List UInt8) (hx : 1 ≤ x.length) (hl : x.length ≤ 100) (ha : ∀ c ∈ x.take 1, c.toNat < 128) (W : World) : Calls Tryz.prog 57 #[.string (B x)] W fun e w' => e = .returned (.string (B (gr x))) ∧ Below W.heap.size W w' := by
  have S1 := fun W => sl_to W x 1 1 rfl hx
  have S2 := fun W => sl_off W x 1 1 rfl hx
  have UP : Hid (∀ W, Calls Tryz.prog 83 #[.string (B (x.take 1))] W fun e w' => e = .returned (.string (B ((x.take 1).map Lib.upperB))) ∧ Below W.heap.size W w') := fun W => by
    refine (Tryz.strings_ToUpper_ascii (B (x.take 1)) W (by rw [B_size, List.length_take]; omega) (fun j b hj => ?_)).mono ?_
    · have : (B (x.take 1)).data.toList = x.take 1 := L_B _
      rw [this] at hj
      exact ha b (List.mem_of_getElem? hj)
    · rintro e w' ⟨rfl, hb⟩
      refine ⟨?_, hb⟩
      have : (B (x.take 1)).data.toList = x.take 1 := L_B _
      rw [this]
      rfl
  have E : Hid (B ((x.take 1).map Lib.upperB) ++ B (x.drop 1) = B (gr x)) := B_app _ _
  have z1 : (9223372036854775807 < (B ((x.take 1).map Lib.upperB)).size + (B (x.drop 1)).size) = False := by
    rw [B_size, B_size, List.length_map, List.length_take, List.length_drop]
    simp
    omega
  generalize B (gr x) = r at *
  generalize B ((x.take 1).map Lib.upperB) = u at *
  generalize B (x.take 1) = y1 at *
  generalize B (x.drop 1) = y2 at *
  generalize B x = s at *
  clear ha hx hl
  go_enter Tryz.func57, Tryz.ntmps57
  go_wp2
  have XU := Lib.hid (fun d' os => below_of UP.out W d' os)
  refine wp_region_quiet_below (by kernel_rfl) (by kernel_rfl) ?_
  repeat (quiet_step ((go_at_call 83; with_reducible exact XU.out _ _)))
  refine wpQuiet_nil ?_
  intro _ hw'
  obtain ⟨⟨dq, osq⟩, hw''⟩ := hw'
  subst hw''
  have hbz := below_regrown W dq osq
  generalize Sort.grow (redrawn W dq) osq = W7 at *
  go_wp2
  go_ret
  exact ⟨ret_s E.out, hbz⟩

open bldr (WB wb_call wb_str wb_byte wb_text wb_new)
/-! a line -/
theorem itoa_at (n : Int) (h0 : 0 ≤ n) (h1 : n ≤ 9223372036854775807) (W : World) (T : All W) : Calls Tryz.prog 58 #[.int .i64 n] W fun e w' => e = .returned (.string (B (dcm n))) ∧ Below W.heap.size W w' := by
  refine (Tryz.strconv_Itoa n (by omega) h1 W T.pw).mono ?_
  rintro e w' ⟨rfl, k, os, rfl⟩
  exact ⟨by rw [itoa_dcm h0]; rfl, below_grow W k os⟩
theorem cut_T (y m d h i x : Int) : bhd 84 (L (txt y m d h i x)) = clkL h i x ++ [90] := by
  have no : ∀ c ∈ [stx.dgt (y.toNat / 1000), stx.dgt (y.toNat / 100), stx.dgt (y.toNat / 10), stx.dgt y.toNat, 45, stx.dgt (m.toNat / 10), stx.dgt m.toNat, 45, stx.dgt (d.toNat / 10), stx.dgt d.toNat], c ≠ 84 := by
    intro c hc k
    subst k
    have hd : ∀ n : Nat, (84 : UInt8) ≠ stx.dgt n := fun n e => by
      have := sdg n
      rw [← e] at this
      exact absurd this (by decide)
    simp only [List.mem_cons, List.not_mem_nil, or_false] at hc
    rcases hc with hc | hc | hc | hc | hc | hc | hc | hc | hc | hc <;> first | exact hd _ hc | exact absurd hc (by decide)
  exact (ahd_some no (clkL h i x ++ [90])).2
theorem trim_Z (l : List UInt8) : Lib.trimSuffix (l ++ [90]) [90] = l := by
  unfold Lib.trimSuffix
  rw [if_pos (by unfold Lib.hasSuffix; rw [List.isSuffixOf_iff_suffix]; exact ⟨l, rfl⟩)]
  simp
theorem ts_Z (l : List UInt8) (W : World) (hl : l.length ≤ 1000) : Calls Tryz.prog 43 #[.string (B (l ++ [90])), .string ⟨#[90]⟩] W fun e w' => e = .returned (.string (B l)) ∧ W = w' := by
  refine (Tryz.strings_TrimSuffix (B (l ++ [90])) ⟨#[90]⟩ W (by rw [B_size, List.length_append, List.length_singleton]; omega)).mono ?_
  rintro e w' ⟨rfl, rfl⟩
  refine ⟨?_, rfl⟩
  have h1 : (B (l ++ [90])).data.toList = l ++ [90] := L_B _
  rw [h1, show (ByteArray.mk #[90]).data.toList = [90] from rfl, trim_Z]
  rfl
theorem tabs_len (n : Nat) : ∀ ws : List (List UInt8), (∀ w ∈ ws, w.length ≤ n) → (tabs ws).length ≤ (n + 1) * ws.length
  | [], _ => by simp [tabs]
  | [x], h => by have := h x (by simp); simp [tabs]; omega
  | x :: y :: r, h => by
    have h1 := h x (by simp)
    have h2 := tabs_len n (y :: r) (fun w hw => h w (by simp only [List.mem_cons] at hw ⊢; exact .inr hw))
    rw [tabs, List.length_append, List.length_cons, List.length_cons, Nat.mul_add]
    omega
theorem own5 (W : World) (a b c d e : ByteArray) : (W.alloc (.cells #[.string a, .string b, .string c, .string d, .string e] 9)).ownsRow W.heap.size 9 1 (.slice (some ⟨W.heap.size, 0, none⟩) 5 5) 5 [.string a, .string b, .string c, .string d, .string e] :=
  ⟨rfl, .inr ⟨_, 5, _, rfl, Nat.le_refl _, hp_new W _, Nat.le_refl _, by unfold maxLen; decide, rfl, rfl⟩⟩
theorem row_cells {w : World} {base : Nat} {v : Value} {l : List ByteArray} {n : Nat} (hn : n = l.length) (h0 : 0 < n) (h : w.ownsRow base 9 1 v n (l.map Value.string)) :
    ∃ b o c, v = .slice (some ⟨b, o, none⟩) n c ∧ n ≤ c ∧ b < w.heap.size ∧ ∀ (j : Nat) x, l[j]? = some x → w.cell? ⟨b, o + j, none⟩ = some (.string x) := by
  subst hn
  obtain ⟨A, c, rfl, hs, hc⟩ := lines.Strs.of_own h
  obtain ⟨b, o, rfl, hb, hcell⟩ := hs (by rintro rfl; exact absurd h0 (by decide))
  refine ⟨b, o, c, rfl, hc, hb, fun j x hj => ?_⟩
  obtain ⟨hj', rfl⟩ := List.getElem?_eq_some_iff.1 hj
  exact hcell j hj'
theorem own_lt' {W : World} {base : Nat} {e : TypeId} {k : Nat} {v : Value} {n : Nat} {xs : List Value} (h : W.ownsRow base e k v n xs) (q : Nat) (hq : v.ownBlock = some q) : base ≤ q := by
  rcases h.2 with ⟨rfl, _⟩ | ⟨g, cap, cur, rfl, hb, _⟩
  · cases hq
  · cases hq
    exact hb
theorem join_at (x : List UInt8) (r : List (List UInt8)) (bk o c : Nat) (W : World) (n : Nat) (hn : n = (x :: r).length) (hc : ∀ (j : Nat) y, ((x :: r).map B)[j]? = some y → W.cell? ⟨bk, o + j, none⟩ = some (.string y)) (hb : bk < W.heap.size) (hcap : n ≤ c) (hl : (tabs (x :: r)).length ≤ 100000) (hnn : n ≤ 100) :
    Calls Tryz.prog 60 #[.slice (some ⟨bk, o, none⟩) n c, .string ⟨#[9]⟩] W fun e w' => e = .returned (.string (B (tabs (x :: r)))) ∧ Below W.heap.size W w' := by
  subst hn
  have e1 : ((x :: r).map B).map (fun z => z.data.toList) = x :: r := by
    rw [List.map_map]
    conv => rhs; rw [← List.map_id (x :: r)]
    exact List.map_congr_left fun y _ => L_B y
  have := Tryz.strings_Join bk o c ((x :: r).map B) ⟨#[9]⟩ W hc hb (by rw [List.length_map]; omega) (by rw [List.length_map]; exact hcap) (by rw [e1, show (ByteArray.mk #[9]).data.toList = [9] from rfl, join_tabs]; omega)
  rw [e1, show (ByteArray.mk #[9]).data.toList = [9] from rfl, join_tabs, List.length_map] at this
  exact this
theorem lit_cells (W : World) (l : List ByteArray) (j : Nat) (y : ByteArray) (hj : l[j]? = some y) : (W.alloc (.cells (l.map Value.string).toArray 9)).cell? ⟨W.heap.size, 0 + j, none⟩ = some (.string y) := by
  rw [row_cell (hp_new W _) (0 + j), Nat.zero_add, List.getElem?_toArray, List.getElem?_map, hj]
  rfl
theorem two_cells {W W' : World} {q : Nat} {a b : ByteArray} (hb : Below W.heap.size W W') (hq : q < W.heap.size) (m0 : W.cell? ⟨q, 0, none⟩ = some (.string a)) (m1 : W.cell? ⟨q, 1, none⟩ = some (.string b)) (j : Nat) (u : Value) (hj : ([.string a, .string b] : List Value)[j]? = some u) : W'.cell? ((⟨q, 0, none⟩ : Addr).add j) = some u := by
  match j, hj with
  | 0, hj => cases hj; exact (hb.cell (p := ⟨q, 0, none⟩) hq).trans m0
  | 1, hj => cases hj; exact (hb.cell (p := ⟨q, 1, none⟩) hq).trans m1
theorem run_ix (W : World) (j : Nat) (h : j < 12) : (Instr.indexAt 67 (.pointer (some ⟨0, 0, none⟩)) (.int .i64 (j : Nat))).run Tryz.prog W = .ok (.pointer (some ⟨0, j, none⟩)) W := by
  rcases (show j = 0 ∨ j = 1 ∨ j = 2 ∨ j = 3 ∨ j = 4 ∨ j = 5 ∨ j = 6 ∨ j = 7 ∨ j = 8 ∨ j = 9 ∨ j = 10 ∨ j = 11 by omega) with rfl | rfl | rfl | rfl | rfl | rfl | rfl | rfl | rfl | rfl | rfl | rfl <;> kernel_rfl
/-- the further words of a line, as they are handed in. -/
def More (W : World) (v : Value) (more : List (List UInt8)) : Prop :=
  (more = [] ∧ v = .slice none 0 0) ∨ ∃ a b q, more = [a, b] ∧ v = .slice (some ⟨q, 0, none⟩) 2 2 ∧ q < W.heap.size ∧ W.cell? ⟨q, 0, none⟩ = some (.string (B a)) ∧ W.cell? ⟨q, 1, none⟩ = some (.string (B b)) ∧ a.length ≤ 10 ∧ b.length ≤ 10
theorem line_ws {f : List UInt8} {p q : Int × Int × Int} {more : List (List UInt8)} (hf : f.length ≤ 10) (hp : 0 ≤ p.1 ∧ p.1 ≤ 9999 ∧ 1 ≤ p.2.1 ∧ p.2.1 ≤ 12 ∧ 0 ≤ p.2.2 ∧ p.2.2 ≤ 31) (hm : ∀ w ∈ more, w.length ≤ 10) (hn : more.length ≤ 2) : (tabs (lnW f p q more)).length ≤ 200 := by
  have h := tabs_len 19 (lnW f p q more) (fun w hw => by
    unfold lnW at hw
    simp only [List.mem_append, List.mem_cons, List.not_mem_nil, or_false] at hw
    rcases hw with (rfl | rfl | rfl | rfl | rfl) | hw
    · unfold gr
      rw [List.length_append, List.length_map, List.length_take, List.length_drop]
      omega
    · exact decs_len _ (by omega)
    · unfold mon3 gr
      rw [List.length_append, List.length_map, List.length_take, List.length_drop, List.length_take]
      omega
    · exact decs_len _ (by omega)
    · simp [clkL]
    · have := hm w hw
      omega)
  have e : (lnW f p q more).length = 5 + more.length := by unfold lnW; rw [List.length_append]; rfl
  rw [e] at h
  omega
set_option maxHeartbeats 4000000 in
theorem line_at (g : Nat) (Wa : World) (l f : List UInt8) (n k : Int) (v : Value) (more : List (List UInt8)) (W : World) (T : All W) (h : WB g Wa l W) (hl : l.length ≤ 400000) (hf : 1 ≤ f.length ∧ f.length ≤ 10 ∧ ∀ c ∈ f.take 1, c.toNat < 128) (hn : -719162 ≤ n ∧ n ≤ 2932896) (hk : 0 ≤ k ∧ k ≤ 86400) (hv : More W v more) :
    Calls Tryz.prog 27 #[.pointer (some ⟨g, 0, none⟩), .string (B f), .int .i64 n, .int .i64 k, v] W fun e w' => e = .returned (.tuple #[]) ∧ WB g Wa (l ++ (tabs (lnW f (dtm n) (ckm k) more) ++ [10])) w' := by
  obtain ⟨vd, hnum⟩ := dtm_spec hn.1 hn.2
  obtain ⟨ck, hsec⟩ := ckm_spec hk.1 hk.2
  have dm := cal.dim_bd (dtm n).1 (dtm n).2.1
  have hbd := vd
  unfold cal.Vld at hbd
  have hts : (tabs (lnW f (dtm n) (ckm k) more)).length ≤ 200 := line_ws hf.2.1 ⟨by omega, by omega, by omega, by omega, by omega, by omega⟩ (fun w hw => by
    rcases hv with ⟨rfl, _⟩ | ⟨a, b, q, rfl, _, _, _, _, ha, hb⟩
    · cases hw
    · simp only [List.mem_cons, List.not_mem_nil, or_false] at hw
      rcases hw with rfl | rfl <;> assumption) (by rcases hv with ⟨rfl, _⟩ | ⟨a, b, q, rfl, _⟩ <;> simp)
  unfold lnW at hts ⊢
  have nml : 3 ≤ (names.getD ((dtm n).2.1.toNat - 1) []).length ∧ (names.getD ((dtm n).2.1.toNat - 1) []).length ≤ 9 ∧ ∀ c ∈ (names.getD ((dtm n).2.1.toNat - 1) []), c.toNat < 128 := by
    have : ∀ j, j < 12 → 3 ≤ (names.getD j []).length ∧ (names.getD j []).length ≤ 9 ∧ ∀ c ∈ (names.getD j []), c.toNat < 128 := by decide +kernel
    exact this _ (by omega)
  have NC : Hid (∀ W', Below W.heap.size W W' → W'.cell? ⟨0, (dtm n).2.1.toNat - 1, none⟩ = some (.string (B (names.getD ((dtm n).2.1.toNat - 1) [])))) := fun W' hb => by
    obtain ⟨t, fr, hg⟩ := (T.below hb).nm
    exact (row_cell hg _).trans (nmA_get _ (by omega))
  have GF := Lib.hid (fun W' => great_at f hf.1 (by omega) hf.2.2 W')
  have GM : Hid (∀ W', Calls Tryz.prog 57 #[.string (B ((names.getD ((dtm n).2.1.toNat - 1) []).take 3))] W' fun e w' => e = .returned (.string (B (mon3 (dtm n).2.1))) ∧ Below W'.heap.size W' w') := fun W' =>
    great_at _ (by rw [List.length_take]; omega) (by rw [List.length_take]; omega) (fun c hc => nml.2.2 c (List.mem_of_mem_take (List.mem_of_mem_take hc))) W'
  have S3 := fun W' => sl_to W' (names.getD ((dtm n).2.1.toNat - 1) []) 3 3 rfl nml.1
  have IY := Lib.hid (fun W' (T' : All W') => itoa_at (dtm n).1 (by omega) (by omega) W' T')
  have ID := Lib.hid (fun W' (T' : All W') => itoa_at (dtm n).2.2 (by omega) (by omega) W' T')
  have TZ := Lib.hid (fun W' => ts_Z (clkL (ckm k).1 (ckm k).2.1 (ckm k).2.2) W' (by simp [clkL]))
  have DT : Hid (∀ W', Below W.heap.size W W' → Calls Tryz.prog 55 #[.int .i64 n] W' fun e w' => e = .returned (.tuple #[.int .i64 (dtm n).1, .int .i64 (dtm n).2.1, .int .i64 (dtm n).2.2, .bool true]) ∧ Below W'.heap.size W' w') := fun W' hb => day.date_on (T.below hb).tabs W' (Below.refl _ _) _ _ _ n vd hnum
  have ST : Hid (∀ W', Below W.heap.size W W' → Calls Tryz.prog 56 #[.int .i64 n, .int .i64 k] W' fun e w' => e = .returned (.tuple #[.string (txt (dtm n).1 (dtm n).2.1 (dtm n).2.2 (ckm k).1 (ckm k).2.1 (ckm k).2.2), .bool true]) ∧ Below W'.heap.size W' w') := fun W' hb => stamp.text_on (T.below hb).tb W' (Below.refl _ _) _ _ _ _ _ _ n k vd hnum ck hsec
  have CT : Hid (∀ W', Below W.heap.size W W' → Calls Tryz.prog 16 #[.string (txt (dtm n).1 (dtm n).2.1 (dtm n).2.2 (ckm k).1 (ckm k).2.1 (ckm k).2.2), .string ⟨#[84]⟩] W' fun e w' => ∃ z fl, e = .returned (.tuple #[.string z, .string (B (clkL (ckm k).1 (ckm k).2.1 (ckm k).2.2 ++ [90])), .bool fl]) ∧ Below W'.heap.size W' w') := fun W' hb => by
    have := cut_at 84 (T.below hb).ml (L (txt (dtm n).1 (dtm n).2.1 (dtm n).2.2 (ckm k).1 (ckm k).2.1 (ckm k).2.2)) (by rw [L_len, txt_size]; decide)
    rw [cut_T, B_L] at this
    exact this.mono fun e w' ⟨fl, he, hb⟩ => ⟨_, fl, he, hb⟩
  have TW := Lib.hid (fun W' (hb : Below W.heap.size W W') => T.below hb)
  have HWB := Lib.hid (fun W' (hb : Below W.heap.size W W') => wb_call h hb)
  obtain ⟨j, hj, ej, ej2⟩ : ∃ j : Nat, j < 12 ∧ (dtm n).2.1 - 1 = j ∧ (dtm n).2.1.toNat - 1 = j := ⟨(dtm n).2.1.toNat - 1, by omega, by omega, rfl⟩
  have wm : IntKind.i64.wrap ((dtm n).2.1 - 1) = (j : Int) := (IntWalk.i64_in _ (by omega)).trans ej
  rw [ej2] at NC GM S3 nml
  have IA := fun W' => run_ix W' j hj
  clear ej ej2
  have hb0 : Below W.heap.size W W := Below.refl _ _
  have HM : Hid (∀ W', Below W.heap.size W W' → More W' v more) := fun W' hb => by
    rcases hv with hv | ⟨a, b, q, e1, e2, hq, c0, c1, ha, hbb⟩
    · exact .inl hv
    · exact .inr ⟨a, b, q, e1, e2, Nat.lt_of_lt_of_le hq hb.size, (hb.cell hq).trans c0, (hb.cell hq).trans c1, ha, hbb⟩
  clear h T vd hnum ck hsec nml hbd dm hv
  generalize txt (dtm n).1 (dtm n).2.1 (dtm n).2.2 (ckm k).1 (ckm k).2.1 (ckm k).2.2 = tx at *
  generalize clkL (ckm k).1 (ckm k).2.1 (ckm k).2.2 = w5 at *
  generalize B (w5 ++ [90]) = y9 at *
  generalize dcm (dtm n).1 = w2 at *
  generalize dcm (dtm n).2.2 = w4 at *
  generalize mon3 (dtm n).2.1 = w3 at *
  generalize gr f = w1 at *
  generalize (names.getD j []) = nm at *
  generalize B (nm.take 3) = nm3 at *
  generalize B nm = nmB at *
  generalize (dtm n).1 = yy at *
  generalize (dtm n).2.1 = mm at *
  generalize (dtm n).2.2 = dd at *
  generalize B f = fB at *
  go_enter Tryz.func27, Tryz.ntmps27
  go_wp2_with (first
    | (go_at_call 55; with_reducible refine (DT.out _ hb0).mono ?_; rintro e u1 ⟨rfl, hb1⟩)
    | (go_at_call 56; with_reducible refine (ST.out _ hb1).mono ?_; rintro e u2 ⟨rfl, hb2⟩; have hb2 := btr hb1 hb2)
    | (go_at_call 16; with_reducible refine (CT.out _ hb2).mono ?_; rintro e u3 ⟨z, fl, rfl, hb3⟩; have hb3 := btr hb2 hb3))
  have cn := fun d' os => cell_regrown (w := u3) (NC.out _ hb3) d' os
  have X1 := Lib.hid (fun d' os => below_of GF.out u3 d' os)
  have X2 := Lib.hid (fun d' os => below_of GM.out u3 d' os)
  have X3 := Lib.hid (fun d' os => below_at (w := u3) (T := All) IY.out (fun W' hb => TW.out W' (btr hb3 hb)) d' os)
  have X4 := Lib.hid (fun d' os => below_at (w := u3) (T := All) ID.out (fun W' hb => TW.out W' (btr hb3 hb)) d' os)
  have X5 := Lib.hid (fun d' os => same_of TZ.out u3 d' os)
  have hq0 : ∃ p : Regrown, u3.drew = Sort.grow (redrawn u3 p.d) p.os := regrown_of_below (bel_drewN (Below.refl _ _) 1)
  refine ht.quiet_region (C := fun w' => ∃ p : Regrown, w' = Sort.grow (redrawn u3 p.d) p.os) 14 (by kernel_rfl) (of_decide_eq_true (by kernel_rfl)) (by kernel_rfl) (by kernel_rfl) (by kernel_rfl) (by kernel_rfl) (by kernel_rfl) (by kernel_rfl) (by kernel_rfl) hq0 ?_
  simp only [List.take_succ_cons, List.take_zero, List.drop_succ_cons, List.drop_zero]
  repeat (quiet_step (first
    | (go_at_call 57; first | (with_reducible exact X1.out _ _) | (with_reducible exact X2.out _ _))
    | (go_at_call 58; first | (with_reducible exact X3.out _ _) | (with_reducible exact X4.out _ _))
    | (go_at_call 43; with_reducible exact X5.out _ _)))
  refine wpQuiet_nil ?_
  intro _ hw'
  obtain ⟨⟨dq, osq⟩, hw''⟩ := hw'
  subst hw''
  have hb7 := btr hb3 (below_regrown u3 dq osq)
  generalize Sort.grow (redrawn u3 dq) osq = W7 at *
  clear cn X1 X2 X3 X4 X5 hq0 NC GF GM S3 IY ID TZ DT ST CT TW
  have OW := Lib.hid (own5 W7 (B w1) (B w2) (B w3) (B w4) (B w5))
  have WB7 := Lib.hid (HWB.out W7 hb7)
  have hM := HM.out W7 hb7
  have hlt : (tabs ([w1, w2, w3, w4, w5] ++ more)).length ≤ 200 := hts
  have hlen2 : (l ++ tabs ([w1, w2, w3, w4, w5] ++ more)).length ≤ 2000000 := by rw [List.length_append]; omega
  obtain ⟨i0, hi, hz0, hz1, hz2⟩ := info_parts lines.infoS
  clear HWB HM hts
  rcases hM with ⟨rfl, rfl⟩ | ⟨a, b, q, rfl, rfl, hq, m0, m1, _, _⟩
  · have WB8 := Lib.hid (wb_call WB7.out (bal (Below.refl _ _) (.cells #[.string (B w1), .string (B w2), .string (B w3), .string (B w4), .string (B w5)] 9)))
    have JN := Lib.hid (join_at w1 [w2, w3, w4, w5] W7.heap.size 0 5 (W7.alloc (.cells #[.string (B w1), .string (B w2), .string (B w3), .string (B w4), .string (B w5)] 9)) 5 rfl (fun j y hj => lit_cells W7 [B w1, B w2, B w3, B w4, B w5] j y hj) (by simp) (Nat.le_refl _) (by have := hlt; simp only [List.append_nil] at this; omega) (by decide))
    have ET : Hid (tabs ([w1, w2, w3, w4, w5] ++ []) = tabs [w1, w2, w3, w4, w5]) := rfl
    rw [List.append_nil] at hlen2 hlt
    generalize tabs [w1, w2, w3, w4, w5] = ts at *
    go_wp2_with (first
      | (at_builtin; refine wpList_append_own_none rfl (.tmp 55) (.tmp 56) 42 rfl W7.heap.size 9 i0 1 Tryz.underlying42 hi (.slice (some ⟨W7.heap.size, 0, none⟩) 5 5) 5 [.string (B w1), .string (B w2), .string (B w3), .string (B w4), .string (B w5)] rfl OW.out rfl ?_)
      | (go_at_call 60; with_reducible refine JN.out.mono ?_; rintro e w9 ⟨rfl, hb9⟩; have SX := Lib.hid (wb_str (wb_call WB8.out hb9) ts (by omega) (by omega)))
      | (go_at_call 59; with_reducible refine SX.out.mono ?_; rintro e w10 ⟨⟨n1, rfl⟩, b10⟩; have BX := Lib.hid (wb_byte b10 10 10 rfl hlen2))
      | (go_at_call 61; with_reducible refine BX.out.mono ?_; rintro e w11 ⟨rfl, b11⟩))
    go_end0
    exact ⟨rfl, by rw [show tabs [w1, w2, w3, w4, w5] = ts from ET.out, ← List.append_assoc]; exact b11⟩
  · have HNW : Hid (∀ (j : Nat) u, ([.string (B a), .string (B b)] : List Value)[j]? = some u → (W7.alloc (.cells #[.string (B w1), .string (B w2), .string (B w3), .string (B w4), .string (B w5)] 9)).cell? ((⟨q, 0, none⟩ : Addr).add j) = some u) := fun j u hj => two_cells (bal (Below.refl _ _) (.cells #[.string (B w1), .string (B w2), .string (B w3), .string (B w4), .string (B w5)] 9)) hq m0 m1 j u hj
    have WBX : Hid (∀ w8, (W7.alloc (.cells #[.string (B w1), .string (B w2), .string (B w3), .string (B w4), .string (B w5)] 9)).grownBy w8 (some W7.heap.size) → WB g Wa l w8) := fun w8 hg8 => wb_call WB7.out ((bal (Below.refl W7.heap.size W7) _).grown hg8 (by simp) (fun q hq => by cases hq; exact Nat.le_refl _))
    have JNX := Lib.hid (fun bk oo cc w8 hcells hbk hcc => join_at w1 [w2, w3, w4, w5, a, b] bk oo cc w8 7 rfl hcells hbk hcc (by have := hlt; exact Nat.le_trans this (by decide)) (by decide))
    have hlt2 : (tabs [w1, w2, w3, w4, w5, a, b]).length ≤ 200 := hlt
    have hlen3 : (l ++ tabs [w1, w2, w3, w4, w5, a, b]).length ≤ 2000000 := hlen2
    have ET : Hid (tabs ([w1, w2, w3, w4, w5] ++ [a, b]) = tabs [w1, w2, w3, w4, w5, a, b]) := rfl
    clear hlen2 hlt m0 m1
    have hlen2 := hlen3
    clear hlen3
    generalize tabs [w1, w2, w3, w4, w5, a, b] = ts at *
    go_wp2_with (first
      | (at_builtin; refine wpList_append_own _ rfl (.tmp 55) (.tmp 56) 42 rfl W7.heap.size 9 i0 _ 1 16 Tryz.underlying42 hi hz0 hz1 hz2 rfl (by decide) (.slice (some ⟨W7.heap.size, 0, none⟩) 5 5) 5 [.string (B w1), .string (B w2), .string (B w3), .string (B w4), .string (B w5)] rfl OW.out ⟨q, 0, none⟩ 2 2 [.string (B a), .string (B b)] rfl rfl HNW.out (lines.strs_oneCell [B a, B b]) (by unfold maxLen; decide) (by decide) (by simp) ?_; intro v' w8 ho8 hg8 _; obtain ⟨bk, oo, cc, rfl, hcc, hbk, hcells⟩ := row_cells (l := [B w1, B w2, B w3, B w4, B w5, B a, B b]) (n := 7) rfl (by decide) ho8; have JN := Lib.hid (JNX.out bk oo cc w8 hcells hbk hcc); have WB8 := Lib.hid (WBX.out w8 hg8); clear hcells ho8 hg8)
      | (go_at_call 60; with_reducible refine JN.out.mono ?_; rintro e w9 ⟨rfl, hb9⟩; have SX := Lib.hid (wb_str (wb_call WB8.out hb9) ts (by omega) (by omega)))
      | (go_at_call 59; with_reducible refine SX.out.mono ?_; rintro e w10 ⟨⟨n1, rfl⟩, b10⟩; have BX := Lib.hid (wb_byte b10 10 10 rfl hlen2))
      | (go_at_call 61; with_reducible refine BX.out.mono ?_; rintro e w11 ⟨rfl, b11⟩))
    go_end0
    exact ⟨rfl, by rw [show tabs [w1, w2, w3, w4, w5, a, b] = ts from ET.out, ← List.append_assoc]; exact b11⟩
end Go.Proofs.YtiboijhfieaepaaGreatDoor.zic
