/-
  What the rows of layer 10 say of the memory: the listed tables hold what their initialisers lay, and the library's variable MaxLen holds some number (by the world's shape). Conditions: the rows' own.
-/
import Derived.Test.YtldieebiicblbaaGreatDoorG25
import Derived.Test.YtldieebiicblbaaGreatDoorG11
import Derived.HandedShaped
import Derived.Lib.LaidTab
import Derived.Test.YtldieebiicblbaaGreatDoorG08
import Derived.Test.YtldieebiicblbaaGreatDoorG01
import Derived.Test.YtldieebiicblbaaGreatDoorG09
import Derived.Deep.QuietTactic
import Derived.BigQuiet
namespace Go.Proofs.YtldieebiicblbaaGreatDoor.list
open Go Go.ChangeShapes Go.WideShapes Go.ChangeAt Go.RowKit
open lx ls mem
set_option linter.unusedVariables false
set_option maxRecDepth 100000

theorem tPow : (Tryz.prog.globals[2]?).map (·.type) = some 152 := by kernel_rfl
theorem cU64 : Tryz.prog.cellsOf 99 = 1 := by kernel_rfl
theorem pw_of {W : World} {l : List (String × DataW Unit)} (h : laidMet Tryz.prog l W) (h2 : ("internal/strconv.uint64pow10", Rows.laid_internal_strconv_uint64pow10) ∈ l) : Pw W := by
  obtain ⟨ps, hL, _, _⟩ := h
  obtain ⟨cs, f', p', hv', ht'⟩ := laid_at gPow tPow l ps hL h2
  have e1 : cs.toList = Lib.pow10Tab.map fun z => Value.int .u64 z := Lib.cells_of_tab (zs := Lib.pow10Tab) Tryz.underlying152 Tryz.underlying99 cU64 (by kernel_rfl) ht'
  unfold Pw Lib.TabIs
  rw [hv', ← e1]
theorem gTab : Tryz.prog.globalNamed "math/bits.deBruijn64tab" = some 6 := by kernel_rfl
theorem tTab : (Tryz.prog.globals[6]?).map (·.type) = some 104 := by kernel_rfl
def tab64 : List Int := [0, 1, 56, 2, 57, 49, 28, 3, 61, 58, 42, 50, 38, 29, 17, 4, 62, 47, 59, 36, 45, 43, 51, 22, 53, 39, 33, 30, 24, 18, 12, 5, 63, 55, 48, 27, 60, 41, 37, 16, 46, 35, 44, 21, 52, 32, 23, 11, 54, 26, 40, 15, 34, 20, 31, 10, 25, 14, 19, 9, 13, 8, 7, 6]
theorem tz_of {W : World} {l : List (String × DataW Unit)} (h : laidMet Tryz.prog l W) (h1 : ("math/bits.deBruijn64tab", Rows.laid_math_bits_deBruijn64tab) ∈ l) : ntp.Tz W := by
  obtain ⟨ps, hL, _, _⟩ := h
  obtain ⟨c, f, p, hv, ht⟩ := laid_at gTab tTab l ps hL h1
  have e1 : c.toList = tab64.map fun z => Value.int .u8 z := Lib.cells_of_tab (zs := tab64) Tryz.underlying104 Tryz.underlying5 sha.cB (by kernel_rfl) ht
  unfold ntp.Tz
  rw [World.var?_cell gTab hv 15, ← Array.getElem?_toList, e1]
  rfl
theorem all_of {W : World} {l : List (String × DataW Unit)} (h : laidMet Tryz.prog l W) (h1 : ("epact/day.lengths", Rows.laid_epact_day_lengths) ∈ l) (h2 : ("epact/day.spans", Rows.laid_epact_day_spans) ∈ l) (h3 : ("math/bits.deBruijn64tab", Rows.laid_math_bits_deBruijn64tab) ∈ l)
    (h4 : ("internal/strconv.uint64pow10", Rows.laid_internal_strconv_uint64pow10) ∈ l) (h5 : ("epact/sha.start", Rows.laid_epact_sha_start) ∈ l) (hsh : W.ShapedOpen Tryz.prog) : All W :=
  ⟨day.tabs_of h h1 h2, lines.ml_of hsh, sha.st_of h h5, pw_of h h4, tz_of h h3⟩
/-- a row with listed variables, whose walk may use the world's shape. -/
theorem handed_both {H : Type} {enc : TypeId × Value → H} {a : Assume} {C : Checked} {os : Os} {f : FuncId} {fn : Func} {s : ChangeSpec} {conds : List PathCond} {apart fresh handsOn again : Bool} {X : World → Array Value → Prop}
    (hX : ∀ (w w' : World) (args : Array Value), w.heap = w'.heap → X w args → X w' args) (own : ownKnob C.prog.godebug = none) (started : os.Started) (noInit : C.prog.inits.idxOf? f = none) (hfn : C.prog.funcs[f]? = some fn)
    (start : ∃ (w : World) (tape : Tape) (i : Input), w.os = os ∧ (w.forCall tape i).Shaped C.prog ∧ i.vars = [] ∧ Input.okWide C.prog (w.forCall tape i) .any w.heap.size f i ∧
      ((s.pre enc C.prog fn conds apart (w.forCall tape i).memory i.args ∧ X (w.forCall tape i).memory i.args) ∧ sizedMet enc C.prog fn (OpenSpec.ofChange s) apart (w.forCall tape i).memory i.args) ∧ a.holds C.prog (lone (Frame.enter C.prog f i.args .normal) [] (w.forCall tape i)))
    (walk : ∀ (W : World) (base : Nat) (args : Array Value) (ds gs : List (DataW H)) (before : List MemPlace), (∀ (j : Nat) t v, fn.params[j]? = some t → args[j]? = some v → Value.okWide C.prog W .any base t v) → DataW.Whole enc C.prog fn.params.toList s.vars apart W args.toList ds gs before →
      conds.all (PathCond.test C.prog ⟨fn.params.toList, ds, s.plain.varTypes C.prog, gs⟩) = true → (DataW.weightsEach C.prog (fn.params.toList ++ s.plain.varTypes C.prog) (ds ++ gs)).all (· ≤ reachBytes) = true → X W args → W.ShapedOpen C.prog →
      a.holds C.prog (lone (Frame.enter C.prog f args .normal) [] W) → Calls C.prog f args W fun e W' => ∃ v, e = .returned v ∧ s.post enc C.prog fn apart fresh handsOn again W args v W') :
    ReturnsInHanded a C os f .any (fun w args => (s.pre enc C.prog fn conds apart w args ∧ X w args) ∧ sizedMet enc C.prog fn (OpenSpec.ofChange s) apart w args) (s.post enc C.prog fn apart fresh handsOn again) := by
  refine returnsInHanded_of_calls own started noInit start fun w tape i _ shape _ fine met holds => ?_
  obtain ⟨_, _, _, gn, hgn, _, _, _, _, vals⟩ := fine
  cases Option.some.inj (hgn.symm.trans hfn)
  obtain ⟨⟨⟨ds, gs, before, whole, cnd⟩, x⟩, size⟩ := met
  have done := walk (w.forCall tape i) w.heap.size i.args ds gs before vals (DataW.Whole.of_heap (w' := w.forCall tape i) (by rfl) whole) cnd (size.weights whole) (hX _ _ _ (by rfl) x) shape holds
  exact done.mono fun e W' ⟨v, he, post⟩ => by
    subst he
    exact ChangeSpec.post_blind post
end Go.Proofs.YtldieebiicblbaaGreatDoor.list

/-
  A line as the document's own reader of layer 10 tells it: a row of five. Plain mathematics (ls). No condition.
-/
namespace Go.Proofs.YtldieebiicblbaaGreatDoor.ls
open lx nx
set_option linter.unusedVariables false
set_option maxRecDepth 100000

/-- is a line's number of words as it should be. -/
def wk (k : Nat) (l : List UInt8) : Bool := decide ((k = 1 ∨ k = 2 ∨ k = 5) ∧ (ws k l).length = cn k)
/-- a row's words, its numbers. -/
def wo (l : List UInt8) : List (List UInt8) := if kd l = 3 then [l.drop 2] else if wk (kd l) l = true then ws (kd l) l else []
def o1 (l : List UInt8) : Int := if wk (kd l) l = true then g1 l else 0
def o2 (l : List UInt8) : Int := if wk (kd l) l = true ∧ kd l = 5 then g2 l else 0
theorem ok_rk {l : List UInt8} (h : kd l = 1 ∨ kd l = 2 ∨ kd l = 5) : ok l = rk (kd l) l := by
  unfold ok
  rw [if_neg (by omega), if_neg (by omega)]
theorem wk_of {l : List UInt8} (h : kd l = 1 ∨ kd l = 2 ∨ kd l = 5) (ho : ok l = true) : wk (kd l) l = true := by
  rw [ok_rk h] at ho
  unfold rk at ho
  simp only [Bool.and_eq_true, decide_eq_true_eq] at ho
  unfold wk
  simp only [decide_eq_true_eq]
  exact ⟨h, ho.1⟩
theorem o1_ok {l : List UInt8} (h : kd l = 1 ∨ kd l = 2 ∨ kd l = 5) (ho : ok l = true) : o1 l = g1 l := by unfold o1; rw [if_pos (wk_of h ho)]
theorem o2_ok {l : List UInt8} (h : kd l = 5) (ho : ok l = true) : o2 l = g2 l := by unfold o2; rw [if_pos ⟨wk_of (by omega) ho, h⟩]
theorem wo_hash {l : List UInt8} (h : kd l = 3) : wo l = [l.drop 2] := by unfold wo; rw [if_pos h]
theorem wo_ok {l : List UInt8} (h : kd l = 1 ∨ kd l = 2 ∨ kd l = 5) (ho : ok l = true) : wo l = ws (kd l) l := by unfold wo; rw [if_neg (by omega), if_pos (wk_of h ho)]
theorem wo_no {l : List UInt8} (h : kd l ≠ 3) (h2 : wk (kd l) l = false) : wo l = [] := by unfold wo; rw [if_neg h, h2]; rfl
/-- what is hashed of a line of a kind, by its row. -/
theorem hw_row (k : Nat) (l : List UInt8) (hk : k = 1 ∨ k = 2 ∨ k = 5) : hw k l = if kd l = k ∧ ok l = true then (wo l).flatten else [] := by
  unfold hw
  by_cases h : kd l = k
  · subst h
    rw [ok_rk hk]
    by_cases g : rk (kd l) l = true
    · rw [if_pos ⟨rfl, g⟩, if_pos ⟨rfl, g⟩, wo_ok hk (by rw [ok_rk hk]; exact g)]
    · rw [if_neg (fun k => g k.2), if_neg (fun k => g k.2)]
  · rw [if_neg (fun k => h k.1), if_neg (fun k => h k.1)]
/-! which bytes a line of a kind begins with -/
theorem kd_zero {l : List UInt8} : kd l = 0 ↔ wds [] l = [] := by
  unfold kd
  constructor
  · intro h
    by_cases g : wds [] l = []
    · exact g
    · rw [if_neg g] at h
      repeat' (split at h; · cases h)
      cases h
  · intro h
    rw [if_pos h]
theorem kd_pos {l : List UInt8} (h : kd l ≠ 0) : wds [] l ≠ [] := fun e => h (kd_zero.2 e)
theorem kd_begins {l : List UInt8} (h : kd l ≠ 0) : decide (l.take 2 = [35, 104]) = decide (kd l = 3) ∧ decide (l.take 2 = [35, 36]) = decide (kd l = 1) ∧ decide (l.take 2 = [35, 64]) = decide (kd l = 2) ∧
    (kd l = 4 ∨ kd l = 5 → decide (((wds [] l).headD []).take 1 = [35]) = decide (kd l = 4)) := by
  have hp := kd_pos h
  unfold kd
  rw [if_neg hp]
  by_cases a : l.take 2 = [35, 36]
  · rw [if_pos a, a]
    refine ⟨by decide, by decide, by decide, fun k => by omega⟩
  · rw [if_neg a]
    by_cases b : l.take 2 = [35, 64]
    · rw [if_pos b, b]
      refine ⟨by decide, by decide, by decide, fun k => by omega⟩
    · rw [if_neg b]
      by_cases c : l.take 2 = [35, 104]
      · rw [if_pos c, c]
        refine ⟨by decide, by decide, by decide, fun k => by omega⟩
      · rw [if_neg c, decide_eq_false a, decide_eq_false b, decide_eq_false c]
        by_cases d : ((wds [] l).headD []).take 1 = [35]
        · rw [if_pos d, decide_eq_true d]
          refine ⟨by decide, by decide, by decide, fun _ => by decide⟩
        · rw [if_neg d, decide_eq_false d]
          refine ⟨by decide, by decide, by decide, fun _ => by decide⟩
theorem kd_two {l : List UInt8} (h : kd l = 1 ∨ kd l = 2 ∨ kd l = 3) : 2 ≤ l.length := by
  have h0 : kd l ≠ 0 := by omega
  obtain ⟨a, b, c, _⟩ := kd_begins h0
  have key : ∀ x y : UInt8, l.take 2 = [x, y] → 2 ≤ l.length := fun x y e => by
    have := congrArg List.length e
    simp at this
    omega
  rcases h with h | h | h
  · exact key _ _ (of_decide_eq_true (by rw [b, h]; rfl))
  · exact key _ _ (of_decide_eq_true (by rw [c, h]; rfl))
  · exact key _ _ (of_decide_eq_true (by rw [a, h]; rfl))
theorem kd_at {l : List UInt8} {x y : UInt8} (h : l.take 2 = [x, y]) : l[1]? = some y := by
  have := congrArg (fun z => z[1]?) h
  simp at this
  exact this
end Go.Proofs.YtldieebiicblbaaGreatDoor.ls

/-
  What the document's own trimmed, blank, Number, Cut, Fold and Same of layer 5 are: the same answers as the plain functions of rows of bytes. Conditions: the texts are no longer than an int can tell; of Same: two slices that read alike.
-/
namespace Go.Proofs.YtldieebiicblbaaGreatDoor.ref05
open Go.ChangeShapes Go.WideShapes Go.ChangeAt Go.RowKit
open lx lines
set_option linter.unusedVariables false
set_option maxRecDepth 100000

/-! trimmed, blank -/
theorem trim_yes {s : ByteArray} (h : 0 < s.size) (h13 : bt s (s.size - 1) = 13) : s.extract 0 (s.size - 1) = B (trim (L s)) := by
  obtain ⟨c, e1, e2, _⟩ := drop_at s (s.size - 1) (by omega)
  obtain rfl : c = 13 := UInt8.toNat_inj.1 (by rw [e1, h13]; rfl)
  rw [drop_end s (s.size - 1 + 1) (by omega)] at e2
  have e3 : L s = (L s).take (s.size - 1) ++ [13] := by rw [← e2, List.take_append_drop]
  rw [ext_B, List.drop_zero, Nat.sub_zero]
  conv => rhs; rw [e3]
  rw [trim_off]
theorem trim_no {s : ByteArray} (h : s.size = 0 ∨ bt s (s.size - 1) ≠ 13) : s = B (trim (L s)) := by
  rw [trim_keep, B_L]
  intro m e
  have z : (L s).length = s.size := rfl
  have hl := congrArg List.length e
  simp at hl
  rcases h with h | h
  · omega
  · apply h
    unfold bt
    rw [e, List.getD_eq_getElem?_getD, List.getElem?_append_right (by omega), show s.size - 1 - m.length = 0 by omega]
    rfl
theorem ret_s {a b : ByteArray} (h : a = b) : Ending.returned (.string a) = .returned (.string b) := by rw [h]
theorem trimmed_is (s : ByteArray) (W : World) (hs : s.size < 4294967281) : Calls Tryz.prog 73 #[.string s] W fun e w' => e = .returned (.string (B (trim (L s)))) ∧ W = w' := by
  by_cases h0 : s.size = 0
  · have E := Lib.hid (trim_no (s := s) (.inl h0))
    generalize B (trim (L s)) = X at *
    obtain rfl := tl_nil h0
    clear h0 hs
    go_enter Tryz.func73, Tryz.ntmps73
    go_wp2
    go_ret
    exact ⟨ret_s E.out, rfl⟩
  · have hp : 0 < s.size := by omega
    have hb := bt_at s (s.size - 1) (by omega)
    by_cases h : bt s (s.size - 1) = 13
    · have E := Lib.hid (trim_yes hp h)
      generalize B (trim (L s)) = X at *
      go_enter Tryz.func73, Tryz.ntmps73
      go_wp2
      go_ret
      exact ⟨ret_s E.out, rfl⟩
    · have E := Lib.hid (trim_no (s := s) (.inr h))
      have t1 : ((bt s (s.size - 1) : Int) == 13) = false := by simp; omega
      generalize B (trim (L s)) = X at *
      clear h
      go_enter Tryz.func73, Tryz.ntmps73
      go_wp2
      go_ret
      exact ⟨ret_s E.out, rfl⟩
theorem blank_yes (b : Nat) (W : World) (h : b = 32 ∨ b = 9) : Calls Tryz.prog 79 #[.int .u8 (b : Nat)] W fun e w' => e = .returned (.bool true) ∧ W = w' := by
  rcases h with rfl | rfl
  · go_enter Tryz.func79, Tryz.ntmps79
    go_wp2
    go_ret
    exact ⟨rfl, rfl⟩
  · go_enter Tryz.func79, Tryz.ntmps79
    go_wp2
    go_ret
    exact ⟨rfl, rfl⟩
theorem blank_no (b : Nat) (W : World) (h1 : b ≠ 32) (h2 : b ≠ 9) : Calls Tryz.prog 79 #[.int .u8 (b : Nat)] W fun e w' => e = .returned (.bool false) ∧ W = w' := by
  have t1 : ((b : Int) == 32) = false := by simp; omega
  have t2 : ((b : Int) == 9) = false := by simp; omega
  clear h1 h2
  go_enter Tryz.func79, Tryz.ntmps79
  go_wp2
  go_ret
  exact ⟨rfl, rfl⟩

/-! Number -/
def RHead (s : ByteArray) (t i : Value) : Prop :=
  ∃ (p : Nat) (n : Int), t = .int .i64 n ∧ i = .int .i64 p ∧ p ≤ s.size ∧ 0 ≤ n ∧ n ≤ 9223372036854775807 ∧ nmb n ((L s).drop p) = nm (L s)
set_option maxHeartbeats 1000000 in
theorem number_at (s : ByteArray) (w : World) (hs : s.size < 4294967281) : Calls Tryz.prog 75 #[.string s] w (NTold s w) := by
  by_cases h0 : s.size = 0
  · obtain rfl := tl_nil h0
    have R := Lib.hid (ntold_no (s := ⟨#[]⟩) (w := w) (W := w) rfl (Below.refl _ _))
    clear h0 hs
    go_enter Tryz.func75, Tryz.ntmps75
    go_wp2
    refine wp_loop_rounds 1 ?_
    rw [rounds_succ]
    go_wp2
    go_ret2
    exact R.out
  have t0 := tl_ne (show 0 < s.size by omega)
  have N0 := Lib.hid (nm_of s (by omega))
  go_enter Tryz.func75, Tryz.ntmps75
  go_wp2
  go_loop [4, 5] (fun t i => RHead s t i) (fun _ i => s.size - (intOf i).toNat)
  case atStart => exact ⟨0, 0, rfl, rfl, by omega, by omega, by omega, N0.out.symm⟩
  case round =>
    obtain ⟨p, n, rfl, rfl, hp, hn0, hn1, e⟩ := hrel
    by_cases hlt : p < s.size
    · have hb := bt_at s p hlt
      have bd := bt_lt s p
      by_cases hd : 48 ≤ bt s p ∧ bt s p ≤ 57
      · obtain ⟨d1, d2⟩ := hd
        by_cases hq : 10 * n + ((bt s p : Int) - 48) ≤ 9223372036854775807
        · have E2 := Lib.hid ((nmb_go s p n hlt d1 d2 hq).symm.trans e)
          have q1 : ¬ ((9223372036854775807 - ((bt s p : Int) - 48)) / 10 < n) := by omega
          clear e
          go_wp2
          go_round
          case rel => exact ⟨p + 1, _, rfl, by go_num, by omega, by omega, by omega, E2.out⟩
          case measure => simp [intOf]; omega
        · have R := Lib.hid (ntold_no (w := w) (W := w) (e.symm.trans (nmb_stop s p n hlt (by omega))) (Below.refl _ _))
          have q1 : ((9223372036854775807 - ((bt s p : Int) - 48)) / 10 < n) := by omega
          clear e
          go_wp2
          go_ret2
          exact R.out
      · have R := Lib.hid (ntold_no (w := w) (W := w) (e.symm.trans (nmb_stop s p n hlt (by omega))) (Below.refl _ _))
        clear e
        by_cases d1 : bt s p < 48
        · clear hd
          go_wp2
          go_ret2
          exact R.out
        · have d2 : 57 < bt s p := by omega
          clear hd
          go_wp2
          go_ret2
          exact R.out
    · have R := Lib.hid (ntold_yes (w := w) (W := w) (e.symm.trans (nmb_done s p n (by omega))) (Below.refl _ _))
      clear e
      go_wp2
      go_ret2
      exact R.out
theorem number_on {w : World} (W : World) (hb : Below w.heap.size w W) (s : ByteArray) (hs : s.size < 4294967281) : Calls Tryz.prog 75 #[.string s] W fun e w' => e = .returned (.tuple #[.int .i64 (nmI (L s)), .bool (nmT (L s))]) ∧ Below w.heap.size w w' :=
  (number_at s W hs).mono fun e w' ⟨he, hw⟩ => ⟨he, hb.trans (hw.mono hb.size)⟩

/-! Cut -/
def CHead (m : Nat) (i : Value) : Prop := ∃ k : Nat, k ≤ m ∧ i = .int .i64 k
set_option maxHeartbeats 1000000 in
theorem cut_hit {w : World} (W : World) (hb : Below w.heap.size w W) (s t : ByteArray) (i : Nat) (hs : s.size < 4294967281) (h : Hit s t i) :
    Calls Tryz.prog 100 #[.string s, .string t] W fun e w' => e = .returned (.tuple #[.string (s.extract 0 i), .string (s.extract (i + t.size) s.size), .bool true]) ∧ Below w.heap.size w w' := by
  have t0 := tl_ne h.1
  have z := h.2.1
  go_enter Tryz.func100, Tryz.ntmps100
  go_wp2
  go_loop [7] (fun k => CHead i k) (fun k => s.size - (intOf k).toNat)
  case atStart => exact ⟨0, by omega, rfl⟩
  case round =>
    obtain ⟨k, hk, rfl⟩ := hrel
    have hroom : k + t.size ≤ s.size := by omega
    have oc := beq_s (s.extract k (k + t.size)) t
    rw [← occ_ext s t k hroom] at oc
    have hsl := fun W => sl_run W s k (k + t.size) ((k : Int) + (t.size : Int)) rfl (by omega) hroom
    by_cases hlt : k < i
    · rw [h.2.2.2 k hlt] at oc
      have z0 := h.1
      clear h
      go_wp2
      go_round
      case rel => exact ⟨k + 1, by omega, by go_num⟩
      case measure => simp [intOf]; omega
    · obtain rfl : i = k := by omega
      rw [h.2.2.1] at oc
      clear h
      have hs2 := fun W => sl_from W s (i + t.size) ((i : Int) + (t.size : Int)) rfl hroom
      go_wp2
      have hw : IntKind.i64.wrap ((i : Int) + (t.size : Int)) = (i : Int) + (t.size : Int) := IntWalk.i64_in _ (by omega)
      go_quiet (fail)
      go_wp2
      go_ret3
      exact ⟨rfl, below_drewN hb _⟩
set_option maxHeartbeats 1000000 in
theorem cut_miss {w : World} (W : World) (hb : Below w.heap.size w W) (s t : ByteArray) (hs : s.size < 4294967281) (ht : t.size < 4294967281) (h : Miss s t) :
    Calls Tryz.prog 100 #[.string s, .string t] W fun e w' => e = .returned (.tuple #[.string s, .string ⟨#[]⟩, .bool false]) ∧ Below w.heap.size w w' := by
  by_cases h0 : t.size = 0
  · obtain rfl := tl_nil h0
    clear h h0
    go_enter Tryz.func100, Tryz.ntmps100
    go_wp2
    refine wp_loop_rounds 1 ?_
    rw [rounds_succ]
    go_wp2
    go_ret3
    exact ⟨rfl, hb⟩
  · have t0 := tl_ne (show 0 < t.size by omega)
    go_enter Tryz.func100, Tryz.ntmps100
    go_wp2
    go_loop [7] (fun k => CHead (s.size + 1) k) (fun k => s.size + 1 - (intOf k).toNat)
    case atStart => exact ⟨0, by omega, rfl⟩
    case round =>
      obtain ⟨k, hk, rfl⟩ := hrel
      by_cases hroom : k + t.size ≤ s.size
      · have oc := beq_s (s.extract k (k + t.size)) t
        rw [← occ_ext s t k hroom] at oc
        rw [(by rcases h with h | h; exact absurd h h0; exact h k (by omega) : Lib.occAt (L s) (L t) k = false)] at oc
        have hsl := fun W => sl_run W s k (k + t.size) ((k : Int) + (t.size : Int)) rfl (by omega) hroom
        clear h
        go_wp2
        go_round
        case rel => exact ⟨k + 1, by omega, by go_num⟩
        case measure => simp [intOf]; omega
      · clear h
        have q1 : ¬ ((k : Int) + (t.size : Int) ≤ (s.size : Int)) := by omega
        go_wp2
        go_ret3
        exact ⟨rfl, hb⟩
end Go.Proofs.YtldieebiicblbaaGreatDoor.ref05

/-
  What the document's own Words of layer 5 is: the words of a text. Condition: the text is no longer than a slice can count.
-/
namespace Go.Proofs.YtldieebiicblbaaGreatDoor.ref05
open Go.ChangeShapes Go.WideShapes Go.ChangeAt Go.RowKit
open lx lines
set_option linter.unusedVariables false
set_option maxRecDepth 100000

def XHead (s : ByteArray) (w : World) (t i : Value) (W : World) : Prop :=
  ∃ (p : Nat) (ls : List ByteArray) (v : Value), v = t ∧ i = .int .i64 p ∧ p ≤ s.size + 1 ∧ ls.map L ++ wds [] ((L s).drop p) = wds [] (L s) ∧ W.ownsRow w.heap.size 9 1 v ls.length (ls.map Value.string) ∧ Below w.heap.size w W
def YHead (s : ByteArray) (p : Nat) (i : Value) : Prop := ∃ q : Nat, i = .int .i64 q ∧ p ≤ q ∧ q ≤ s.size ∧ ∀ j, p ≤ j → j < q → bt s j ≠ 32 ∧ bt s j ≠ 9
theorem word_step (s : ByteArray) (p q : Nat) (h : p < q) (hq : q ≤ s.size) (hn : ∀ j, p ≤ j → j < q → bt s j ≠ 32 ∧ bt s j ≠ 9) (he : q = s.size ∨ bt s q = 32 ∨ bt s q = 9) : wds [] ((L s).drop p) = cur s p q :: wds [] ((L s).drop (q + 1)) := by
  have e := wds_go s p p (q - p) (Nat.le_refl _) (fun j h1 h2 => hn j h1 (by omega))
  rw [cur_same, show p + (q - p) = q by omega] at e
  rw [e]
  by_cases hs : q = s.size
  · subst hs
    rw [wds_last s p s.size h (Nat.le_refl _) (Nat.le_refl _), drop_end s (s.size + 1) (by omega)]
    rfl
  · rw [wds_cut s p q h (by omega) (by omega), cur_same]
theorem gap_step (s : ByteArray) (p : Nat) (h : p < s.size) (hn : bt s p = 32 ∨ bt s p = 9) : wds [] ((L s).drop p) = wds [] ((L s).drop (p + 1)) := by
  have e := wds_gap s p h hn
  rw [cur_same, cur_same] at e
  exact e
theorem xhead_cut {s : ByteArray} {w W W1 : World} {v v' : Value} {ls : List ByteArray} {p q : Nat} (e : ls.map L ++ wds [] ((L s).drop p) = wds [] (L s)) (ho : W.ownsRow w.heap.size 9 1 v ls.length (ls.map Value.string)) (hb : Below w.heap.size w W)
    (h : p < q) (hq : q ≤ s.size) (hn : ∀ j, p ≤ j → j < q → bt s j ≠ 32 ∧ bt s j ≠ 9) (he : q = s.size ∨ bt s q = 32 ∨ bt s q = 9)
    (ho' : W1.ownsRow w.heap.size 9 1 v' (ls ++ [s.extract p q]).length ((ls ++ [s.extract p q]).map Value.string)) (hg : W.grownBy W1 v.ownBlock) : XHead s w v' (.int .i64 ((q : Int) + 1)) W1 := by
  refine ⟨q + 1, _, v', rfl, rfl, by omega, ?_, ho', hb.grown hg hb.size fun k hk => (ho.lt k hk).1⟩
  rw [← e, word_step s p q h hq hn he, List.map_append, List.map_cons, List.map_nil, cur_ext, List.append_assoc, List.singleton_append]
theorem words_told {s : ByteArray} {w W : World} {v : Value} {ls : List ByteArray} (e : ls.map L = wds [] (L s)) (ho : W.ownsRow w.heap.size 9 1 v ls.length (ls.map Value.string)) (hb : Below w.heap.size w W) : lines.Told w (wordsS s) (.returned v) W := by
  have e2 : wordsS s = ls := by
    unfold wordsS
    rw [← e, map_BL]
  rw [e2]
  obtain ⟨A, c, rfl, hs, hc⟩ := Strs.of_own ho
  exact ⟨A, c, rfl, hs, ⟨hc, fun b o e => (ho.lt b (by rw [e]; rfl)).1⟩, hb⟩

set_option maxHeartbeats 2000000 in
theorem words_at (s : ByteArray) (w : World) (hs : s.size < 4294967281) : Calls Tryz.prog 49 #[.string s] w (lines.Told w (wordsS s)) := by
  go_enter Tryz.func49, Tryz.ntmps49
  go_wp2
  go_loopw [3, 4] (fun t i W => XHead s w t i W) (fun _ i _ => s.size + 1 - (intOf i).toNat)
  case atStart => exact ⟨0, [], _, rfl, rfl, by omega, rfl, World.ownsRow_nil _ _ _ _, Below.refl _ _⟩
  case round =>
    obtain ⟨p, ls, v, rfl, rfl, hp, e, ho, hb⟩ := hrel
    have hl := wlen e
    by_cases hlt : p < s.size
    · have hbt := bt_at s p hlt
      by_cases hbk : bt s p = 32 ∨ bt s p = 9
      · have C := Lib.hid (fun W => blank_yes (bt s p) W hbk)
        have E : Hid (ls.map L ++ wds [] ((L s).drop (p + 1)) = wds [] (L s)) := by
          show _ = _
          rw [← gap_step s p hlt hbk]
          exact e
        clear hbk e
        go_wp2_with (go_at_call 79; (with_reducible refine (C.out _).mono ?_); rintro e w' ⟨rfl, rfl⟩)
        go_roundw
        case rel => exact ⟨p + 1, ls, v, rfl, by go_num, by omega, E.out, ho, hb⟩
        case measure => simp [intOf]; omega
      · have C := Lib.hid (fun W => blank_no (bt s p) W (by omega) (by omega))
        have E := Lib.hid e
        have HO := Lib.hid ho
        have HN : Hid (bt s p ≠ 32 ∧ bt s p ≠ 9) := ⟨by omega, by omega⟩
        clear e ho hbk
        go_wp2_with (go_at_call 79; (with_reducible refine (C.out _).mono ?_); rintro e w' ⟨rfl, rfl⟩)
        go_loop [4] (fun i => YHead s p i) (fun i => s.size - (intOf i).toNat)
        case atStart => exact ⟨p, rfl, by omega, by omega, fun j h1 h2 => by omega⟩
        case round =>
          obtain ⟨q, rfl, hpq, hq, hn⟩ := hrel
          by_cases hlq : q < s.size
          · have hbq := bt_at s q hlq
            by_cases hbk : bt s q = 32 ∨ bt s q = 9
            · have C2 := Lib.hid (fun W => blank_yes (bt s q) W hbk)
              have hpq2 : p < q := by
                rcases Nat.lt_or_ge p q with k | k
                · exact k
                · obtain rfl : q = p := by omega
                  have := HN.out
                  omega
              have R := Lib.hid (fun v' W1 ho' hg => xhead_cut (v' := v') (W1 := W1) E.out HO.out hb hpq2 hq hn (.inr hbk) ho' hg)
              clear hn hbk
              go_wp2_with (first
                | (go_at_call 79; (with_reducible refine (C2.out _).mono ?_); rintro e w' ⟨rfl, rfl⟩)
                | (at_builtin; refine app_one rfl _ _ rfl w.heap.size wr v ls _ rfl rfl HO.out (by omega) hb.size ?_; intro v' w1 ho' hg))
              go_roundw
              case rel => exact R.out _ _ ho' hg
              case measure => simp [intOf]; omega
            · have C2 := Lib.hid (fun W => blank_no (bt s q) W (by omega) (by omega))
              have hn2 : Hid (∀ j, p ≤ j → j < q + 1 → bt s j ≠ 32 ∧ bt s j ≠ 9) := by
                intro j h1 h2
                rcases Nat.lt_or_ge j q with k | k
                · exact hn j h1 k
                · obtain rfl : q = j := by omega
                  omega
              clear hn hbk
              go_wp2_with (go_at_call 79; (with_reducible refine (C2.out _).mono ?_); rintro e w' ⟨rfl, rfl⟩)
              go_round
              case rel => exact ⟨q + 1, by go_num, by omega, by omega, hn2.out⟩
              case measure => simp [intOf]; omega
          · obtain rfl : q = s.size := by omega
            have R := Lib.hid (fun v' W1 ho' hg => xhead_cut (v' := v') (W1 := W1) E.out HO.out hb hlt hq hn (.inl rfl) ho' hg)
            clear hn
            go_wp2_with (at_builtin; refine app_one rfl _ _ rfl w.heap.size wr v ls _ rfl rfl HO.out (by omega) hb.size ?_; intro v' w1 ho' hg)
            go_roundw
            case rel => exact R.out _ _ ho' hg
            case measure => simp [intOf]; omega
    · have e2 : ls.map L = wds [] (L s) := by
        rw [← e, drop_end s p (by omega), wds_end0, List.append_nil]
      have R := Lib.hid (words_told e2 ho hb)
      clear e e2 ho
      go_wp2
      go_ret
      exact R.out
theorem words_on {w : World} (W : World) (hb : Below w.heap.size w W) (s : ByteArray) (hs : s.size < 4294967281) : Calls Tryz.prog 49 #[.string s] W (lines.Told W (wordsS s)) := words_at s W hs
end Go.Proofs.YtldieebiicblbaaGreatDoor.ref05

/-
  What the document's own Posix, Ntp, digit, Word, Hash and Text of layer 7 are: the same answers. Conditions: the arguments are numbers of 64 bits; the texts have fewer than 2^32 - 15 bytes; the numbers of a hash are below 2^32.
-/
namespace Go.Proofs.YtldieebiicblbaaGreatDoor.ref07
open Go.ChangeShapes Go.WideShapes Go.ChangeAt Go.RowKit
open lx nx sx ntp
open sha (hd hp_new hp_old row_cell row_set szc sz5 kept bal btr bel_setRow upto upto_set upto_all upto_zero)
set_option linter.unusedVariables false
set_option maxRecDepth 100000

theorem posix_yes (n : Int) (w : World) (hn : fit n) (h : 0 ≤ n) :
    Calls Tryz.prog 20 #[.int .i64 n] w fun e w' => e = .returned (.tuple #[.int .i64 (n - 2208988800), .bool true]) ∧ w = w' := by
  obtain ⟨hn1, hn2⟩ := hn
  go_enter Tryz.func20, Tryz.ntmps20
  go_wp2
  go_ret2
  exact ⟨rfl, rfl⟩
theorem posix_no (n : Int) (w : World) (hn : fit n) (h : ¬ 0 ≤ n) :
    Calls Tryz.prog 20 #[.int .i64 n] w fun e w' => e = .returned (.tuple #[.int .i64 0, .bool false]) ∧ w = w' := by
  obtain ⟨hn1, hn2⟩ := hn
  go_enter Tryz.func20, Tryz.ntmps20
  go_wp2
  go_ret2
  exact ⟨rfl, rfl⟩
theorem ntp_yes (p : Int) (w : World) (h : Has p) :
    Calls Tryz.prog 31 #[.int .i64 p] w fun e w' => e = .returned (.tuple #[.int .i64 (p + 2208988800), .bool true]) ∧ w = w' := by
  obtain ⟨h1, h2⟩ := h
  go_enter Tryz.func31, Tryz.ntmps31
  go_wp2
  go_ret2
  exact ⟨rfl, rfl⟩
theorem ntp_no (p : Int) (w : World) (hp : fit p) (h : ¬ Has p) :
    Calls Tryz.prog 31 #[.int .i64 p] w fun e w' => e = .returned (.tuple #[.int .i64 0, .bool false]) ∧ w = w' := by
  obtain ⟨hp1, hp2⟩ := hp
  by_cases h2 : p ≤ 9223372034645787007
  · have h1 : p < -2208988800 := by unfold Has at h; omega
    clear h
    go_enter Tryz.func31, Tryz.ntmps31
    go_wp2
    go_ret2
    exact ⟨rfl, rfl⟩
  · clear h
    go_enter Tryz.func31, Tryz.ntmps31
    go_wp2
    go_ret2
    exact ⟨rfl, rfl⟩
theorem digit_yes (c d : Nat) (W : World) (h : dv c = some d) : Calls Tryz.prog 80 #[.int .u8 (c : Nat)] W fun e w' => e = .returned (.int .i64 (d : Nat)) ∧ W = w' := by
  rcases dv_cases h with ⟨h1, h2, h3⟩ | ⟨h1, h2, h3⟩ | ⟨h1, h2, h3⟩
  · have e : (d : Int) = (c : Int) - 48 := by omega
    rw [e]
    clear h h3 e
    go_enter Tryz.func80, Tryz.ntmps80
    go_wp2
    go_ret
    exact ⟨rfl, rfl⟩
  · have e : (d : Int) = (c : Int) - 97 + 10 := by omega
    rw [e]
    clear h h3 e
    go_enter Tryz.func80, Tryz.ntmps80
    go_wp2
    go_ret
    exact ⟨rfl, rfl⟩
  · have e : (d : Int) = (c : Int) - 65 + 10 := by omega
    rw [e]
    clear h h3 e
    go_enter Tryz.func80, Tryz.ntmps80
    go_wp2
    go_ret
    exact ⟨rfl, rfl⟩
theorem digit_no (c : Nat) (W : World) (hc : c < 256) (h : dv c = none) : Calls Tryz.prog 80 #[.int .u8 (c : Nat)] W fun e w' => e = .returned (.int .i64 (-1)) ∧ W = w' := by
  obtain ⟨h1, h2, h3⟩ := dv_none h
  clear h
  rcases (show c < 48 ∨ (58 ≤ c ∧ c < 65) ∨ (71 ≤ c ∧ c < 97) ∨ 103 ≤ c by omega) with k | ⟨k, l⟩ | ⟨k, l⟩ | k
  all_goals
    clear h1 h2 h3
    go_enter Tryz.func80, Tryz.ntmps80
    go_wp2
    go_ret
    exact ⟨rfl, rfl⟩
def RHead (s : ByteArray) (t i : Value) : Prop := ∃ p n : Nat, t = .int .u32 n ∧ i = .int .i64 p ∧ p ≤ s.size ∧ n < 16 ^ p ∧ wg n ((L s).drop p) = wrd (L s)
set_option maxHeartbeats 1000000 in
theorem word_at (s : ByteArray) (w : World) (hs : s.size ≤ 9223372036854775807) : Calls Tryz.prog 50 #[.string s] w (WTold s w) := by
  by_cases h0 : s.size = 0
  · obtain rfl : s = ⟨#[]⟩ := L_inj ((L_nil s).2 h0)
    have R := Lib.hid (wtold_no (s := ⟨#[]⟩) (w := w) (W := w) rfl (Below.refl _ _))
    clear h0 hs
    go_enter Tryz.func50, Tryz.ntmps50
    go_wp2
    go_ret2
    exact R.out
  by_cases h8 : 8 < s.size
  · have R := Lib.hid (wtold_no (w := w) (W := w) (wrd_long (l := L s) h8) (Below.refl _ _))
    clear h0
    go_enter Tryz.func50, Tryz.ntmps50
    go_wp2
    go_ret2
    exact R.out
  have N0 := Lib.hid (wrd_in (l := L s) (fun e => h0 ((L_nil s).1 e)) (by rw [L_len]; omega))
  go_enter Tryz.func50, Tryz.ntmps50
  go_wp2
  go_loop [4, 5] (fun t i => RHead s t i) (fun _ i => s.size - (intOf i).toNat)
  case atStart => exact ⟨0, 0, rfl, rfl, by omega, by decide, N0.out.symm⟩
  case round =>
    obtain ⟨p, n, rfl, rfl, hp, hn, e⟩ := hrel
    by_cases hlt : p < s.size
    · have hn7 : n < 268435456 := Nat.lt_of_lt_of_le hn (Nat.pow_le_pow_right (n := 16) (by decide) (show p ≤ 7 by omega))
      have hbt := bt_at s p hlt
      have hbl := bt_lt s p
      cases hd : dv (bt s p) with
      | some d =>
        have D := Lib.hid (fun W => digit_yes (bt s p) d W hd)
        have ho := or_digit n d hn7 (dv_lt hd)
        have dl := dv_lt hd
        have R : Hid (RHead s (.int .u32 ((16 * n + d : Nat) : Int)) (.int .i64 ((p : Int) + 1))) := ⟨p + 1, _, rfl, rfl, by omega, by rw [Nat.pow_succ]; omega, by rw [← wg_go s p n d hlt hd]; exact e⟩
        clear hn e hd
        go_wp2_with (first
          | (go_at_call 80; (with_reducible refine (D.out _).mono ?_; rintro e w' ⟨rfl, rfl⟩)))
        go_round
        case rel => exact R.out
        case measure => simp [intOf]; omega
      | none =>
        have R := Lib.hid (wtold_no (w := w) (W := w) (e.symm.trans (wg_stop s p n hlt hd)) (Below.refl _ _))
        have D := Lib.hid (fun W => digit_no (bt s p) W hbl hd)
        clear hn e hd
        go_wp2_with (first
          | (go_at_call 80; (with_reducible refine (D.out _).mono ?_; rintro e w' ⟨rfl, rfl⟩)))
        go_ret2
        exact R.out
    · have R := Lib.hid (wtold_yes (w := w) (W := w) (e.symm.trans (wg_done s p n (by omega))) (Below.refl _ _))
      clear hn e
      go_wp2
      go_ret2
      exact R.out
theorem word_on {w : World} (W : World) (hb : Below w.heap.size w W) (s : ByteArray) (hs : s.size ≤ 9223372036854775807) : Calls Tryz.prog 50 #[.string s] W fun e w' => e = .returned (.tuple #[.int .u32 (wN (L s) : Nat), .bool (wT (L s))]) ∧ Below w.heap.size w w' :=
  (word_at s W hs).mono fun e w' ⟨he, hw⟩ => ⟨he, hb.trans (hw.mono hb.size)⟩
end Go.Proofs.YtldieebiicblbaaGreatDoor.ref07
