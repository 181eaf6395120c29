/-
  What the rows of layer 10 say of the memory: the listed tables hold what their initialisers lay, and the library's variable MaxLen holds some number (by the world's shape). Conditions: the rows' own.
-/
import Derived.Test.YtpjogjdabhgdoaaDoorG25
import Derived.Test.YtpjogjdabhgdoaaDoorG11
import Derived.HandedShaped
import Derived.Lib.LaidTab
import Derived.Test.YtpjogjdabhgdoaaDoorG20
namespace Go.Proofs.YtpjogjdabhgdoaaDoor.list
open Go Go.ChangeShapes Go.WideShapes Go.ChangeAt Go.RowKit
open lx ls mem
set_option linter.unusedVariables false
set_option maxRecDepth 100000

theorem tPow : (Tryd.prog.globals[2]?).map (·.type) = some 135 := by kernel_rfl
theorem cU64 : Tryd.prog.cellsOf 78 = 1 := by kernel_rfl
theorem pw_of {W : World} {l : List (String × DataW Unit)} (h : laidMet Tryd.prog l W) (h2 : ("internal/strconv.uint64pow10", Rows.laid_internal_strconv_uint64pow10) ∈ l) : Pw W := by
  obtain ⟨ps, hL, _, _⟩ := h
  obtain ⟨cs, f', p', hv', ht'⟩ := laid_at gPow tPow l ps hL h2
  have e1 : cs.toList = Lib.pow10Tab.map fun z => Value.int .u64 z := Lib.cells_of_tab (zs := Lib.pow10Tab) Tryd.underlying135 Tryd.underlying78 cU64 (by kernel_rfl) ht'
  unfold Pw Lib.TabIs
  rw [hv', ← e1]
theorem gTab : Tryd.prog.globalNamed "math/bits.deBruijn64tab" = some 6 := by kernel_rfl
theorem tTab : (Tryd.prog.globals[6]?).map (·.type) = some 91 := by kernel_rfl
def tab64 : List Int := [0, 1, 56, 2, 57, 49, 28, 3, 61, 58, 42, 50, 38, 29, 17, 4, 62, 47, 59, 36, 45, 43, 51, 22, 53, 39, 33, 30, 24, 18, 12, 5, 63, 55, 48, 27, 60, 41, 37, 16, 46, 35, 44, 21, 52, 32, 23, 11, 54, 26, 40, 15, 34, 20, 31, 10, 25, 14, 19, 9, 13, 8, 7, 6]
theorem tz_of {W : World} {l : List (String × DataW Unit)} (h : laidMet Tryd.prog l W) (h1 : ("math/bits.deBruijn64tab", Rows.laid_math_bits_deBruijn64tab) ∈ l) : ntp.Tz W := by
  obtain ⟨ps, hL, _, _⟩ := h
  obtain ⟨c, f, p, hv, ht⟩ := laid_at gTab tTab l ps hL h1
  have e1 : c.toList = tab64.map fun z => Value.int .u8 z := Lib.cells_of_tab (zs := tab64) Tryd.underlying91 Tryd.underlying5 sha.cB (by kernel_rfl) ht
  unfold ntp.Tz
  rw [World.var?_cell gTab hv 15, ← Array.getElem?_toList, e1]
  rfl
theorem all_of {W : World} {l : List (String × DataW Unit)} (h : laidMet Tryd.prog l W) (h1 : ("epact/day.lengths", Rows.laid_epact_day_lengths) ∈ l) (h2 : ("epact/day.spans", Rows.laid_epact_day_spans) ∈ l) (h3 : ("math/bits.deBruijn64tab", Rows.laid_math_bits_deBruijn64tab) ∈ l)
    (h4 : ("internal/strconv.uint64pow10", Rows.laid_internal_strconv_uint64pow10) ∈ l) (h5 : ("epact/sha.start", Rows.laid_epact_sha_start) ∈ l) (hsh : W.ShapedOpen Tryd.prog) : All W :=
  ⟨day.tabs_of h h1 h2, lines.ml_of hsh, sha.st_of h h5, pw_of h h4, tz_of h h3⟩
/-- a row with listed variables, whose walk may use the world's shape. -/
theorem handed_both {H : Type} {enc : TypeId × Value → H} {a : Assume} {C : Checked} {os : Os} {f : FuncId} {fn : Func} {s : ChangeSpec} {conds : List PathCond} {apart fresh handsOn again : Bool} {X : World → Array Value → Prop}
    (hX : ∀ (w w' : World) (args : Array Value), w.heap = w'.heap → X w args → X w' args) (own : ownKnob C.prog.godebug = none) (started : os.Started) (noInit : C.prog.inits.idxOf? f = none) (hfn : C.prog.funcs[f]? = some fn)
    (start : ∃ (w : World) (tape : Tape) (i : Input), w.os = os ∧ (w.forCall tape i).Shaped C.prog ∧ i.vars = [] ∧ Input.okWide C.prog (w.forCall tape i) .any w.heap.size f i ∧
      ((s.pre enc C.prog fn conds apart (w.forCall tape i).memory i.args ∧ X (w.forCall tape i).memory i.args) ∧ sizedMet enc C.prog fn (OpenSpec.ofChange s) apart (w.forCall tape i).memory i.args) ∧ a.holds C.prog (lone (Frame.enter C.prog f i.args .normal) [] (w.forCall tape i)))
    (walk : ∀ (W : World) (base : Nat) (args : Array Value) (ds gs : List (DataW H)) (before : List MemPlace), (∀ (j : Nat) t v, fn.params[j]? = some t → args[j]? = some v → Value.okWide C.prog W .any base t v) → DataW.Whole enc C.prog fn.params.toList s.vars apart W args.toList ds gs before →
      conds.all (PathCond.test C.prog ⟨fn.params.toList, ds, s.plain.varTypes C.prog, gs⟩) = true → (DataW.weightsEach C.prog (fn.params.toList ++ s.plain.varTypes C.prog) (ds ++ gs)).all (· ≤ reachBytes) = true → X W args → W.ShapedOpen C.prog →
      a.holds C.prog (lone (Frame.enter C.prog f args .normal) [] W) → Calls C.prog f args W fun e W' => ∃ v, e = .returned v ∧ s.post enc C.prog fn apart fresh handsOn again W args v W') :
    ReturnsInHanded a C os f .any (fun w args => (s.pre enc C.prog fn conds apart w args ∧ X w args) ∧ sizedMet enc C.prog fn (OpenSpec.ofChange s) apart w args) (s.post enc C.prog fn apart fresh handsOn again) := by
  refine returnsInHanded_of_calls own started noInit start fun w tape i _ shape _ fine met holds => ?_
  obtain ⟨_, _, _, gn, hgn, _, _, _, _, vals⟩ := fine
  cases Option.some.inj (hgn.symm.trans hfn)
  obtain ⟨⟨⟨ds, gs, before, whole, cnd⟩, x⟩, size⟩ := met
  have done := walk (w.forCall tape i) w.heap.size i.args ds gs before vals (DataW.Whole.of_heap (w' := w.forCall tape i) (by rfl) whole) cnd (size.weights whole) (hX _ _ _ (by rfl) x) shape holds
  exact done.mono fun e W' ⟨v, he, post⟩ => by
    subst he
    exact ChangeSpec.post_blind post
end Go.Proofs.YtpjogjdabhgdoaaDoor.list

/-
  A list with one more line, which is a hash: how it is read. Plain mathematics (ls). Conditions: as said.
-/
namespace Go.Proofs.YtpjogjdabhgdoaaDoor.ls
open lx nx
open lm (Lp ce dy st)
open list (stE_mark stS_mark stE_data stS_data stE_skip stS_skip mS dS)
set_option linter.unusedVariables false
set_option maxRecDepth 100000

theorem run_p3 : ∀ (ls : List (List UInt8)) (k : Nat) (s : S), (∀ l ∈ ls, kd l ≠ 3) → s.p 3 = 0 → (run ls k s).2.p 3 = 0
  | [], _, _, _, h => h
  | l :: r, k, s, hl, h => by
    by_cases e : stE l s = 0
    · rw [run_go e]
      refine run_p3 r (k + 1) _ (fun x hx => hl x (by simp [hx])) ?_
      unfold stS
      simp only
      split
      · exact h
      · rw [put_other (fun g => hl l (by simp) g.symm)]
        exact h
    · rw [run_no e]
      exact h
/-- the lines of a text with a line behind it. -/
theorem spl_more {s : List UInt8} {x : List UInt8} (hs : s = [] ∨ ∃ s', s = s' ++ [10]) (hx : Fin1 x) : spl [] (s ++ (x ++ [10])) = spl [] s ++ [x] := by
  have h1 : spl [] (x ++ 10 :: []) = [x] := by rw [spl_hit hx.1, hx.2]; rfl
  rcases hs with rfl | ⟨s', rfl⟩
  · exact h1
  · rw [List.append_assoc, List.singleton_append, spl_join, h1]
theorem hash_line {ls : List (List UInt8)} (h3 : ∀ l ∈ ls, kd l ≠ 3) (f : Nat → Nat) (hf : ∀ k, k < 5 → f k < 4294967296) :
    ((parse ls).code ≠ 0 ∧ (parse ls).line ≤ ls.length ∧ parse (ls ++ [hl 32 f]) = parse ls) ∨ ((parse ls) = bad (ls.length + 1) 2 ∧ parse (ls ++ [hl 32 f]) = bad (ls.length + 2) 2) ∨
    ((parse ls).code = 0 ∧ (parse ls).line = 0 ∧ parse (ls ++ [hl 32 f]) = if h5 f (hq ls) = true then parse ls else bad (ls.length + 1) 3) := by
  obtain ⟨oh, hh⟩ := ok_hash (c := 32) (by decide) f hf
  have hp3 := run_p3 ls 0 S0 h3 rfl
  obtain ⟨hinv, hbd⟩ := run_inv ls 0 S0 inv_zero
  rw [Nat.zero_add] at hinv hbd
  by_cases hc : (run ls 0 S0).1.2 = 0
  · obtain ⟨s', r', t1, t2, t3, t4, t5⟩ := run_mark (s := (run ls 0 S0).2) (kd_hash (c := 32) (by decide) f) (.inr (.inr rfl)) hp3 oh ls.length
    have hall : run (ls ++ [hl 32 f]) 0 S0 = ((0, 0), s') := by
      rw [run_app, if_pos hc, Nat.zero_add]
      exact r'
    have e5 : s'.p 5 = (run ls 0 S0).2.p 5 := by rw [t1, put_other (by decide)]
    have e2 : s'.p 2 = (run ls 0 S0).2.p 2 := by rw [t1, put_other (by decide)]
    have e3 : s'.p 3 = ls.length + 1 := by rw [t1]; unfold put; rw [if_pos ⟨rfl, hp3⟩]
    have eh : h5 s'.h (hq ls) = h5 f (hq ls) := by
      rw [Bool.eq_iff_iff, h5_iff, h5_iff]
      constructor
      · intro g k hk
        rw [← g k hk, t5, if_pos rfl, hh k hk]
      · intro g k hk
        rw [t5, if_pos rfl, hh k hk]
        exact g k hk
    have ex : s'.ex = (run ls 0 S0).2.ex := by rw [t4, if_neg (by decide)]
    have p1 : parse ls = fin ls.length (hq ls) (run ls 0 S0).2 := by
      unfold parse
      rw [if_neg (fun k => k hc)]
    have p2 : parse (ls ++ [hl 32 f]) = fin (ls.length + 1) (hq ls) s' := by
      unfold parse
      rw [hall, if_neg (fun k => k rfl), hq_hash (by decide), List.length_append]
      rfl
    have b2 := hinv.place 2
    rw [p1, p2]
    unfold fin
    rw [e5, e2, e3, eh, t2, ex]
    by_cases h5' : (run ls 0 S0).2.p 5 = 0
    · rw [if_pos h5', if_pos h5']
      exact .inr (.inl ⟨rfl, rfl⟩)
    · rw [if_neg h5', if_neg h5']
      by_cases h2 : (run ls 0 S0).2.p 2 ≠ 0 ∧ ce (run ls 0 S0).2.lv true (run ls 0 S0).2.ex ≠ 0
      · rw [if_pos h2, if_pos h2]
        exact .inl ⟨by show (9 : Int) ≠ 0; decide, b2, rfl⟩
      · rw [if_neg h2, if_neg h2, if_neg (fun g => g.1 hp3)]
        refine .inr (.inr ⟨rfl, rfl, ?_⟩)
        cases hf5 : h5 f (hq ls) with
        | true => rw [if_neg (fun g => absurd g.2 (by decide)), if_pos rfl]
        | false => rw [if_pos ⟨by omega, rfl⟩, if_neg (by decide)]
  · have hb := hbd hc
    have hall : run (ls ++ [hl 32 f]) 0 S0 = run ls 0 S0 := by rw [run_app, if_neg hc]
    have p1 : parse ls = bad (run ls 0 S0).1.1 (run ls 0 S0).1.2 := by unfold parse; rw [if_pos hc]
    have p2 : parse (ls ++ [hl 32 f]) = bad (run ls 0 S0).1.1 (run ls 0 S0).1.2 := by unfold parse; rw [hall, if_pos hc]
    rw [p1, p2]
    exact .inl ⟨hc, by unfold bad; simp only; omega, rfl⟩
end Go.Proofs.YtpjogjdabhgdoaaDoor.ls

/-
  A list with a remark and an empty line more: how it is read. Plain mathematics (ls). Conditions: as said.
-/
namespace Go.Proofs.YtpjogjdabhgdoaaDoor.ls
open lx nx
open lm (Lp ce dy st)
open list (stE_mark stS_mark stE_data stS_data stE_skip stS_skip mS dS)
set_option linter.unusedVariables false
set_option maxRecDepth 100000

/-- a line's place, where two lines more stand at c. -/
def shl (c n : Nat) : Nat := if c < n then n + 2 else n
theorem shl_zero (c n : Nat) : shl c n = 0 ↔ n = 0 := by unfold shl; split <;> omega
def shS (c : Nat) (s : S) : S := { s with p := fun i => shl c (s.p i) }
theorem stE_sh (c : Nat) (l : List UInt8) (s : S) : stE l (shS c s) = stE l s := by
  have h : ∀ i, (shS c s).p i = 0 ↔ s.p i = 0 := fun i => shl_zero c (s.p i)
  unfold stE dE
  simp only [h, ne_eq]
  rfl
theorem stS_sh (c a : Nat) (l : List UInt8) (s : S) (ha : c < a) : stS l (a + 2) (shS c s) = shS c (stS l a s) := by
  have h : ∀ i, (shS c s).p i = 0 ↔ s.p i = 0 := fun i => shl_zero c (s.p i)
  unfold stS
  simp only [ne_eq, h]
  unfold shS
  simp only [S.mk.injEq, and_true]
  funext i
  by_cases h04 : kd l = 0 ∨ kd l = 4
  · rw [if_pos h04, if_pos h04]
  · rw [if_neg h04, if_neg h04]
    unfold put
    simp only [shl_zero]
    by_cases g : i = kd l ∧ s.p (kd l) = 0
    · rw [if_pos g, if_pos g]
      unfold shl
      rw [if_pos ha]
    · rw [if_neg g, if_neg g]
theorem run_sh (c : Nat) : ∀ (ls : List (List UInt8)) (j : Nat) (s : S), c ≤ j → run ls (j + 2) (shS c s) = ((shl c (run ls j s).1.1, (run ls j s).1.2), shS c (run ls j s).2)
  | [], j, s, h => by
    rw [run_nil, run_nil]
    simp only [shl, Nat.not_lt_zero, if_false]
  | l :: r, j, s, h => by
    by_cases e : stE l s = 0
    · rw [run_go e, run_go (by rw [stE_sh]; exact e), show j + 2 + 1 = (j + 1) + 2 by omega, stS_sh c (j + 1) l s (by omega)]
      exact run_sh c r (j + 1) _ (by omega)
    · rw [run_no e, run_no (by rw [stE_sh]; exact e), stE_sh]
      unfold shl
      rw [if_pos (show c < j + 1 by omega)]
theorem stS_inert {l : List UInt8} {s : S} {a : Nat} (h : kd l = 0 ∨ kd l = 4) : stS l a s = s := by
  obtain ⟨p1, p2, p3, p4, p5⟩ := stS_skip (s := s) (a := a) h
  cases hs : stS l a s
  rw [hs] at p1 p2 p3 p4 p5
  simp only at p1 p2 p3 p4 p5
  subst p1 p2 p3 p4 p5
  rfl
theorem shS_small {c : Nat} {s : S} (h : ∀ i, s.p i ≤ c) : shS c s = s := by
  unfold shS
  have : (fun i => shl c (s.p i)) = s.p := by
    funext i
    unfold shl
    rw [if_neg (by have := h i; omega)]
  rw [this]
theorem hw_inert {l : List UInt8} (h : kd l = 0 ∨ kd l = 4) (k : Nat) (hk : list.Kind k) : hw k l = [] := by
  unfold hw
  rw [if_neg]
  rintro ⟨g, _⟩
  unfold list.Kind at hk
  omega
theorem hsh_two (a b : List (List UInt8)) {x y : List UInt8} (hx : kd x = 0 ∨ kd x = 4) (hy : kd y = 0 ∨ kd y = 4) : hsh (a ++ ([x, y] ++ b)) = hsh (a ++ b) := by
  have key : ∀ k, list.Kind k → hs1 k (a ++ ([x, y] ++ b)) = hs1 k (a ++ b) := by
    intro k hk
    unfold hs1
    rw [List.flatMap_append, List.flatMap_append, List.flatMap_append]
    have : List.flatMap (hw k) [x, y] = [] := by simp [hw_inert hx k hk, hw_inert hy k hk]
    rw [this, List.nil_append]
  unfold hsh
  rw [key 1 (by unfold list.Kind; omega), key 2 (by unfold list.Kind; omega), key 5 (by unfold list.Kind; omega)]
theorem fin_sh (c n : Nat) (h : c ≤ n) (dg : Nat → Nat) (s : S) : fin (n + 2) dg (shS c s) = { fin n dg s with line := shl c (fin n dg s).line } := by
  have hz : ∀ i, (shS c s).p i = 0 ↔ s.p i = 0 := fun i => shl_zero c (s.p i)
  have hp : ∀ i, (shS c s).p i = shl c (s.p i) := fun i => rfl
  unfold fin
  simp only [hz, ne_eq]
  by_cases h5' : s.p 5 = 0
  · rw [if_pos h5', if_pos h5']
    unfold bad shl
    simp only
    rw [if_pos (show c < n + 1 by omega)]
  · rw [if_neg h5', if_neg h5']
    by_cases h2 : ¬ s.p 2 = 0 ∧ ¬ ce s.lv true s.ex = 0
    · rw [if_pos h2, if_pos (show ¬ s.p 2 = 0 ∧ ¬ ce (shS c s).lv true (shS c s).ex = 0 from h2)]
      rfl
    · rw [if_neg h2, if_neg (show ¬ (¬ s.p 2 = 0 ∧ ¬ ce (shS c s).lv true (shS c s).ex = 0) from h2)]
      by_cases h3 : ¬ s.p 3 = 0 ∧ h5 s.h dg = false
      · rw [if_pos h3, if_pos (show ¬ s.p 3 = 0 ∧ h5 (shS c s).h dg = false from h3)]
        rfl
      · rw [if_neg h3, if_neg (show ¬ (¬ s.p 3 = 0 ∧ h5 (shS c s).h dg = false) from h3)]
        unfold shl
        simp only [Nat.not_lt_zero, if_false]
        rfl
/-- a remark and an empty line ahead of the lines b: nothing turns but the line of a fault. -/
theorem parse_two (a b : List (List UInt8)) {x y : List UInt8} (hx : kd x = 0 ∨ kd x = 4) (hy : kd y = 0 ∨ kd y = 4) : parse (a ++ ([x, y] ++ b)) = { parse (a ++ b) with line := shl a.length (parse (a ++ b)).line } := by
  obtain ⟨hinv, hbd⟩ := run_inv a 0 S0 inv_zero
  rw [Nat.zero_add] at hinv hbd
  have hq' : hq (a ++ ([x, y] ++ b)) = hq (a ++ b) := by unfold hq; rw [hsh_two a b hx hy]
  by_cases hc : (run a 0 S0).1.2 = 0
  · have e1 : run (a ++ b) 0 S0 = run b a.length (run a 0 S0).2 := by rw [run_app, if_pos hc, Nat.zero_add]
    have e2 : run (a ++ ([x, y] ++ b)) 0 S0 = run b (a.length + 2) (shS a.length (run a 0 S0).2) := by
      rw [run_app, if_pos hc, Nat.zero_add, shS_small hinv.place]
      show run (x :: y :: b) a.length _ = _
      rw [run_go (stE_skip hx), stS_inert hx, run_go (stE_skip hy), stS_inert hy]
    rw [run_sh a.length b a.length _ (Nat.le_refl _)] at e2
    unfold parse
    rw [e1, e2, hq']
    by_cases hb : (run b a.length (run a 0 S0).2).1.2 = 0
    · rw [if_neg (fun k => k hb), if_neg (fun k => k hb), show (a ++ ([x, y] ++ b)).length = (a ++ b).length + 2 by simp; omega]
      exact fin_sh _ _ (by simp) _ _
    · rw [if_pos hb, if_pos hb]
      rfl
  · have hb := hbd hc
    have e1 : run (a ++ b) 0 S0 = run a 0 S0 := by rw [run_app, if_neg hc]
    have e2 : run (a ++ ([x, y] ++ b)) 0 S0 = run a 0 S0 := by rw [run_app, if_neg hc]
    unfold parse
    rw [e1, e2, if_pos hc, if_pos hc]
    unfold bad shl
    simp only
    rw [if_neg (by omega)]
end Go.Proofs.YtpjogjdabhgdoaaDoor.ls

/-
  The texts of ListRemarks: lines that are put together again, with a remark and an empty line ahead of one of them, or behind them all. Plain mathematics (ls). Conditions: as said.
-/
namespace Go.Proofs.YtpjogjdabhgdoaaDoor.ls
open lx nx
open list (lines_len spl_tot)
set_option linter.unusedVariables false
set_option maxRecDepth 100000

/-- lines without line feeds, put together and split again. -/
theorem spl_trim : ∀ (ls : List (List UInt8)), (∀ l ∈ ls, ∀ c ∈ l, c ≠ 10) → ∀ r, spl [] (byl ls ++ r) = ls.map trim ++ spl [] r
  | [], _, r => rfl
  | l :: ls, h, r => by
    have e : byl (l :: ls) = l ++ [10] ++ byl ls := by unfold byl; rw [List.flatMap_cons]
    rw [e, List.append_assoc, List.append_assoc, List.singleton_append, spl_hit (h l (by simp)), spl_trim ls (fun x hx => h x (by simp [hx])) r]
    rfl
theorem spl_byl (ls : List (List UInt8)) (h : ∀ l ∈ ls, ∀ c ∈ l, c ≠ 10) : spl [] (byl ls) = ls.map trim := by
  have := spl_trim ls h []
  rw [List.append_nil, spl_end0, List.append_nil] at this
  exact this
theorem trim_two (a b : UInt8) (m : List UInt8) (hb : b ≠ 13) : ∃ m', trim (a :: b :: m) = a :: b :: m' := by
  by_cases h : ∃ x, a :: b :: m = x ++ [13]
  · obtain ⟨x, hx⟩ := h
    rw [hx, trim_off]
    match x, hx with
    | [], hx => simp at hx
    | [y], hx => simp at hx; exact absurd hx.2.1 hb
    | y :: z :: x, hx =>
      simp at hx
      exact ⟨x, by rw [hx.1, hx.2.1]⟩
  · exact ⟨m, trim_keep fun x hx => h ⟨x, hx⟩⟩
theorem wds_keep : ∀ (l cur : List UInt8), cur ≠ [] → ∃ t r, wds cur l = (cur ++ t) :: r
  | [], cur, h => ⟨[], [], by rw [wds_end h, List.append_nil]⟩
  | c :: l, cur, h => by
    cases hb : blk c with
    | true => exact ⟨[], wds [] l, by rw [wds_b hb h, List.append_nil]⟩
    | false =>
      obtain ⟨t, r, e⟩ := wds_keep l (cur ++ [c]) (by simp)
      exact ⟨[c] ++ t, r, by rw [wds_no hb, e, List.append_assoc]⟩
theorem kd_rem (m : List UInt8) : kd (trim (35 :: 32 :: m)) = 4 := by
  obtain ⟨m', e⟩ := trim_two 35 32 m (by decide)
  have hw : wds [] (35 :: 32 :: m') = [35] :: wds [] m' := by rw [wds_no (by decide), List.nil_append, wds_b (by decide) (by simp)]
  rw [e]
  unfold kd
  rw [hw]
  simp
theorem kd_sp : kd (trim [32, 9]) = 0 := by decide
/-- what stands ahead of line k. -/
def rem (m : List UInt8) : List UInt8 := [35, 32] ++ m ++ [10, 32, 9, 10]
theorem rem_byl (m : List UInt8) : rem m = byl [35 :: 32 :: m, [32, 9]] := by unfold rem byl; simp
/-- the text of i rounds. -/
def rtx (ls : List (List UInt8)) (R : List UInt8) (k i : Nat) : List UInt8 := if i ≤ k then byl (ls.take i) else byl (ls.take k) ++ (R ++ byl ((ls.drop k).take (i - k)))
theorem rtx_zero (ls : List (List UInt8)) (R : List UInt8) (k : Nat) : rtx ls R k 0 = [] := by unfold rtx; rw [if_pos (Nat.zero_le _)]; rfl
theorem byl_one (l : List UInt8) : byl [l] = l ++ [10] := by unfold byl; simp
theorem byl_next (ls : List (List UInt8)) (i : Nat) (h : i < ls.length) : byl (ls.take (i + 1)) = byl (ls.take i) ++ (ls[i] ++ [10]) := by
  rw [← byl_one, ← bytes_app, List.take_append_getElem h]
theorem rtx_less {ls : List (List UInt8)} {k i : Nat} (R : List UInt8) (h : i < ls.length) (hk : i ≠ k) : rtx ls R k (i + 1) = rtx ls R k i ++ (ls[i] ++ [10]) := by
  unfold rtx
  by_cases g : i < k
  · rw [if_pos (by omega), if_pos (by omega), byl_next ls i h]
  · rw [if_neg (by omega), if_neg (by omega), show i + 1 - k = (i - k) + 1 by omega, byl_next (ls.drop k) (i - k) (by rw [List.length_drop]; omega)]
    have : (ls.drop k)[i - k]'(by rw [List.length_drop]; omega) = ls[i] := by
      rw [List.getElem_drop]
      congr 1
      omega
    rw [this]
    simp
theorem rtx_here {ls : List (List UInt8)} {k : Nat} (R : List UInt8) (h : k < ls.length) : rtx ls R k (k + 1) = rtx ls R k k ++ R ++ (ls[k] ++ [10]) := by
  unfold rtx
  rw [if_neg (by omega), if_pos (Nat.le_refl _), show k + 1 - k = 0 + 1 by omega, byl_next (ls.drop k) 0 (by rw [List.length_drop]; omega)]
  have : (ls.drop k)[0]'(by rw [List.length_drop]; omega) = ls[k] := by rw [List.getElem_drop]; rfl
  rw [this, List.take_zero]
  show _ ++ (R ++ ([] ++ _)) = _
  simp
theorem rtx_end {ls : List (List UInt8)} {k : Nat} (R : List UInt8) (h : k < ls.length) : rtx ls R k (ls.length + 1) = rtx ls R k ls.length := by
  unfold rtx
  rw [if_neg (by omega), if_neg (by omega), List.take_of_length_le (l := ls.drop k) (i := ls.length + 1 - k) (by rw [List.length_drop]; omega), List.take_of_length_le (l := ls.drop k) (i := ls.length - k) (by rw [List.length_drop]; omega)]
theorem rtx_last (ls : List (List UInt8)) (R : List UInt8) : rtx ls R ls.length (ls.length + 1) = rtx ls R ls.length ls.length ++ R := by
  unfold rtx
  rw [if_neg (by omega), if_pos (Nat.le_refl _), List.drop_length]
  simp [byl]
theorem rtx_all {ls : List (List UInt8)} {k : Nat} (R : List UInt8) (h : k ≤ ls.length) : rtx ls R k (ls.length + 1) = byl (ls.take k) ++ (R ++ byl (ls.drop k)) := by
  unfold rtx
  rw [if_neg (by omega), List.take_of_length_le (l := ls.drop k) (i := ls.length + 1 - k) (by rw [List.length_drop]; omega)]
theorem byl_tot (ls : List (List UInt8)) : (byl ls).length = tot ls + ls.length := by
  induction ls with
  | nil => rfl
  | cons l ls ih =>
    have e : byl (l :: ls) = l ++ [10] ++ byl ls := by unfold byl; rw [List.flatMap_cons]
    rw [e, List.length_append, ih, tot]
    simp
    omega
theorem byl_two (ls : List (List UInt8)) (k : Nat) : (byl (ls.take k)).length + (byl (ls.drop k)).length = (byl ls).length := by
  rw [← List.length_append, ← bytes_app, List.take_append_drop]
theorem rtx_len (ls : List (List UInt8)) (R : List UInt8) (k i : Nat) : (rtx ls R k i).length ≤ (byl ls).length + R.length := by
  unfold rtx
  have h1 := byl_two ls k
  have h2 := byl_two ls i
  have h3 := byl_two (ls.drop k) (i - k)
  split
  · omega
  · rw [List.length_append, List.length_append]
    omega
theorem parse_len (ls : List (List UInt8)) : (parse ls).lv.length ≤ 200 := by
  rcases parse_right ls with ⟨_, _, _, h⟩ | ⟨_, _, _, _, h, _⟩
  · exact (lm.good_of h).len
  · rw [h]; simp
/-- what both texts are read as. -/
theorem two_texts {ls : List (List UInt8)} (hf : ∀ l ∈ ls, ∀ c ∈ l, c ≠ 10) {m : List UInt8} (hm : ∀ c ∈ m, c ≠ 10) {k : Nat} (hk : k ≤ ls.length) :
    parse (spl [] (rtx ls (rem m) k (ls.length + 1))) = { parse (spl [] (byl ls)) with line := shl k (parse (spl [] (byl ls))).line } ∧ hsh (spl [] (rtx ls (rem m) k (ls.length + 1))) = hsh (spl [] (byl ls)) := by
  have hsplit : spl [] (rtx ls (rem m) k (ls.length + 1)) = (ls.take k).map trim ++ ([trim (35 :: 32 :: m), trim [32, 9]] ++ (ls.drop k).map trim) := by
    rw [rtx_all _ hk, spl_trim _ (fun l hl => hf l (List.mem_of_mem_take hl)), rem_byl, spl_trim _ ?_, spl_byl _ (fun l hl => hf l (List.mem_of_mem_drop hl))]
    · rfl
    · intro l hl c hc
      simp only [List.mem_cons, List.not_mem_nil, or_false] at hl
      rcases hl with rfl | rfl
      · simp only [List.mem_cons] at hc
        rcases hc with rfl | rfl | hc
        · decide
        · decide
        · exact hm c hc
      · simp at hc
        rcases hc with rfl | rfl <;> decide
  have hplain : spl [] (byl ls) = (ls.take k).map trim ++ (ls.drop k).map trim := by rw [spl_byl _ hf, ← List.map_append, List.take_append_drop]
  rw [hsplit, hplain]
  have h := parse_two ((ls.take k).map trim) ((ls.drop k).map trim) (.inr (kd_rem m)) (.inl kd_sp)
  have g := hsh_two ((ls.take k).map trim) ((ls.drop k).map trim) (.inr (kd_rem m)) (.inl kd_sp)
  rw [List.length_map, List.length_take, Nat.min_eq_left hk] at h
  exact ⟨h, g⟩
/-! the same of texts -/
def rtS (X : List ByteArray) (r : ByteArray) (k i : Nat) : ByteArray := B (rtx (X.map L) (rem (L r)) k i)
theorem map_get (X : List ByteArray) (i : Nat) (h : i < X.length) : (X.map L)[i]'(by rw [List.length_map]; exact h) = L X[i] := by simp
theorem rtS_zero (X : List ByteArray) (r : ByteArray) (k : Nat) : ⟨#[]⟩ = rtS X r k 0 := by unfold rtS; rw [rtx_zero]; rfl
theorem rtS_less {X : List ByteArray} {r : ByteArray} {k i : Nat} (h : i < X.length) (hk : i ≠ k) : rtS X r k i ++ X[i] ++ ⟨#[10]⟩ = rtS X r k (i + 1) := by
  apply L_inj
  unfold rtS
  rw [L_app, L_app, L_B, L_B, rtx_less _ (by rw [List.length_map]; exact h) hk, map_get X i h, List.append_assoc]
  rfl
theorem L_rem (r : ByteArray) (a : List UInt8) : L (B a ++ ⟨#[35, 32]⟩ ++ r ++ ⟨#[10, 32, 9, 10]⟩) = a ++ rem (L r) := by
  rw [L_app, L_app, L_app, L_B]
  unfold rem
  show a ++ [35, 32] ++ L r ++ [10, 32, 9, 10] = _
  simp
theorem rtS_here {X : List ByteArray} {r : ByteArray} {k : Nat} (h : k < X.length) : rtS X r k k ++ ⟨#[35, 32]⟩ ++ r ++ ⟨#[10, 32, 9, 10]⟩ ++ X[k] ++ ⟨#[10]⟩ = rtS X r k (k + 1) := by
  apply L_inj
  rw [L_app, L_app]
  unfold rtS
  rw [L_rem, L_B, rtx_here _ (by rw [List.length_map]; exact h), map_get X k h, List.append_assoc]
  rfl
theorem rtS_end {X : List ByteArray} {r : ByteArray} {k : Nat} (h : k < X.length) : rtS X r k X.length = rtS X r k (X.length + 1) := by
  unfold rtS
  have := rtx_end (ls := X.map L) (k := k) (rem (L r)) (by rw [List.length_map]; exact h)
  rw [List.length_map] at this
  rw [this]
theorem rtS_last (X : List ByteArray) (r : ByteArray) : rtS X r X.length X.length ++ ⟨#[35, 32]⟩ ++ r ++ ⟨#[10, 32, 9, 10]⟩ = rtS X r X.length (X.length + 1) := by
  apply L_inj
  unfold rtS
  have := rtx_last (X.map L) (rem (L r))
  rw [List.length_map] at this
  rw [L_rem, L_B, this]
theorem rtS_size {s : ByteArray} (r : ByteArray) (k i : Nat) : (rtS (splitS s) r k i).size ≤ 2 * s.size + r.size + 10 := by
  unfold rtS
  rw [B_size]
  have h1 := rtx_len ((splitS s).map L) (rem (L r)) k i
  rw [byl_tot, List.length_map] at h1
  have h2 : tot ((splitS s).map L) ≤ s.size := by
    have := spl_tot (L s) []
    simp only [List.length_nil, L_len] at this
    unfold splitS
    rw [List.map_map, show (L ∘ B) = id from funext fun l => L_B l, List.map_id]
    omega
  have h3 := list.lines_len s
  have h4 : (rem (L r)).length = r.size + 6 := by
    unfold rem
    rw [List.length_append, List.length_append, L_len]
    simp
    omega
  omega
def utS (X : List ByteArray) (i : Nat) : ByteArray := B (byl ((X.map L).take i))
theorem utS_next {X : List ByteArray} {i : Nat} (h : i < X.length) : utS X i ++ X[i] ++ ⟨#[10]⟩ = utS X (i + 1) := by
  apply L_inj
  unfold utS
  rw [L_app, L_app, L_B, L_B, byl_next _ i (by rw [List.length_map]; exact h), map_get X i h, List.append_assoc]
  rfl
theorem utS_size {s : ByteArray} (i : Nat) : (utS (splitS s) i).size ≤ 2 * s.size := by
  have h := rtS_size (s := s) ⟨#[]⟩ i i
  unfold rtS rtx at h
  rw [if_pos (Nat.le_refl _)] at h
  unfold utS
  rw [B_size] at h ⊢
  have h1 := byl_two ((splitS s).map L) i
  rw [byl_tot ((splitS s).map L), List.length_map] at h1
  have h2 : tot ((splitS s).map L) ≤ s.size := by
    have := spl_tot (L s) []
    simp only [List.length_nil, L_len] at this
    unfold splitS
    rw [List.map_map, show (L ∘ B) = id from funext fun l => L_B l, List.map_id]
    omega
  have h3 := list.lines_len s
  omega
/-- lines of a split have no line feed. -/
theorem spl_nolf : ∀ (l cur : List UInt8), (∀ c ∈ cur, c ≠ 10) → ∀ x ∈ spl cur l, ∀ c ∈ x, c ≠ 10
  | [], cur, h, x, hx, c, hc => by
    by_cases hn : cur = []
    · subst hn; simp [spl_end0] at hx
    · rw [spl_end hn, List.mem_singleton] at hx
      subst hx
      exact h c (trim_mem hc)
  | a :: l, cur, h, x, hx, c, hc => by
    by_cases ha : a = 10
    · subst ha
      rw [spl_lf, List.mem_cons] at hx
      rcases hx with rfl | hx
      · exact h c (trim_mem hc)
      · exact spl_nolf l [] (by simp) x hx c hc
    · rw [spl_no ha] at hx
      refine spl_nolf l (cur ++ [a]) (fun z hz => ?_) x hx c hc
      rw [List.mem_append, List.mem_singleton] at hz
      rcases hz with hz | rfl
      · exact h z hz
      · exact ha
where
  trim_mem {cur : List UInt8} {c : UInt8} (hc : c ∈ trim cur) : c ∈ cur := by
    by_cases h : ∃ m, cur = m ++ [13]
    · obtain ⟨m, rfl⟩ := h
      rw [trim_off] at hc
      simp [hc]
    · rw [trim_keep fun m e => h ⟨m, e⟩] at hc
      exact hc
theorem both_texts {s r : ByteArray} (hm : ∀ c ∈ L r, c ≠ 10) {k : Nat} (hk : k ≤ (splitS s).length) :
    parse ((splitS (rtS (splitS s) r k ((splitS s).length + 1))).map L) = { parse ((splitS (utS (splitS s) (splitS s).length)).map L) with line := shl k (parse ((splitS (utS (splitS s) (splitS s).length)).map L)).line } ∧
    hsh ((splitS (rtS (splitS s) r k ((splitS s).length + 1))).map L) = hsh ((splitS (utS (splitS s) (splitS s).length)).map L) := by
  have e : ∀ l, (splitS (B l)).map L = spl [] l := fun l => by
    unfold splitS
    rw [L_B, List.map_map, show (L ∘ B) = id from funext fun l => L_B l, List.map_id]
  have hn : ∀ l ∈ (splitS s).map L, ∀ c ∈ l, c ≠ 10 := by
    unfold splitS
    rw [List.map_map, show (L ∘ B) = id from funext fun l => L_B l, List.map_id]
    exact spl_nolf (L s) [] (by simp)
  have h := two_texts hn hm (k := k) (by rw [List.length_map]; exact hk)
  rw [List.length_map] at h
  unfold rtS utS
  rw [e, e, List.take_of_length_le (by rw [List.length_map]; exact Nat.le_refl _)]
  exact h
end Go.Proofs.YtpjogjdabhgdoaaDoor.ls

/-
  Hashes that came in, as they are read (for seats that have no NtpLaw). Condition: the row's own.
-/
namespace Go.Proofs.YtpjogjdabhgdoaaDoor.ntp
open Go.ChangeShapes Go.WideShapes Go.ChangeAt Go.RowKit
open sx
open sha (cB cW)
set_option linter.unusedVariables false
set_option maxRecDepth 100000

theorem c5 : Tryd.prog.cellsOf 45 = 5 := by kernel_rfl
/-- a hash that came in. -/
theorem open_hash {H : Type} {enc : TypeId × Value → H} {W : World} {base : Nat} {v : Value} {d : DataW H} {p : List MemPlace} (hv : Value.okWide Tryd.prog W .any base 45 v) (h : DataW.Trod enc Tryd.prog W 0 (fun _ => true) true 45 v d p) :
    ∃ f, v = .agg (cs .u32 f 5) ∧ ∀ k, k < 5 → f k < 4294967296 := by
  obtain ⟨c, rfl, hc⟩ : ∃ c, v = .agg c ∧ c.size = 5 := by
    unfold Value.okWide at hv
    rw [Tryd.underlying45] at hv
    obtain ⟨c, e, hs, _⟩ := hv
    exact ⟨c, e, by rw [hs, c5]⟩
  obtain ⟨fuel, hf⟩ := h
  have hf' : DataW.trod enc Tryd.prog W 0 (fun _ => true) true fuel 45 c.toList = some (d, p) := hf
  obtain ⟨xs, m, _, hx, hl, hn, hel⟩ := DataW.trod_array Tryd.underlying45 hf'
  have each : ∀ i, i < 5 → ∃ n : Nat, c[i]? = some (.int .u32 (n : Nat)) ∧ n < 4294967296 := by
    intro i hi
    have hi' := hel i hi
    rw [List.getElem?_eq_getElem (by omega)] at hi'
    obtain ⟨z, e0, _, hw⟩ := DataW.trod_int Tryd.underlying44 hi'
    rw [cW] at e0
    have hb := bounds_u32 hw
    refine ⟨z.toNat, ?_, by omega⟩
    have e1 : c.toList[i]? = some (.int .u32 z) := by
      have := congrArg (fun l => l[0]?) e0
      simpa [List.getElem?_take, List.getElem?_drop] using this
    rw [← Array.getElem?_toList, e1, show ((z.toNat : Nat) : Int) = z by omega]
  obtain ⟨f, hff⟩ : ∃ f : Nat → Nat, ∀ i, i < 5 → c[i]? = some (.int .u32 (f i : Nat)) ∧ f i < 4294967296 := by
    refine ⟨fun i => if h : i < 5 then (each i h).choose else 0, fun i hi => ?_⟩
    simp only [dif_pos hi]
    exact (each i hi).choose_spec
  refine ⟨f, ?_, fun j hj => (hff j hj).2⟩
  congr 1
  apply Array.ext_getElem?
  intro i
  by_cases hi : i < 5
  · rw [(hff i hi).1, cs_get .u32 f 5 i hi]
  · rw [Array.getElem?_eq_none (by omega), Array.getElem?_eq_none (by rw [cs_size]; omega)]
end Go.Proofs.YtpjogjdabhgdoaaDoor.ntp
