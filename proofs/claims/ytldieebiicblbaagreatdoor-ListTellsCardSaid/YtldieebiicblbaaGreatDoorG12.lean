/-
  Bytes appended to a row of the call's own, and made a text; regions that draw their order, from a place on in the text's order. No condition beside those in the statements.
-/
import Derived.Test.YtldieebiicblbaaGreatDoorG11
import Derived.Laws.AppendOwnNone
import Derived.Laws.BytesArg
import Derived.Laws.IdiomStrings
import Derived.Test.YtldieebiicblbaaGreatDoorG06
import Derived.Test.YtldieebiicblbaaGreatDoorG09
import Derived.Lib.AppendStr
namespace Go.Proofs.YtldieebiicblbaaGreatDoor.sha
open Go.ChangeShapes Go.WideShapes Go.ChangeAt Go.RowKit
open sx
set_option linter.unusedVariables false
set_option maxRecDepth 100000

/-- 'all = append(all, xs...)', all a row of bytes of the call's own. -/
theorem app_any {ops : Array Oper} {rest : List Oper} {o : Oper} {a : Act} {Q : Exit → Act → World → Prop} (hgd : o.guard = none) (s x : Operand)
    (ho : o.op = .call { callee := .builtin .append, args := #[s, x], argTypes := #[62, 62] }) (base : Nat) (W : World) (v xv : Value) (l m : List Nat)
    (hs : a.eval s = v) (hx : a.eval x = xv) (hown : Own base W v l) (hr : RdW W xv m) (hn : l.length + m.length < 8000000000000) (hbase : base ≤ W.heap.size)
    (h : ∀ v' w', Own base w' v' (l ++ m) → W.grownBy w' v.ownBlock → wpList Tryz.prog ops Q rest (a.put o.dst v') w') :
    wpList Tryz.prog ops Q (o :: rest) a W := by
  obtain ⟨A, cap, rfl, hc, hz, hr⟩ := hr
  obtain ⟨i0, hi, hz0, hz1, hz2⟩ := info_parts infoB
  cases A with
  | none =>
    have hm : m = [] := by
      refine Classical.byContradiction fun hne => ?_
      obtain ⟨b, o, e, _⟩ := hr hne
      cases e
    subst hm
    have hcap := hz rfl
    subst hcap
    refine wpList_append_own_none hgd s x 62 ho base 5 i0 1 Tryz.underlying62 hi v l.length (bc l) hs hown hx ?_
    exact h v W (by rw [List.append_nil]; exact hown) (World.grownBy.refl W _)
  | some ad =>
    refine wpList_append_own _ hgd s x 62 ho base 5 i0 _ 1 1 Tryz.underlying62 hi hz0 hz1 hz2 rfl (by decide) v l.length (bc l) hs hown ad m.length cap (bc m) hx (by rw [bc_len]; omega) (fun j u hu => ?_) (bc_one m) ?_ (by omega) hbase ?_
    · have hj : j < m.length := by have := (List.getElem?_eq_some_iff.1 hu).1; rw [bc_len] at this; exact this
      obtain ⟨b, o, e, hcell⟩ := hr (fun e => by rw [e] at hj; simp at hj)
      cases e
      rw [add_at, hcell j hj, ← hu]
      simp [bc, hj]
    · unfold maxLen; omega
    · intro v' w' h1 h2 _
      have e : bc (l ++ m) = bc l ++ bc m := by unfold bc; simp
      refine h v' w' ?_ h2
      unfold Own
      rw [e, List.length_append]
      exact h1
/-- bytes as a text. -/
def strN (l : List Nat) : ByteArray := strOfNums (l.map fun (x : Nat) => (x : Int))
theorem str_of {W : World} {v : Value} {l : List Nat} (h : RdW W v l) : (convert 62 9 v).run Tryz.prog W = .ok (.string (strN l)) W := by
  obtain ⟨A, cap, rfl, hc, hz, hr⟩ := h
  by_cases hl : l = []
  · subst hl
    cases A with
    | none => exact run_convert_bytes_nil W 62 5 Tryz.underlying62 Tryz.underlying5 0 cap 9 Tryz.underlying9
    | some a => exact run_convert_bytes_back W 62 9 5 a cap [] Tryz.underlying62 Tryz.underlying5 Tryz.underlying9 (fun j hj => by simp at hj)
  · obtain ⟨b, o, rfl, hcell⟩ := hr hl
    refine run_convert_bytes_arg W 62 5 Tryz.underlying62 Tryz.underlying5 b o l.length cap (l.map fun (x : Nat) => (x : Int)) (by simp) (fun i hi => ?_) 9 Tryz.underlying9
    rw [hcell i hi]
    simp [List.getD, hi]
theorem flat_le {ls : List (List Nat)} {n : Nat} (h : ∀ l ∈ ls, l.length ≤ n) : (flat ls).length ≤ n * ls.length := by
  unfold flat
  induction ls with
  | nil => simp
  | cons l ls ih =>
    have h1 := h l (List.mem_cons_self ..)
    have h2 := ih (fun x hx => h x (List.mem_cons_of_mem _ hx))
    rw [List.flatten_cons, List.length_append, List.length_cons, Nat.mul_add]
    omega
theorem Pts.below {W W' : World} {v : Value} {ls : List (List Nat)} (h : Pts W v ls) (hb : Below W.heap.size W W') : Pts W' v ls := by
  obtain ⟨A, cap, e, hr⟩ := h
  refine ⟨A, cap, e, fun hl => ?_⟩
  obtain ⟨b, o, hA, hc⟩ := hr hl
  refine ⟨b, o, hA, fun k hk => ?_⟩
  obtain ⟨x, hx, hrd⟩ := hc k hk
  exact ⟨x, (hb.cell (p := ⟨b, o + k, none⟩) (World.block_lt_of_cell? W ⟨b, o + k, none⟩ hx)).trans hx, hrd.below hb⟩

theorem sum_one {w : World} (T : St w) {W : World} (hb : Below w.heap.size w W) {v : Value} {l : List Nat} (hr : RdW W v l) (hl : Bys l) (hn : l.length ≤ 1000000) :
    Calls Tryz.prog 36 #[.slice (some ⟨W.heap.size, 0, none⟩) 1 1] (W.alloc (.cells #[v] 62)) fun e w' => e = .returned (.agg (cs .u8 (dig (sumV l)) 20)) ∧ Below W.heap.size W w' := by
  have e : flat [l] = l := by simp [flat]
  have hb2 : Below W.heap.size W (W.alloc (.cells #[v] 62)) := bal (Below.refl _ _) _
  refine (sum_walk [l] _ _ (T.below (bal hb _)) (pts_one hr) (fun x hx => ?_) (by rw [e]; exact hn) (by simp)).mono fun e' w' ⟨he, hw⟩ => ⟨by rw [he, e], btr hb2 hw⟩
  obtain rfl : x = l := by simpa using hx
  exact hl
/-! regions, from a place on -/
theorem still_from {P : Program} {Q : Exit → Act → World → Prop} {l : List Oper} {listed : Array Bool} {a : Act} {w : World} {g : Nat} (k : Nat) (hg : (l.drop k).length = g) (hs : Region.noSelect l.toArray = true) (hB : Region.lexFrom .any l.toArray g k listed = true)
    (h : wpStill P l.toArray w (fun a' => Q .normal a' w) (l.drop k) a) : wpAny P .any l.toArray Q g listed a w := by
  subst hg
  exact wpAny_of_still (Q := fun a' => Q .normal a' w) (fun _ h => h) _ _ _ (wpAnyS_lex hs (l.drop k) k listed a (fun j => by rw [List.getElem?_drop, List.getElem?_toArray]) hB h)
theorem quiet_from {P : Program} {Q : Exit → Act → World → Prop} {C : World → Prop} {l : List Oper} {listed : Array Bool} {a : Act} {w : World} {g : Nat} (k : Nat) (hg : (l.drop k).length = g) (hs : Region.noSelect l.toArray = true) (hB : Region.lexFrom .any l.toArray g k listed = true) (hw : C w)
    (h : wpQuiet P l.toArray C (fun a' => ∀ w', C w' → Q .normal a' w') (l.drop k) a) : wpAny P .any l.toArray Q g listed a w := by
  subst hg
  exact wpAny_of_quiet (Q := fun a' => ∀ w', C w' → Q .normal a' w') (fun _ w' hw' h => h w' hw') _ _ _ _ hw (wpAnyQ_lex hs (l.drop k) k listed a (fun j => by rw [List.getElem?_drop, List.getElem?_toArray]) hB h)
theorem op_load {P : Program} {ops : Array Oper} {Q : Exit → Act → World → Prop} {i : Nat} {o : Oper} {K : Act → World → Prop} {a : Act} {w : World} (hi : ops[i]? = some o) (hw : Region.wanted o (yielded ops a.tmps) = true) (ty : TypeId) (x : Operand) (ho : o.op = .load ty x) (p : Addr) (hx : a.eval x = .pointer (some p)) (c : Array Value)
    (hl : (loadVar ty p).run P w = .ok (.agg c) w) (h : K (a.put o.dst (.agg c)) w) : wpOp P ops Q i K a w := by
  unfold wpOp
  simp only [hi]
  rw [if_pos hw]
  unfold Oper.wp execOp
  simp only [ho, hx, Instr.loadAt, Instr.sureAddr, Sem.run_bind, Sem.run_pure, Result.andThen_ok, hl]
  exact Or.inl h
theorem op_any {P : Program} {ops : Array Oper} {Q : Exit → Act → World → Prop} {i : Nat} {o : Oper} {K : Act → World → Prop} {a : Act} {w : World} (hi : ops[i]? = some o) (hw : Region.wanted o (yielded ops a.tmps) = true) (h : ∀ K' : Act → World → Prop, (∀ a w, K a w → K' a w) → o.wp P a w K' Q) : wpOp P ops Q i K a w := by
  unfold wpOp
  simp only [hi]
  rw [if_pos hw]
  exact Or.inl (h K fun _ _ h => h)
end Go.Proofs.YtldieebiicblbaaGreatDoor.sha

/-
  What the library's FormatUint answers at base 16: the digits of a number below 2^32, with no noughts ahead. Condition: the library's table deBruijn64tab holds 4 at its place 15.
-/
namespace Go.Proofs.YtldieebiicblbaaGreatDoor.ntp
open Go.ChangeShapes Go.WideShapes Go.ChangeAt Go.RowKit
open lx nx sx
open sha (hd hp_new hp_old row_cell row_set szc kept bal btr add_at szb)
set_option linter.unusedVariables false
set_option maxRecDepth 100000

/-- the library's table of places. -/
def Tz (w : World) : Prop := w.cell? ⟨6, 15, none⟩ = some (.int .u8 4)
theorem Tz.below {w W : World} (h : Tz w) (hb : Below w.heap.size w W) : Tz W := (hb.cell (World.block_lt_of_cell? w _ h)).trans h
theorem tz64 (w : World) (T : Tz w) : Calls Tryz.prog 135 #[.int .u64 16] w fun e w' => e = .returned (.int .i64 4) ∧ w = w' := by
  unfold Tz at T
  have h1 : IntKind.u64.wrap (-16) = 18446744073709551600 := by decide
  have h2 : bits .and .u64 16 18446744073709551600 = 16 := by decide +kernel
  have h3 : IntKind.u64.wrap (16 * 285870213051353865) = 4573923408821661840 := by decide +kernel
  go_enter Tryz.func135, Tryz.ntmps135
  go_wp2
  go_ret
  exact ⟨rfl, rfl⟩
theorem tz (w : World) (T : Tz w) : Calls Tryz.prog 126 #[.int .u64 16] w fun e w' => e = .returned (.int .i64 4) ∧ w = w' := by
  have C := Lib.hid (tz64 w T)
  go_enter Tryz.func126, Tryz.ntmps126
  go_wp2_with (go_at_call 135; (with_reducible refine C.out.mono ?_); rintro e w' ⟨rfl, rfl⟩)
  go_ret
  exact ⟨rfl, rfl⟩
theorem pow2 (w : World) : Calls Tryz.prog 125 #[.int .i64 16] w fun e w' => e = .returned (.bool true) ∧ w = w' := by
  go_enter Tryz.func125, Tryz.ntmps125
  go_wp2
  go_ret
  exact ⟨rfl, rfl⟩

/-! formatBits -/
def z65 : Array Value := cs .u8 (fun _ => 0) 65
theorem zv65 : ∀ w, (zeroValue 153).run Tryz.prog w = .ok (.agg z65) w :=
  (zero_of_info (P := Tryz.prog) (t := 153) (v := .agg z65) (n := 65) (by kernel_rfl)).1
/-- the bytes of the array when so many digits are laid. -/
def fb (n j p : Nat) : Nat := if p < 65 - j then 0 else (hd (n / 16 ^ (64 - p) % 16)).toNat
theorem fb_zero (n : Nat) : cs .u8 (fb n 0) 65 = z65 := cs_congr _ _ _ _ fun p hp => if_pos (by omega)
theorem fb_set (n j : Nat) (hj : j < 65) (v : Value) (hv : v = .int .u8 ((hd (n / 16 ^ j % 16)).toNat : Nat)) : (cs .u8 (fb n j) 65).setIfInBounds (64 - j) v = cs .u8 (fb n (j + 1)) 65 := by
  refine cs_set _ _ _ _ _ _ ?_ (fun p hp hne => ?_)
  · rw [hv]
    unfold fb
    rw [if_neg (by omega), show 64 - (64 - j) = j by omega]
  · unfold fb
    by_cases h : p < 65 - j
    · rw [if_pos h, if_pos (by omega)]
    · rw [if_neg h, if_neg (by omega)]
/-- what is read of it from a place on. -/
theorem fb_text (n : Nat) : ∀ k i (c : UInt8), k ≤ 65 → (hk k n)[i]? = some c → fb n k (65 - k + i) = c.toNat := by
  intro k i c hk65 h
  have hl := hk_len k n
  have hi : i < k := by have := (List.getElem?_eq_some_iff.1 h).1; omega
  rw [hk_get k n i hi] at h
  cases h
  unfold fb
  rw [if_neg (by omega), show 64 - (65 - k + i) = k - 1 - i by omega]
theorem sl65 (B i : Nat) (z : Int) (hz0 : z = (i : Nat)) (h : i < 65) (W : World) : (Instr.sliceAt 153 (.pointer (some ⟨B, 0, none⟩)) (some (.int .i64 z)) none none).run Tryz.prog W = .ok (.slice (some ⟨B, i, none⟩) (65 - i) (65 - i)) W := by
  subst hz0
  have hz : ∀ w, (sizeOf 5).run Tryz.prog w = .ok 1 w := fun w => by
    cases hq : Tryz.prog.info? 5 with
    | none => have := szb; simp [hq] at this
    | some i => have := szb; simp [hq] at this; simp [sizeOf, typeInfo, hq, this]
  have h1 : ¬ 65 = i := by omega
  have h2 : i ≤ 65 := by omega
  simp [Instr.sliceAt, run_underlying Tryz.underlying153, Instr.sureAddr, Instr.sliceBounds, Instr.sliceBound, asIntOf, hz, h1, h2, add_at]
theorem digs36 (p : Nat) (hp : p < 16) (h : p < (⟨#[48, 49, 50, 51, 52, 53, 54, 55, 56, 57, 97, 98, 99, 100, 101, 102, 103, 104, 105, 106, 107, 108, 109, 110, 111, 112, 113, 114, 115, 116, 117, 118, 119, 120, 121, 122]⟩ : ByteArray).size) : ((⟨#[48, 49, 50, 51, 52, 53, 54, 55, 56, 57, 97, 98, 99, 100, 101, 102, 103, 104, 105, 106, 107, 108, 109, 110, 111, 112, 113, 114, 115, 116, 117, 118, 119, 120, 121, 122]⟩ : ByteArray)[p]'h).toNat = (hd p).toNat := by
  rcases sixteen hp with rfl | rfl | rfl | rfl | rfl | rfl | rfl | rfl | rfl | rfl | rfl | rfl | rfl | rfl | rfl | rfl <;> rfl
theorem pow_pos16 (j : Nat) : 0 < 16 ^ j := Nat.pow_pos (by decide)
theorem more {n j : Nat} (hn : n < 4294967296) (h : 16 ≤ n / 16 ^ j) : j + 1 < nd n ∧ n / 16 ^ j / 16 = n / 16 ^ (j + 1) := by
  refine ⟨?_, by rw [Nat.div_div_eq_div_mul, Nat.pow_succ]⟩
  have h1 : 16 ^ (j + 1) ≤ n := by
    rw [Nat.pow_succ, Nat.mul_comm]
    exact (Nat.le_div_iff_mul_le (pow_pos16 j)).1 h
  exact (Nat.pow_lt_pow_iff_right (by decide : 1 < 16)).1 (Nat.lt_of_le_of_lt h1 (nd_lt hn))
theorem last {n j : Nat} (hj : j < nd n) (h : ¬ 16 ≤ n / 16 ^ j) : j + 1 = nd n := by
  rcases Nat.lt_or_ge (j + 1) (nd n) with k | k
  · exfalso
    apply h
    rw [Nat.le_div_iff_mul_le (pow_pos16 j), Nat.mul_comm, ← Nat.pow_succ]
    exact Nat.le_trans (Nat.pow_le_pow_right (by decide) (by omega)) (nd_ge (by omega))
  · omega
def FHead (n : Nat) (w : World) (u i : Value) (W : World) : Prop :=
  ∃ j q : Nat, j + q = 65 ∧ j < nd n ∧ u = .int .u64 ((n / 16 ^ j : Nat) : Int) ∧ i = .int .i64 (q : Nat) ∧ W = w.alloc (.cells (cs .u8 (fb n j) 65) 153)
/-- the text of the digits that are laid. -/
theorem text_of (W : World) (n k q : Nat) (h : k + q = 65) (hk1 : 1 ≤ k) : (convert 62 9 (.slice (some ⟨W.heap.size, q, none⟩) (65 - q) (65 - q))).run Tryz.prog (W.alloc (.cells (cs .u8 (fb n k) 65) 153)) = .ok (.string (B (hk k n))) (W.alloc (.cells (cs .u8 (fb n k) 65) 153)) := by
  have hl := hk_len k n
  have r : sha.RdW (W.alloc (.cells (cs .u8 (fb n k) 65) 153)) (.slice (some ⟨W.heap.size, q, none⟩) (65 - q) (65 - q)) ((hk k n).map (·.toNat)) := by
    refine ⟨_, _, by rw [List.length_map, hl, show 65 - q = k by omega], by rw [List.length_map]; omega, (fun e => by cases e), fun _ => ⟨W.heap.size, q, rfl, fun i hi => ?_⟩⟩
    rw [List.length_map] at hi
    rw [row_cell (hp_new W _) (q + i) _ (cs_get .u8 (fb n k) 65 (q + i) (by omega))]
    have := fb_text n k i ((hk k n)[i]) (by omega) (List.getElem?_eq_getElem hi)
    rw [show 65 - k + i = q + i by omega] at this
    rw [this, List.getElem_map]
  rw [sha.str_of r]
  congr 2
  unfold sha.strN strOfNums B
  congr 1
  rw [List.map_map, List.map_map]
  congr 1
  conv => rhs; rw [← List.map_id (hk k n)]
  apply List.map_congr_left
  intro c _
  simp
set_option maxHeartbeats 2000000 in
theorem bits_any (n : Nat) (w : World) (hn : n < 4294967296) (T : Tz w) : Calls Tryz.prog 106 #[.slice none 0 0, .int .u64 (n : Nat), .int .i64 16, .bool false, .bool false] w fun e w' => e = .returned (.tuple #[.slice none 0 0, .string (B (hk (nd n) n))]) ∧ Below w.heap.size w w' := by
  have Z := zv65
  have TZ := Lib.hid (fun W hb => tz W (T.below hb))
  have P2 := Lib.hid pow2
  go_enter Tryz.func106, Tryz.ntmps106
  go_wp2_with (first
    | (go_at_call 125; (with_reducible refine (P2.out _).mono ?_); rintro e w' ⟨rfl, rfl⟩)
    | (go_at_call 126; (with_reducible refine (TZ.out _ (bal (Below.refl _ _) _)).mono ?_); rintro e w' ⟨rfl, rfl⟩))
  go_loopw [1, 13] (fun u i W => FHead n w u i W) (fun u _ _ => (intOf u).toNat)
  case atStart => exact ⟨0, 65, rfl, by have := (nd_bd n).1; omega, by simp, rfl, by rw [fb_zero]⟩
  case round =>
    obtain ⟨j, q, hq, hj, rfl, rfl, rfl⟩ := hrel
    have hj8 := (nd_bd n).2
    have hu : n / 16 ^ j < 4294967296 := Nat.lt_of_le_of_lt (Nat.div_le_self _ _) hn
    have c1 := cs_get .u8 (fb n j) 65 (q - 1) (by omega)
    have hdg := digs36 (n / 16 ^ j % 16) (Nat.mod_lt _ (by decide))
    have ST := Lib.hid (fb_set n j (by omega) _ rfl)
    rw [show 64 - j = q - 1 by omega] at ST
    by_cases hlt : 16 ≤ n / 16 ^ j
    · have ha : bits .and .u64 ((n / 16 ^ j : Nat) : Int) 15 = ((n / 16 ^ j % 16 : Nat) : Int) := by
        rw [show (15 : Int) = ((15 : Nat) : Int) from rfl, u64_and_nat _ _ (by omega) (by omega), show (15 : Nat) = 2 ^ 4 - 1 from rfl, Nat.and_two_pow_sub_one_eq_mod]
      obtain ⟨r1, r2⟩ := more hn hlt
      have R : Hid (FHead n w (.int .u64 ((n / 16 ^ j : Nat) / 16 : Int)) (.int .i64 ((q : Int) - 1)) (w.alloc (.cells (cs .u8 (fb n (j + 1)) 65) 153))) :=
        ⟨j + 1, q - 1, by omega, r1, by rw [← r2, Int.natCast_ediv]; rfl, by congr 1 <;> omega, rfl⟩
      clear r1 r2
      generalize (n / 16 ^ j) = u at *
      go_wp2
      rw [ST.out]
      go_wp2
      go_roundw
      case rel => exact R.out
      case measure => simp [intOf]; omega
    · have e1 := last hj hlt
      rw [Nat.mod_eq_of_lt (by omega)] at hdg ST
      have hsl := fun W => sl65 w.heap.size (q - 1) ((q : Int) - 1) (by omega) (by omega) W
      have hcv := text_of w n (j + 1) (q - 1) (by omega) (by omega)
      rw [e1] at hcv ST
      have HB : Hid (Below w.heap.size w (w.alloc (.cells (cs .u8 (fb n (nd n)) 65) 153))) := bal (Below.refl _ _) _
      clear e1
      generalize (n / 16 ^ j) = u at *
      go_wp2
      rw [ST.out]
      go_wp2
      rw [hcv]
      simp only [Result.andThen]
      rw [Oper.upon_value]
      go_wp2
      go_ret2
      exact ⟨rfl, HB.out⟩
theorem format_in (n : Nat) (w : World) (hn : n < 4294967296) (T : Tz w) : Calls Tryz.prog 83 #[.int .u64 (n : Nat), .int .i64 16] w fun e w' => e = .returned (.string (B (hk (nd n) n))) ∧ Below w.heap.size w w' := by
  have C := Lib.hid (bits_any n w hn T)
  go_enter Tryz.func83, Tryz.ntmps83
  go_wp2_with (go_at_call 106; (with_reducible refine C.out.mono ?_); rintro e w1 ⟨rfl, hb⟩)
  go_ret
  exact ⟨rfl, hb⟩
theorem format_any (n : Nat) (w : World) (hn : n < 4294967296) (T : Tz w) : Calls Tryz.prog 55 #[.int .u64 (n : Nat), .int .i64 16] w fun e w' => e = .returned (.string (B (hk (nd n) n))) ∧ Below w.heap.size w w' := by
  have C := Lib.hid (format_in n w hn T)
  go_enter Tryz.func55, Tryz.ntmps55
  go_wp2_with (go_at_call 83; (with_reducible refine C.out.mono ?_); rintro e w1 ⟨rfl, hb⟩)
  go_ret
  exact ⟨rfl, hb⟩
end Go.Proofs.YtldieebiicblbaaGreatDoor.ntp

/-
  What the library's (*strings.Builder).WriteString leaves of a builder that the call has made, and what ntp's Text answers: the text of five numbers below 2^32. Condition: the library's table deBruijn64tab holds 4 at its place 15.
-/
namespace Go.Proofs.YtldieebiicblbaaGreatDoor.ntp
open Go.ChangeShapes Go.WideShapes Go.ChangeAt Go.RowKit
open lx nx sx
open sha (hd hp_new hp_old row_cell row_set szc sz5 kept bal btr Bld BldAt Own own_below check_any opened wrote put_at write_any nats nats_app nats_len bc bc_len bc_nats infoB)
set_option linter.unusedVariables false
set_option maxRecDepth 100000

theorem bc_app (l m : List Nat) : bc (l ++ m) = bc l ++ bc m := by unfold bc; simp
theorem str_bc (s : ByteArray) : Lib.strCells s = bc (nats (L s)) := by
  rw [bc_nats]
  rfl
/-- 'append(buf, s...)', buf a row of bytes of the call's own. -/
theorem app_str {ops : Array Oper} {rest : List Oper} {o : Oper} {a : Act} {Q : Exit → Act → World → Prop} (hgd : o.guard = none) (sl x : Operand)
    (ho : o.op = .call { callee := .builtin .append, args := #[sl, x], argTypes := #[62, 9] }) (base : Nat) (W : World) (v : Value) (l : List Nat) (s : ByteArray)
    (hs : a.eval sl = v) (hx : a.eval x = .string s) (hown : Own base W v l) (hn : l.length + s.size < 8000000000000) (hbase : base ≤ W.heap.size)
    (h : ∀ A cap w', Own base w' (.slice A (l ++ nats (L s)).length cap) (l ++ nats (L s)) → W.grownBy w' v.ownBlock → wpList Tryz.prog ops Q rest (a.put o.dst (.slice A (l ++ nats (L s)).length cap)) w') :
    wpList Tryz.prog ops Q (o :: rest) a W := by
  obtain ⟨i0, hi, hz0, hz1, hz2⟩ := info_parts infoB
  refine Lib.wpList_append_own_string _ hgd sl x 62 9 ho base 5 i0 Tryz.underlying62 Tryz.underlying9 hi hz0 hz1 hz2 v l.length (bc l) hs hown s hx (by unfold maxLen; omega) (by omega) hbase ?_
  intro v' w' h1 h2 _
  have h1' : Own base w' v' (l ++ nats (L s)) := by
    unfold Own
    rw [bc_app, List.length_append, nats_len, L_len, ← str_bc]
    exact h1
  obtain ⟨A, cap, rfl⟩ : ∃ A cap, v' = .slice A (l ++ nats (L s)).length cap := by
    rcases h1'.2 with ⟨k, z⟩ | ⟨g, cap, cur, k, _⟩
    · exact ⟨none, 0, by rw [z]; exact k⟩
    · exact ⟨_, cap, k⟩
  exact h A cap w' h1' h2
set_option maxHeartbeats 1000000 in
theorem string_any (B b : Nat) (l : List Nat) (s : ByteArray) (w : World) (h : Bld B b l w) (hl : l.length < 1000000) (hs : s.size < 1000000) (hB : B ≤ w.heap.size) :
    Calls Tryz.prog 51 #[.pointer (some ⟨b, 0, none⟩), .string s] w fun e w' => e = .returned (.tuple #[.int .i64 (s.size : Nat), .nilIface]) ∧ BldAt B b (l ++ nats (L s)) w' ∧ Below B w w' := by
  have C := Lib.hid (check_any B b l w h)
  clear h
  go_enter Tryz.func51, Tryz.ntmps51
  go_wp2_with (first
    | (go_at_call 81; (with_reducible refine C.out.mono ?_); rintro e w1 ⟨rfl, h1, hb1⟩; obtain ⟨hBb, v, c0, c1, HO, HK, HN⟩ := opened h1; have hs1 := hb1.size)
    | (at_builtin; refine app_str rfl _ _ rfl B w1 v l s rfl rfl HO.out (by omega) (by omega) ?_; intro A2 cap2 w2 ho2 hg2; obtain ⟨K2, d0, d1, f1⟩ := wrote HK.out HN.out hg2))
  go_ret2
  exact ⟨rfl, put_at hBb K2.out (by simpa using ho2), (own_below HO.out hb1 (by omega) hg2).setCell (p := ⟨b, 1, none⟩) hBb _⟩
theorem zeros_any (c : Nat) (w : World) (hc : c ≤ 8) : Calls Tryz.prog 56 #[.string ⟨#[48]⟩, .int .i64 (c : Nat)] w fun e w' => e = .returned (.string (B (List.replicate c 48))) ∧ Below w.heap.size w w' := by
  refine (Tryz.strings_Repeat ⟨#[48]⟩ c w (by omega) (by show 1 * c ≤ _; omega)).mono ?_
  rintro e w' ⟨rfl, hb⟩
  refine ⟨?_, hb⟩
  have e : ∀ c, Lib.repeatL [48] c = List.replicate c 48 := by
    intro c
    induction c with
    | zero => rfl
    | succ c ih => rw [Lib.repeatL, ih, List.replicate_succ]; rfl
  show Ending.returned (.string ⟨(Lib.repeatL [48] c).toArray⟩) = _
  rw [e]
  rfl
def THead (f : Nat → Nat) (w : World) (t : Value) (W : World) : Prop :=
  ∃ k : Nat, k ≤ 5 ∧ t = .int .i64 (k : Nat) ∧ Bld (w.heap.size + 1) (w.heap.size + 1) (nats (txL f k)) W ∧ Below (w.heap.size + 1) (w.alloc (.cells (cs .u32 f 5) 43)) W
theorem own_keep {base n : Nat} {e : TypeId} {v : Value} {xs : List Value} {W W' : World} (h : W.ownsRow base e 1 v n xs) (hb : Below W.heap.size W W') : W'.ownsRow base e 1 v n xs := by
  refine ⟨h.1, ?_⟩
  rcases h.2 with h | ⟨g, cap, c, hv, hb0, hh, r⟩
  · exact .inl h
  · exact .inr ⟨g, cap, c, hv, hb0, kept hh hb, r⟩
theorem at_below {T e : TypeId} {B b : Nat} {p : Value} {l : List Value} {W W' : World} (h : Lib.BuilderAt T e B b p l W) (hb : Below W.heap.size W W') : Lib.BuilderAt T e B b p l W' := by
  obtain ⟨hB, v, hbk, hown, hne⟩ := h
  exact ⟨hB, v, kept hbk hb, own_keep hown hb, hne⟩
theorem bld_below {B b : Nat} {l : List Nat} {W W' : World} (h : Bld B b l W) (hb : Below W.heap.size W W') : Bld B b l W' := by
  rcases h with h | h
  · exact Or.inl (at_below h hb)
  · exact Or.inr (at_below h hb)
theorem txL_more (f : Nat → Nat) (k : Nat) (hf : f k < 4294967296) : nats (txL f k) ++ (if k = 0 then [] else [32]) ++ nats (L (B (List.replicate (8 - nd (f k)) 48))) ++ nats (L (B (hk (nd (f k)) (f k)))) = nats (txL f (k + 1)) := by
  rw [txL, ← hk_eight hf, L_B, L_B, nats_app, nats_app, nats_app]
  simp only [List.append_assoc]
  congr 1
  split <;> rfl
theorem strB_small (l : List UInt8) (h : l.length ≤ 8) : (B l).size < 1000000 := by rw [B_size]; omega
/-- a builder that the call has made, above its argument. -/
def BS (f : Nat → Nat) (w : World) (l : List Nat) (W : World) : Prop := Bld (w.heap.size + 1) (w.heap.size + 1) l W ∧ Below (w.heap.size + 1) (w.alloc (.cells (cs .u32 f 5) 43)) W ∧ w.heap.size + 1 ≤ W.heap.size
theorem bs_call {f : Nat → Nat} {w W W' : World} {l : List Nat} (h : BS f w l W) (hb : Below W.heap.size W W') : BS f w l W' :=
  ⟨bld_below h.1 hb, h.2.1.trans (hb.mono h.2.2), Nat.le_trans h.2.2 hb.size⟩
theorem bs_byte {f : Nat → Nat} {w : World} (W : World) (l : List Nat) (c : Nat) (h : BS f w l W) (hl : l.length < 1000000) :
    Calls Tryz.prog 52 #[.pointer (some ⟨w.heap.size + 1, 0, none⟩), .int .u8 (c : Nat)] W fun e w' => e = .returned .nilIface ∧ BS f w (l ++ [c]) w' :=
  (write_any _ _ l c W h.1 hl h.2.2).mono fun e w' ⟨he, h1, hb⟩ => ⟨he, Or.inr h1, h.2.1.trans hb, Nat.le_trans h.2.2 hb.size⟩
theorem bs_string {f : Nat → Nat} {w : World} (W : World) (l : List Nat) (s : ByteArray) (h : BS f w l W) (hl : l.length < 1000000) (hs : s.size < 1000000) :
    Calls Tryz.prog 51 #[.pointer (some ⟨w.heap.size + 1, 0, none⟩), .string s] W fun e w' => e = .returned (.tuple #[.int .i64 (s.size : Nat), .nilIface]) ∧ BS f w (l ++ nats (L s)) w' :=
  (string_any _ _ l s W h.1 hl hs h.2.2).mono fun e w' ⟨he, h1, hb⟩ => ⟨he, Or.inr h1, h.2.1.trans hb, Nat.le_trans h.2.2 hb.size⟩
theorem zeros_at8 (z : Int) (m : Nat) (hm : m ≤ 8) (hz : z = 8 - (m : Int)) (w : World) : Calls Tryz.prog 56 #[.string ⟨#[48]⟩, .int .i64 z] w fun e w' => e = .returned (.string (B (List.replicate (8 - m) 48))) ∧ Below w.heap.size w w' := by
  obtain rfl : z = ((8 - m : Nat) : Int) := by omega
  exact zeros_any _ w (by omega)
theorem index5 (f : Nat → Nat) (k : Nat) (hk : k < 5) (W : World) : (Instr.index 43 (.agg (cs .u32 f 5)) (.int .i64 (k : Nat))).run Tryz.prog W = .ok (.int .u32 (f k : Nat)) W := by
  rcases (show k = 0 ∨ k = 1 ∨ k = 2 ∨ k = 3 ∨ k = 4 by omega) with rfl | rfl | rfl | rfl | rfl <;> kernel_rfl
set_option maxHeartbeats 4000000 in
theorem text_any (f : Nat → Nat) (w : World) (hf : ∀ k, k < 5 → f k < 4294967296) (T : Tz w) : Calls Tryz.prog 28 #[.agg (cs .u32 f 5)] w fun e w' => e = .returned (.string (txt f)) ∧ Below w.heap.size w w' := by
  have HT : Hid (∀ W, Below (w.heap.size + 1) (w.alloc (.cells (cs .u32 f 5) 43)) W → Tz W) := fun W hb => T.below (btr (bal (Below.refl _ _) _) (by simpa using hb))
  go_enter Tryz.func28, Tryz.ntmps28
  go_wp2_with (refine wpList_load_row rfl 43 (.tmp 1) rfl w.heap.size rfl _ _ _ _ (hp_old (hp_new w _) _) Tryz.underlying43 rfl (szc sz5 _ _) ?_)
  go_loopw [8] (fun t W => THead f w t W) (fun t _ => 5 - (intOf t).toNat)
  case atStart =>
    refine ⟨0, by omega, rfl, ?_, ?_⟩
    · have := Lib.fresh_isBuilder 64 5 (w.alloc (.cells (cs .u32 f 5) 43))
      rw [show (w.alloc (.cells (cs .u32 f 5) 43)).heap.size = w.heap.size + 1 by simp] at this
      exact this
    · exact (Below.refl _ _).alloc (by simp) _
  case round =>
    obtain ⟨k, hk5, rfl, hB, hb⟩ := hrel
    have hbs := hb.size
    have hbs2 : w.heap.size + 1 ≤ wr.heap.size := by simpa using hbs
    by_cases hlt : k < 5
    · have hn := hf k hlt
      have c1 := fun W => index5 f k hlt W
      have b0 : BS f w (nats (txL f k)) wr := ⟨hB, hb, hbs2⟩
      have hl := txL_len f k
      have hl0 : (nats (txL f k)).length < 100 := by rw [nats_len]; omega
      have bd := nd_bd (f k)
      have E := Lib.hid (txL_more f k hn)
      obtain ⟨S, hS⟩ : ∃ S, S = B (hk (nd (f k)) (f k)) := ⟨_, rfl⟩
      have hSz : S.size = nd (f k) := by rw [hS, B_size, hk_len]
      obtain ⟨Z, hZ⟩ : ∃ Z, Z = B (List.replicate (8 - nd (f k)) 48) := ⟨_, rfl⟩
      have hZz : Z.size < 9 := by rw [hZ, B_size, List.length_replicate]; omega
      have F := Lib.hid (fun W (h : BS f w (nats (txL f k)) W ∨ BS f w (nats (txL f k) ++ [32]) W) => format_any (f k) W hn (HT.out W (by rcases h with h | h <;> exact h.2.1)))
      have RP := Lib.hid (fun W => zeros_at8 (8 - (S.size : Int)) (nd (f k)) bd.2 (by rw [hSz]) W)
      rw [← hS, ← hZ] at E
      simp only [← hS] at F
      simp only [← hZ] at RP
      have WS := Lib.hid (fun W l s h hl hs => bs_string (f := f) (w := w) W l s h hl hs)
      have bd2 : S.size ≤ 8 := by omega
      have lS : (nats (L S)).length = S.size := nats_len _
      have lZ : (nats (L Z)).length = Z.size := nats_len _
      by_cases h0 : k = 0
      · subst h0
        have c1 : ∀ W, (Instr.index 43 (.agg (cs .u32 f 5)) (.int .i64 0)).run Tryz.prog W = .ok (.int .u32 (f 0 : Nat)) W := c1
        simp only [if_true, List.append_nil] at E
        clear hS hZ bd hSz hB hb
        generalize txL f 0 = T0 at *
        go_wp2_with (first
          | (go_at_call 55; (with_reducible refine (F.out _ (Or.inl b0)).mono ?_); rintro e w1 ⟨rfl, h1⟩; have b1 := bs_call b0 h1)
          | (go_at_call 56; (with_reducible refine (RP.out _).mono ?_); rintro e w2 ⟨rfl, h2⟩; have b2 := bs_call b1 h2)
          | (go_at_call 51; (with_reducible refine (WS.out _ _ _ b2 (by omega) (by omega)).mono ?_); rintro e w3 ⟨rfl, b3⟩; clear b2)
          | (go_at_call 51; (with_reducible refine (WS.out _ _ _ b3 (by rw [List.length_append]; omega) (by omega)).mono ?_); rintro e w4 ⟨rfl, b4⟩))
        rw [E.out] at b4
        go_roundw
        case rel => exact ⟨1, by omega, rfl, b4.1, b4.2.1⟩
        case measure => simp [intOf]
      · have WB : Hid (Calls Tryz.prog 52 #[.pointer (some ⟨w.heap.size + 1, 0, none⟩), .int .u8 32] wr fun e w' => e = .returned .nilIface ∧ BS f w (nats (txL f k) ++ [32]) w') := bs_byte wr _ 32 b0 (by omega)
        rw [if_neg h0] at E
        clear hS hZ bd hSz hB hb
        go_wp2_with (first
          | (go_at_call 52; (with_reducible refine WB.out.mono ?_); rintro e w0 ⟨rfl, b5⟩)
          | (go_at_call 55; (with_reducible refine (F.out _ (Or.inr b5)).mono ?_); rintro e w1 ⟨rfl, h1⟩; have b1 := bs_call b5 h1)
          | (go_at_call 56; (with_reducible refine (RP.out _).mono ?_); rintro e w2 ⟨rfl, h2⟩; have b2 := bs_call b1 h2)
          | (go_at_call 51; (with_reducible refine (WS.out _ _ _ b2 (by rw [List.length_append, List.length_singleton]; omega) (by omega)).mono ?_); rintro e w3 ⟨rfl, b3⟩; clear b2)
          | (go_at_call 51; (with_reducible refine (WS.out _ _ _ b3 (by rw [List.length_append, List.length_append, List.length_singleton]; omega) (by omega)).mono ?_); rintro e w4 ⟨rfl, b4⟩))
        rw [E.out] at b4
        go_roundw
        case rel => exact ⟨k + 1, by omega, by go_num, b4.1, b4.2.1⟩
        case measure => simp [intOf]; omega
    · obtain rfl : k = 5 := by omega
      have ST := Lib.hid (Tryz.Builder_String_any (w.heap.size + 1) (w.heap.size + 1) (txL f 5) wr (by have := hB; unfold Bld at this; rw [bc_nats] at this; exact this) hbs2)
      go_wp2_with (go_at_call 29; (with_reducible refine ST.out.mono ?_); rintro e w1 ⟨rfl, hb1⟩)
      go_ret
      refine ⟨rfl, ?_⟩
      exact ((Below.refl _ _).alloc (Nat.le_refl _) _).trans ((hb.trans hb1).mono (by omega))
end Go.Proofs.YtldieebiicblbaaGreatDoor.ntp
