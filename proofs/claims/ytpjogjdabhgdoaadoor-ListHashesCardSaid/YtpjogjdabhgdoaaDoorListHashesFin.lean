/-
  ListHashes: a list with its hash is read as without, and with another one not at all, for every text of at most 2000 bytes without a hash, and every hash. Condition: the row's own (the listed tables hold what their initialisers lay; the card ties that).
-/
import Derived.Test.YtpjogjdabhgdoaaDoorG26
import Derived.Test.YtpjogjdabhgdoaaDoorCards
import Derived.Test.YtpjogjdabhgdoaaDoorTie
import Derived.SevenTiedAt
namespace Go.Proofs.YtpjogjdabhgdoaaDoor.listHashes
open Go.ChangeShapes Go.WideShapes Go.ChangeAt Go.RowKit
open list leap lm mem lx
open sx (cs)
open ls (kd hl hash_line)
set_option linter.unusedVariables false
set_option maxRecDepth 100000

/-- at the head of a round: no line so far begins with '#h'. -/
def LHead (X : List ByteArray) (A : Option Addr) (W0 : World) (i : Value) (W : World) : Prop :=
  ∃ k : Nat, k ≤ X.length ∧ i = .int .i64 (k : Nat) ∧ Below W0.heap.size W0 W ∧ ∀ j (h : j < X.length), j < k → (L X[j]).take 2 ≠ [35, 104]
theorem no_hash {X : List ByteArray} (h : ∀ j (hj : j < X.length), (L X[j]).take 2 ≠ [35, 104]) : ∀ l ∈ X.map L, kd l ≠ 3 := by
  intro l hl e
  obtain ⟨x, hx, rfl⟩ := List.mem_map.1 hl
  obtain ⟨j, hj, rfl⟩ := List.getElem_of_mem hx
  refine h j hj ?_
  unfold kd at e
  split at e
  · omega
  split at e
  · omega
  split at e
  · omega
  split at e
  · assumption
  split at e <;> omega
/-- a text that is empty or ends with a line feed. -/
theorem ends {s : ByteArray} (h : 0 < s.size → bt s (s.size - 1) = 10) : L s = [] ∨ ∃ s', L s = s' ++ [10] := by
  by_cases h0 : s.size = 0
  · exact .inl ((L_nil s).2 h0)
  · right
    have hne : L s ≠ [] := fun e => h0 ((L_nil s).1 e)
    refine ⟨(L s).dropLast, ?_⟩
    have hb := h (by omega)
    have hl : (L s).getLast hne = 10 := by
      unfold bt at hb
      rw [List.getLast_eq_getElem]
      rw [List.getD_eq_getElem?_getD, List.getElem?_eq_getElem (by rw [L_len]; omega)] at hb
      apply UInt8.toNat_inj.1
      have hb2 : ((L s)[s.size - 1]'(by rw [L_len]; omega)).toNat = 10 := by simpa using hb
      exact hb2
    rw [← hl]
    exact (List.dropLast_concat_getLast hne).symm
/-- the lines of a text with a hash behind it. -/
theorem more_lines {s : ByteArray} (h : 0 < s.size → bt s (s.size - 1) = 10) (f : Nat → Nat) : (splitS (s ++ ⟨#[35, 104, 32]⟩ ++ nx.txt f ++ ⟨#[10]⟩)).map L = (splitS s).map L ++ [hl 32 f] := by
  have e : L (s ++ ⟨#[35, 104, 32]⟩ ++ nx.txt f ++ ⟨#[10]⟩) = L s ++ (hl 32 f ++ [10]) := by
    rw [L_app, L_app, L_app]
    unfold hl
    show L s ++ [35, 104, 32] ++ L (nx.txt f) ++ [10] = _
    simp
  unfold splitS
  rw [e, List.map_map, List.map_map, show (L ∘ B) = id from funext fun l => L_B l, List.map_id, List.map_id]
  exact ls.spl_more (ends h) (ls.fin1_hash (by decide) f)
theorem ix_last (s : ByteArray) (h : 0 < s.size) : ∀ W, (Instr.index 9 (.string s) (.int .i64 ((s.size : Int) - 1))).run Tryd.prog W = .ok (.int .u8 (bt s (s.size - 1) : Nat)) W := fun W => by
  have e : (s.size : Int) - 1 = ((s.size - 1 : Nat) : Int) := by omega
  rw [e, run_index_string (P := Tryd.prog) W 9 s .i64 _ Tryd.underlying9]
  rw [dif_pos (by omega)]
  congr 2
  have := bt_at s (s.size - 1) (by omega)
  rw [← this]
  rfl
theorem five_cells {W : World} {N : Nat} {f : Nat → Nat} (h : W.heap[N]? = some (.cells #[.int .u32 (f 0 : Nat), .int .u32 (f 1 : Nat), .int .u32 (f 2 : Nat), .int .u32 (f 3 : Nat), .int .u32 (f 4 : Nat)] 45)) : W.cell? ⟨N, 0, none⟩ = some (.int .u32 (f 0 : Nat)) ∧ W.cell? ⟨N, 1, none⟩ = some (.int .u32 (f 1 : Nat)) ∧ W.cell? ⟨N, 2, none⟩ = some (.int .u32 (f 2 : Nat)) ∧ W.cell? ⟨N, 3, none⟩ = some (.int .u32 (f 3 : Nat)) ∧ W.cell? ⟨N, 4, none⟩ = some (.int .u32 (f 4 : Nat)) := ⟨row_cell h 0, row_cell h 1, row_cell h 2, row_cell h 3, row_cell h 4⟩
theorem bx_at3 {W : World} {x0 x1 x2 x3 : Nat × Obj} {l : List (Nat × Obj)} (h : Bx W (x0 :: x1 :: x2 :: x3 :: l)) : W.heap[x3.1]? = some x3.2 := h 3 _ rfl
theorem bx_at5 {W : World} {x0 x1 x2 x3 x4 x5 : Nat × Obj} {l : List (Nat × Obj)} (h : Bx W (x0 :: x1 :: x2 :: x3 :: x4 :: x5 :: l)) : W.heap[x5.1]? = some x5.2 := h 5 _ rfl
theorem bx_at7 {W : World} {x0 x1 x2 x3 x4 x5 x6 x7 : Nat × Obj} {l : List (Nat × Obj)} (h : Bx W (x0 :: x1 :: x2 :: x3 :: x4 :: x5 :: x6 :: x7 :: l)) : W.heap[x7.1]? = some x7.2 := h 7 _ rfl
theorem box_cells {W : World} {x0 x1 x2 x3 x4 : Nat × Obj} {N : Nat} {f : Nat → Nat} (h : Bx W [x0, x1, x2, x3, x4, (N, .cells #[.int .u32 (f 0 : Nat), .int .u32 (f 1 : Nat), .int .u32 (f 2 : Nat), .int .u32 (f 3 : Nat), .int .u32 (f 4 : Nat)] 45)]) : W.cell? ⟨N, 0, none⟩ = some (.int .u32 (f 0 : Nat)) ∧ W.cell? ⟨N, 1, none⟩ = some (.int .u32 (f 1 : Nat)) ∧ W.cell? ⟨N, 2, none⟩ = some (.int .u32 (f 2 : Nat)) ∧ W.cell? ⟨N, 3, none⟩ = some (.int .u32 (f 3 : Nat)) ∧ W.cell? ⟨N, 4, none⟩ = some (.int .u32 (f 4 : Nat)) := five_cells (bx_at5 h)
theorem eqS (a b : Int) (W : World) : (Op.equalIn 10000 31 (.agg #[.int .i64 a, .int .i64 b]) (.agg #[.int .i64 a, .int .i64 b])).run Tryd.prog W = .ok true W := by
  have := eqF a b a b W
  simpa using this
theorem eq5h (f O : Nat → Nat) (W : World) : (Op.equalIn 10000 45 (.agg #[.int .u32 (f 0 : Nat), .int .u32 (f 1 : Nat), .int .u32 (f 2 : Nat), .int .u32 (f 3 : Nat), .int .u32 (f 4 : Nat)]) (.agg #[.int .u32 (O 0 : Nat), .int .u32 (O 1 : Nat), .int .u32 (O 2 : Nat), .int .u32 (O 3 : Nat), .int .u32 (O 4 : Nat)])).run Tryd.prog W = .ok (ls.h5 f O) W := by
  have h := sha.eq5 f O W
  have e : sha.same f O 5 = ls.h5 f O := by rw [Bool.eq_iff_iff, sha.same_iff, ls.h5_iff]
  rw [e] at h
  exact h
/-- what the three readings are, together. -/
theorem four {n : Nat} {o1 o2 o3 : ls.Out} {b : Bool} (L1 : (o1.code ≠ 0 ∧ o1.line ≤ n ∧ o2 = o1) ∨ (o1 = ls.bad (n + 1) 2 ∧ o2 = ls.bad (n + 2) 2) ∨ (o1.code = 0 ∧ o1.line = 0 ∧ o2 = o1))
    (L2 : (o1.code ≠ 0 ∧ o1.line ≤ n ∧ o3 = o1) ∨ (o1 = ls.bad (n + 1) 2 ∧ o3 = ls.bad (n + 2) 2) ∨ (o1.code = 0 ∧ o1.line = 0 ∧ o3 = if b = true then o1 else ls.bad (n + 1) 3)) :
    (o1.code ≠ 0 ∧ o1.line ≤ n ∧ o2 = o1 ∧ o3 = o1) ∨ (o1 = ls.bad (n + 1) 2 ∧ o2 = ls.bad (n + 2) 2 ∧ o3 = ls.bad (n + 2) 2) ∨ (o1.code = 0 ∧ o1.line = 0 ∧ o2 = o1 ∧ b = true ∧ o3 = o1) ∨ (o1.code = 0 ∧ o1.line = 0 ∧ o2 = o1 ∧ b = false ∧ o3 = ls.bad (n + 1) 3) := by
  have hb : o1 = ls.bad (n + 1) 2 → o1.code = 2 ∧ o1.line = n + 1 := by rintro rfl; exact ⟨rfl, rfl⟩
  rcases L1 with ⟨a1, a2, a3⟩ | ⟨a1, a2⟩ | ⟨a1, a2, a3⟩ <;> rcases L2 with ⟨c1, c2, c3⟩ | ⟨c1, c2⟩ | ⟨c1, c2, c3⟩
  · exact .inl ⟨a1, a2, a3, c3⟩
  · have := hb c1; omega
  · omega
  · have := hb a1; omega
  · exact .inr (.inl ⟨a1, a2, c2⟩)
  · have := hb a1; omega
  · omega
  · have := hb c1; omega
  · cases b with
    | true => exact .inr (.inr (.inl ⟨a1, a2, a3, rfl, by simpa using c3⟩))
    | false => exact .inr (.inr (.inr ⟨a1, a2, a3, rfl, by simpa using c3⟩))
set_option maxHeartbeats 16000000 in
theorem walk (w : World) (s : ByteArray) (hs : s.size ≤ maxLen) (f : Nat → Nat) (hf : ∀ k, k < 5 → f k < 4294967296) (T : list.All w) :
    Calls Tryd.prog 6 #[.string s, .agg (cs .u32 f 5)] w fun e w' => e = .returned (.bool true) ∧ Below w.heap.size w w' := by
  have hw0 : Below w.heap.size w (w.alloc (.cells (cs .u32 f 5) 45)) := bal (Below.refl _ _) _
  have T0 := T.below hw0
  have c0 : cs .u32 f 5 = #[.int .u32 (f 0 : Nat), .int .u32 (f 1 : Nat), .int .u32 (f 2 : Nat), .int .u32 (f 3 : Nat), .int .u32 (f 4 : Nat)] := rfl
  rw [c0] at hw0 T0 ⊢
  clear c0
  have box : (w.alloc (.cells #[.int .u32 (f 0 : Nat), .int .u32 (f 1 : Nat), .int .u32 (f 2 : Nat), .int .u32 (f 3 : Nat), .int .u32 (f 4 : Nat)] 45)).heap[w.heap.size]? = some (.cells #[.int .u32 (f 0 : Nat), .int .u32 (f 1 : Nat), .int .u32 (f 2 : Nat), .int .u32 (f 3 : Nat), .int .u32 (f 4 : Nat)] 45) := hp_new w _
  go_enter Tryd.func6, Tryd.ntmps6
  go_wp2_with fail
  generalize w.alloc (.cells #[.int .u32 (f 0 : Nat), .int .u32 (f 1 : Nat), .int .u32 (f 2 : Nat), .int .u32 (f 3 : Nat), .int .u32 (f 4 : Nat)] 45) = W0 at *
  have HW := Lib.hid hw0
  generalize hN : w.heap.size = N at *
  have hA : Below W0.heap.size W0 W0 := Below.refl _ _
  have SM : Hid (∀ W, Below W0.heap.size W0 W → Calls Tryd.prog 7 #[] W fun e w' => e = .returned (.bool true) ∧ Below W.heap.size W w') := fun W hb => small_at W (T0.below hb)
  have EX : Hid (∀ W, Below W0.heap.size W0 W → Below w.heap.size w W) := fun W hb => by rw [hN]; exact HW.out.trans (hb.mono (by have := HW.out.size; rw [hN] at this; exact this))
  clear hw0 T
  by_cases g1 : 2000 < s.size
  · have t1 : decide ((s.size : Int) > 2000) = true := by simp; omega
    have t2 : decide (2000 < (s.size : Int)) = true := by simp; omega
    clear T0 hs
    go_wp2_with (go_at_call 7; with_reducible refine (SM.out _ hA).mono ?_; rintro e w1 ⟨rfl, hb1⟩; have hA := btr hA hb1)
    go_ret
    exact ⟨rfl, EX.out _ hA⟩
  · have t1 : decide (2000 < (s.size : Int)) = false := by simp; omega
    by_cases g2 : 0 < s.size ∧ bt s (s.size - 1) ≠ 10
    · obtain ⟨z1, z2⟩ := g2
      have t3 : decide (0 < (s.size : Int)) = true := by simp; omega
      have hix := ix_last s z1
      have t4 : (((bt s (s.size - 1) : Nat) : Int) != 10) = true := by simp; omega
      clear T0 hs
      go_wp2_with (go_at_call 7; with_reducible refine (SM.out _ hA).mono ?_; rintro e w1 ⟨rfl, hb1⟩; have hA := btr hA hb1)
      go_ret
      exact ⟨rfl, EX.out _ hA⟩
    · have he : 0 < s.size → bt s (s.size - 1) = 10 := fun h => Classical.not_not.1 fun k => g2 ⟨h, k⟩
      have hll := lines_len s
      have SP : Hid (∀ W, Below W0.heap.size W0 W → Calls Tryd.prog 13 #[.string s] W (lines.Told W (splitS s))) := fun W hb => lines.split_at s W (T0.below hb).ml (by omega)
      unfold lines.Told at SP
      have MS : ∀ f, (splitS (s ++ ⟨#[35, 104, 32]⟩ ++ nx.txt f ++ ⟨#[10]⟩)).map L = (splitS s).map L ++ [hl 32 f] := more_lines he
      have Q1 : Hid (∀ W, Below W0.heap.size W0 W → Calls Tryd.prog 10 #[.string s] W (PTold (ls.parse ((splitS s).map L)) W)) := fun W hb => by
        have T' := T0.below hb
        exact parse_at s W T'.tabs T'.ml T'.st (by omega)
      have Q2 : Hid (∀ f, ∀ W, Below W0.heap.size W0 W → Calls Tryd.prog 10 #[.string (s ++ ⟨#[35, 104, 32]⟩ ++ nx.txt f ++ ⟨#[10]⟩)] W (PTold (ls.parse ((splitS s).map L ++ [hl 32 f])) W)) := fun f W hb => by
        have T' := T0.below hb
        rw [← MS f]
        refine parse_at _ W T'.tabs T'.ml T'.st ?_
        have e3 : (⟨#[35, 104, 32]⟩ : ByteArray).size = 3 := rfl
        have e1 : (⟨#[10]⟩ : ByteArray).size = 1 := rfl
        rw [ByteArray.size_append, ByteArray.size_append, ByteArray.size_append, nx.txt_size, e3, e1]
        omega
      have HH : Hid (∀ W, Below W0.heap.size W0 W → Calls Tryd.prog 14 #[.string s] W fun e w' => e = .returned (.agg (cs .u8 (sx.dig (sx.sumV (sha.nats (ls.hsh ((splitS s).map L))))) 20)) ∧ Below W.heap.size W w') := fun W hb => by
        have T' := T0.below hb
        exact hash_at s W T'.ml T'.st (by omega)
      have WD : Hid (∀ W, Calls Tryd.prog 15 #[.agg (cs .u8 (sx.dig (sx.sumV (sha.nats (ls.hsh ((splitS s).map L))))) 20)] W fun e w' => e = .returned (.agg #[.int .u32 (ls.hq ((splitS s).map L) 0 : Nat), .int .u32 (ls.hq ((splitS s).map L) 1 : Nat), .int .u32 (ls.hq ((splitS s).map L) 2 : Nat), .int .u32 (ls.hq ((splitS s).map L) 3 : Nat), .int .u32 (ls.hq ((splitS s).map L) 4 : Nat)]) ∧ Below W.heap.size W w') := fun W => sha.words_any (sx.dig (sx.sumV (sha.nats (ls.hsh ((splitS s).map L))))) W (fun j _ => sx.dig_lt _ j)
      have TX : Hid (∀ f : Nat → Nat, (∀ k, k < 5 → f k < 4294967296) → ∀ W, Below W0.heap.size W0 W → Calls Tryd.prog 16 #[.agg #[.int .u32 (f 0 : Nat), .int .u32 (f 1 : Nat), .int .u32 (f 2 : Nat), .int .u32 (f 3 : Nat), .int .u32 (f 4 : Nat)]] W fun e w' => e = .returned (.string (nx.txt f)) ∧ Below W.heap.size W w') := fun f hf W hb => ntp.text_any f W hf (T0.below hb).tz
      have HQ := ls.hq_lt ((splitS s).map L)
      have LSZ := Lib.hid (fun (x : ByteArray) (hx : x ∈ splitS s) => line_size hx)
      generalize splitS s = X at *
      have hnat : X.length ≤ 2000 := by omega
      by_cases z1 : 0 < s.size
      have t3 : decide (0 < (s.size : Int)) = true := by simp; omega
      have hix := ix_last s z1
      rw [he z1] at hix
      rotate_left
      have t3 : decide (0 < (s.size : Int)) = false := decide_eq_false (by omega)
      rotate_left
      all_goals
        go_wp2_with (first
          | (go_at_call 7; with_reducible refine (SM.out _ hA).mono ?_; rintro e w1 ⟨rfl, hb1⟩; have hA := btr hA hb1)
          | (go_at_call 13; with_reducible refine (SP.out _ hA).mono ?_; rintro e W1 ⟨A, c, rfl, hS, ⟨hc, hfr⟩, hb1⟩; have hA := btr hA hb1))
        go_loopw [7] (fun i W => LHead X A W1 i W) (fun i _ => X.length - (intOf i).toNat)
        case atStart => exact ⟨0, Nat.zero_le _, rfl, Below.refl _ _, fun j h g => by omega⟩
        case round =>
          obtain ⟨k, hk, rfl, hb, hno⟩ := hrel
          by_cases hlt : k < X.length
          · obtain ⟨g, o, rfl, hgl, hcell⟩ := hS (by intro e; rw [e] at hlt; simp at hlt)
            have cx := (hb.cell (p := ⟨g, o + k, none⟩) hgl).trans (hcell k hlt)
            obtain ⟨x, hx⟩ : ∃ x, X[k]'hlt = x := ⟨_, rfl⟩
            rw [hx] at cx
            have d1 : decide ((k : Int) < (X.length : Int)) = true := by simp; omega
            have d2 : decide (k < X.length) = true := by simp; omega
            have xs := LSZ.out x (by rw [← hx]; exact List.getElem_mem hlt)
            have ST : Hid ((L x).take 2 ≠ [35, 104] → ∀ W, Below W1.heap.size W1 W → LHead X (some ⟨g, o, none⟩) W1 (.int .i64 ((k : Int) + 1)) W) := fun h W hb' => ⟨k + 1, hlt, rfl, hb', fun j hj hjk => by
              rcases Nat.eq_or_lt_of_le (Nat.le_of_lt_succ hjk) with rfl | q
              · rw [hx]; exact h
              · exact hno j hj q⟩
            by_cases hx2 : 2 ≤ x.size
            · have u1 : decide ((x.size : Int) ≥ 2) = true := decide_eq_true (by omega)
              have u2 : decide (2 ≤ (x.size : Int)) = true := decide_eq_true (by omega)
              have hsl : ∀ W, (Instr.slice 9 (.string x) none (some (.int .i64 2)) none).run Tryd.prog W = .ok (.string (B ((L x).take 2))) W := fun W => by
                rw [← mark_is x 2 (by omega)]
                exact to_run W x 2 2 rfl hx2
              have e1 : ((B ((L x).take 2)).toList == [35, 104]) = decide ((L x).take 2 = [35, 104]) := by rw [tl_is, L_B]
              by_cases hh : (L x).take 2 = [35, 104]
              · rw [decide_eq_true hh] at e1
                clear ST hno hcell hS MS hh LSZ
                generalize B ((L x).take 2) = M at *
                go_wp2
                go_ret
                exact ⟨rfl, EX.out _ (btr hA hb)⟩
              · have R := Lib.hid (ST.out hh wr hb)
                rw [decide_eq_false hh] at e1
                clear ST hno hcell MS hh LSZ
                generalize B ((L x).take 2) = M at *
                go_wp2
                go_roundw
                case rel => exact R.out
                case measure => simp [intOf]; omega
            · have u1 : decide ((x.size : Int) ≥ 2) = false := decide_eq_false (by omega)
              have u2 : decide (2 ≤ (x.size : Int)) = false := decide_eq_false (by omega)
              have R := Lib.hid (ST.out (fun h => by have := congrArg List.length h; rw [List.length_take, L_len] at this; simp at this; omega) wr hb)
              clear ST hno hcell MS LSZ
              go_wp2
              go_roundw
              case rel => exact R.out
              case measure => simp [intOf]; omega
          · obtain rfl : k = X.length := by omega
            have d1 : decide ((X.length : Int) < (X.length : Int)) = false := decide_eq_false (by omega)
            have d2 : decide (X.length < X.length) = false := decide_eq_false (by omega)
            have L1 := hash_line (no_hash (fun j hj => hno j hj hj)) (ls.hq (X.map L)) (fun k _ => HQ k)
            have L2 := hash_line (no_hash (fun j hj => hno j hj hj)) f hf
            rw [List.length_map] at L1 L2
            rw [ls.h5_iff.2 (fun _ _ => rfl), if_pos rfl] at L1
            have hB := btr hA hb
            have BXh : Bx wr [(N, .cells #[.int .u32 (f 0 : Nat), .int .u32 (f 1 : Nat), .int .u32 (f 2 : Nat), .int .u32 (f 3 : Nat), .int .u32 (f 4 : Nat)] 45)] := fun j p hp => by
              cases j with
              | zero => cases hp; exact kept box hB
              | succ j => simp at hp
            have T1 := Lib.hid (TX.out _ (fun k _ => HQ k))
            have T2 := Lib.hid (TX.out f hf)
            have R2 := Lib.hid (Q2.out (ls.hq (X.map L)))
            have R3 := Lib.hid (Q2.out f)
            have n1 : (nx.txt (ls.hq (X.map L))).size = 44 := nx.txt_size _
            have n2 : (nx.txt f).size = 44 := nx.txt_size _
            clear TX Q2 SP MS LSZ hno hS hfr HQ T0
            generalize sx.dig (sx.sumV (sha.nats (ls.hsh (X.map L)))) = DG at *
            generalize ls.hq (X.map L) = O at *
            generalize hl 32 O = y1 at *
            generalize hl 32 f = y2 at *
            generalize X.map L = Y at *
            have LN1 := ls.parse_len Y
            generalize ls.parse Y = o1 at *
            generalize ls.parse (Y ++ [y1]) = o2 at *
            generalize ls.parse (Y ++ [y2]) = o3 at *
            generalize nx.txt O = tO at *
            generalize nx.txt f = tf at *
            have FO := four L1 L2
            clear L1 L2
            unfold PTold tcs fcs at Q1 R2 R3
            have EF := fun (a b : Int) W => eqS a b W
            have s1 : True := trivial
            rcases FO with ⟨v1, v2, e2, e3⟩ | ⟨rfl, rfl, rfl⟩ | ⟨v1, v2, e2, v3, e3⟩ | ⟨v1, v2, e2, v3, e3⟩
            · rw [e2] at R2
              rw [e3] at R3
              clear e2 e3
              obtain ⟨ln, cd, lv, has, x⟩ := o1
              simp only at v1 v2 Q1 R2 R3 LN1
              have u1 : (cd != 0) = true := by simp; omega
              have u2 : decide ((ln : Int) > (X.length : Int)) = false := decide_eq_false (by omega)
              have u3 : decide ((X.length : Int) < (ln : Int)) = false := decide_eq_false (by omega)
              have u4 : decide (X.length < ln) = false := decide_eq_false (by omega)
              go_wp2_with (first
                | (go_at_call 10; first
                  | (with_reducible refine (Q1.out _ hB).mono ?_; rintro e w2 ⟨A1, c1, rfl, hl1, hc1, hb2⟩; have X2 := Lib.hid (fun a b => bx_two (bx_below BXh hb2) a b); have B2 := Lib.hid (fun a b => bal (bal (btr hB hb2) a) b); have K2 := Lib.hid (fun a b => hl1.below (b2 w2 a b)); clear hB hl1)
                  | (with_reducible refine (R2.out _ B5.out).mono ?_; rintro e w6 ⟨A2, c2, rfl, hl2, hc2, hb6⟩; have X6 := Lib.hid (fun a b => bx_two (bx_below X5.out hb6) a b); have B6 := Lib.hid (fun a b => bal (bal (btr B5.out hb6) a) b); have K6 := Lib.hid (fun a b => (K5.out.below hb6).below (b2 w6 a b)); have J6 := Lib.hid (fun a b => hl2.below (b2 w6 a b)); clear hl2; have z0 := fun a b => (box_cells (X6.out a b)).1; have z1 := fun a b => (box_cells (X6.out a b)).2.1; have z2 := fun a b => (box_cells (X6.out a b)).2.2.1; have z3 := fun a b => (box_cells (X6.out a b)).2.2.2.1; have z4 := fun a b => (box_cells (X6.out a b)).2.2.2.2)
                  | (with_reducible refine (R3.out _ B7.out).mono ?_; rintro e w8 ⟨A3, c3, rfl, hl3, hc3, hb8⟩; have X8 := Lib.hid (fun a b => bx_two (bx_below X7.out hb8) a b); have B8 := Lib.hid (fun a b => bal (bal (btr B7.out hb8) a) b); have K8 := Lib.hid (fun a b => (K7.out.below hb8).below (b2 w8 a b)); have J8 := Lib.hid (fun a b => (J7.out.below hb8).below (b2 w8 a b)); have I8 := Lib.hid (fun a b => hl3.below (b2 w8 a b)); clear hl3; have p0 := fun a b => (flt_cells (bx_at5 (X8.out a b))).1; have p1 := fun a b => (flt_cells (bx_at5 (X8.out a b))).2; have q0 := fun a b => (flt_cells (bx_at2 (X8.out a b))).1; have q1 := fun a b => (flt_cells (bx_at2 (X8.out a b))).2))
                | (go_at_call 14; with_reducible refine (HH.out _ (B2.out _ _)).mono ?_; rintro e w3 ⟨rfl, hb3⟩; have X3 := Lib.hid (bx_below (X2.out _ _) hb3); have B3 := Lib.hid (btr (B2.out _ _) hb3); have K3 := Lib.hid ((K2.out _ _).below hb3))
                | (go_at_call 15; with_reducible refine (WD.out _).mono ?_; rintro e w4 ⟨rfl, hb4⟩; have X4 := Lib.hid (fun a => bx_one (bx_below X3.out hb4) a); have B4 := Lib.hid (fun a => bal (btr B3.out hb4) a); have K4 := Lib.hid (fun a => (K3.out.below hb4).below (bal (Below.refl _ _) a)))
                | (go_at_call 16; first
                  | (with_reducible refine (T1.out _ (B4.out _)).mono ?_; rintro e w5 ⟨rfl, hb5⟩; have X5 := Lib.hid (bx_below (X4.out _) hb5); have B5 := Lib.hid (btr (B4.out _) hb5); have K5 := Lib.hid ((K4.out _).below hb5))
                  | (with_reducible refine (T2.out _ (B6.out _ _)).mono ?_; rintro e w7 ⟨rfl, hb7⟩; have X7 := Lib.hid (bx_below (X6.out _ _) hb7); have B7 := Lib.hid (btr (B6.out _ _) hb7); have K7 := Lib.hid ((K6.out _ _).below hb7); have J7 := Lib.hid ((J6.out _ _).below hb7); clear z0 z1 z2 z3 z4)))
              go_ret
              exact ⟨rfl, EX.out _ (B8.out _ _)⟩
            · unfold ls.bad at Q1 R2 R3
              simp only at Q1 R2 R3
              rw [show ((X.length + 2 : Nat) : Int) = (X.length : Int) + 2 from rfl] at R2 R3
              rw [show ((X.length + 1 : Nat) : Int) = (X.length : Int) + 1 from rfl] at Q1
              have u2 : decide ((X.length : Int) + 1 > (X.length : Int)) = true := decide_eq_true (by omega)
              have u3 : decide ((X.length : Int) < (X.length : Int) + 1) = true := decide_eq_true (by omega)
              go_wp2_with (first
                | (go_at_call 10; first
                  | (with_reducible refine (Q1.out _ hB).mono ?_; rintro e w2 ⟨A1, c1, rfl, hl1, hc1, hb2⟩; have X2 := Lib.hid (fun a b => bx_two (bx_below BXh hb2) a b); have B2 := Lib.hid (fun a b => bal (bal (btr hB hb2) a) b); have K2 := Lib.hid (fun a b => hl1.below (b2 w2 a b)); clear hB hl1)
                  | (with_reducible refine (R2.out _ B5.out).mono ?_; rintro e w6 ⟨A2, c2, rfl, hl2, hc2, hb6⟩; have X6 := Lib.hid (fun a b => bx_two (bx_below X5.out hb6) a b); have B6 := Lib.hid (fun a b => bal (bal (btr B5.out hb6) a) b); have K6 := Lib.hid (fun a b => (K5.out.below hb6).below (b2 w6 a b)); have J6 := Lib.hid (fun a b => hl2.below (b2 w6 a b)); clear hl2; have z0 := fun a b => (box_cells (X6.out a b)).1; have z1 := fun a b => (box_cells (X6.out a b)).2.1; have z2 := fun a b => (box_cells (X6.out a b)).2.2.1; have z3 := fun a b => (box_cells (X6.out a b)).2.2.2.1; have z4 := fun a b => (box_cells (X6.out a b)).2.2.2.2)
                  | (with_reducible refine (R3.out _ B7.out).mono ?_; rintro e w8 ⟨A3, c3, rfl, hl3, hc3, hb8⟩; have X8 := Lib.hid (fun a b => bx_two (bx_below X7.out hb8) a b); have B8 := Lib.hid (fun a b => bal (bal (btr B7.out hb8) a) b); have K8 := Lib.hid (fun a b => (K7.out.below hb8).below (b2 w8 a b)); have J8 := Lib.hid (fun a b => (J7.out.below hb8).below (b2 w8 a b)); have I8 := Lib.hid (fun a b => hl3.below (b2 w8 a b)); clear hl3; have p0 := fun a b => (flt_cells (bx_at5 (X8.out a b))).1; have p1 := fun a b => (flt_cells (bx_at5 (X8.out a b))).2; have q0 := fun a b => (flt_cells (bx_at2 (X8.out a b))).1; have q1 := fun a b => (flt_cells (bx_at2 (X8.out a b))).2))
                | (go_at_call 14; with_reducible refine (HH.out _ (B2.out _ _)).mono ?_; rintro e w3 ⟨rfl, hb3⟩; have X3 := Lib.hid (bx_below (X2.out _ _) hb3); have B3 := Lib.hid (btr (B2.out _ _) hb3); have K3 := Lib.hid ((K2.out _ _).below hb3))
                | (go_at_call 15; with_reducible refine (WD.out _).mono ?_; rintro e w4 ⟨rfl, hb4⟩; have X4 := Lib.hid (fun a => bx_one (bx_below X3.out hb4) a); have B4 := Lib.hid (fun a => bal (btr B3.out hb4) a); have K4 := Lib.hid (fun a => (K3.out.below hb4).below (bal (Below.refl _ _) a)))
                | (go_at_call 16; first
                  | (with_reducible refine (T1.out _ (B4.out _)).mono ?_; rintro e w5 ⟨rfl, hb5⟩; have X5 := Lib.hid (bx_below (X4.out _) hb5); have B5 := Lib.hid (btr (B4.out _) hb5); have K5 := Lib.hid ((K4.out _).below hb5))
                  | (with_reducible refine (T2.out _ (B6.out _ _)).mono ?_; rintro e w7 ⟨rfl, hb7⟩; have X7 := Lib.hid (bx_below (X6.out _ _) hb7); have B7 := Lib.hid (btr (B6.out _ _) hb7); have K7 := Lib.hid ((K6.out _ _).below hb7); have J7 := Lib.hid ((J6.out _ _).below hb7); clear z0 z1 z2 z3 z4)))
              go_ret
              exact ⟨rfl, EX.out _ (B8.out _ _)⟩
            · rw [e2] at R2
              rw [e3] at R3
              clear e2 e3
              obtain ⟨ln, cd, lv, has, x⟩ := o1
              simp only at v1 v2 Q1 R2 R3 LN1
              subst v1 v2
              have SA : Hid (∀ A A' c c' W, Lps W A lv → Lps W A' lv → Calls Tryd.prog 11 #[.agg #[.slice A lv.length c, .bool has, .int .i64 x], .agg #[.slice A' lv.length c', .bool has, .int .i64 x]] W fun e w' => e = .returned (.bool true) ∧ Below W.heap.size W w') := fun A A' c c' W h h' => by
                have := ref09.same_at lv lv A A' c c' has has x x W h h' (by omega) (by omega)
                rw [sm_self] at this
                exact this
              have E5 := fun W => eq5h f O W
              rw [v3] at E5
              go_wp2_with (first
                | (go_at_call 10; first
                  | (with_reducible refine (Q1.out _ hB).mono ?_; rintro e w2 ⟨A1, c1, rfl, hl1, hc1, hb2⟩; have X2 := Lib.hid (fun a b => bx_two (bx_below BXh hb2) a b); have B2 := Lib.hid (fun a b => bal (bal (btr hB hb2) a) b); have K2 := Lib.hid (fun a b => hl1.below (b2 w2 a b)); clear hB hl1)
                  | (with_reducible refine (R2.out _ B5.out).mono ?_; rintro e w6 ⟨A2, c2, rfl, hl2, hc2, hb6⟩; have X6 := Lib.hid (fun a b => bx_two (bx_below X5.out hb6) a b); have B6 := Lib.hid (fun a b => bal (bal (btr B5.out hb6) a) b); have K6 := Lib.hid (fun a b => (K5.out.below hb6).below (b2 w6 a b)); have J6 := Lib.hid (fun a b => hl2.below (b2 w6 a b)); clear hl2; have z0 := fun a b => (box_cells (X6.out a b)).1; have z1 := fun a b => (box_cells (X6.out a b)).2.1; have z2 := fun a b => (box_cells (X6.out a b)).2.2.1; have z3 := fun a b => (box_cells (X6.out a b)).2.2.2.1; have z4 := fun a b => (box_cells (X6.out a b)).2.2.2.2)
                  | (with_reducible refine (R3.out _ B7.out).mono ?_; rintro e w8 ⟨A3, c3, rfl, hl3, hc3, hb8⟩; have X8 := Lib.hid (fun a b => bx_two (bx_below X7.out hb8) a b); have B8 := Lib.hid (fun a b => bal (bal (btr B7.out hb8) a) b); have K8 := Lib.hid (fun a b => (K7.out.below hb8).below (b2 w8 a b)); have J8 := Lib.hid (fun a b => (J7.out.below hb8).below (b2 w8 a b)); have I8 := Lib.hid (fun a b => hl3.below (b2 w8 a b)); clear hl3; have p1 := fun a b => (flt_cells (bx_at5 (X8.out a b))).2; have a0 := fun a b => (tab_cells (bx_at6 (X8.out a b))).1; have a1 := fun a b => (tab_cells (bx_at6 (X8.out a b))).2.1; have a2 := fun a b => (tab_cells (bx_at6 (X8.out a b))).2.2; have b0 := fun a b => (tab_cells (bx_at3 (X8.out a b))).1; have b1 := fun a b => (tab_cells (bx_at3 (X8.out a b))).2.1; have b2' := fun a b => (tab_cells (bx_at3 (X8.out a b))).2.2))
                | (go_at_call 14; with_reducible refine (HH.out _ (B2.out _ _)).mono ?_; rintro e w3 ⟨rfl, hb3⟩; have X3 := Lib.hid (bx_below (X2.out _ _) hb3); have B3 := Lib.hid (btr (B2.out _ _) hb3); have K3 := Lib.hid ((K2.out _ _).below hb3))
                | (go_at_call 15; with_reducible refine (WD.out _).mono ?_; rintro e w4 ⟨rfl, hb4⟩; have X4 := Lib.hid (fun a => bx_one (bx_below X3.out hb4) a); have B4 := Lib.hid (fun a => bal (btr B3.out hb4) a); have K4 := Lib.hid (fun a => (K3.out.below hb4).below (bal (Below.refl _ _) a)))
                | (go_at_call 16; first
                  | (with_reducible refine (T1.out _ (B4.out _)).mono ?_; rintro e w5 ⟨rfl, hb5⟩; have X5 := Lib.hid (bx_below (X4.out _) hb5); have B5 := Lib.hid (btr (B4.out _) hb5); have K5 := Lib.hid ((K4.out _).below hb5))
                  | (with_reducible refine (T2.out _ (B6.out _ _)).mono ?_; rintro e w7 ⟨rfl, hb7⟩; have X7 := Lib.hid (bx_below (X6.out _ _) hb7); have B7 := Lib.hid (btr (B6.out _ _) hb7); have K7 := Lib.hid ((K6.out _ _).below hb7); have J7 := Lib.hid ((J6.out _ _).below hb7); clear z0 z1 z2 z3 z4))
                | (go_at_call 11; first
                  | (have _t := s1; with_reducible refine (SA.out _ _ _ _ _ (K8.out _ _) (J8.out _ _)).mono ?_; rintro e w9 ⟨rfl, hb9⟩; clear s1 p1 a0 a1 a2 b0 b1 b2'; have X9 := Lib.hid (bx_below (X8.out _ _) hb9); have B9 := Lib.hid (btr (B8.out _ _) hb9); have K9 := Lib.hid ((K8.out _ _).below hb9); have I9 := Lib.hid ((I8.out _ _).below hb9); obtain ⟨h0, h1, h2, h3, h4⟩ := five_cells (bx_at7 X9.out); obtain ⟨o0, o1, o2, o3, o4⟩ := five_cells (bx_at4 X9.out); have q1 := (flt_cells (bx_at2 X9.out)).2; obtain ⟨a0, a1, a2⟩ := tab_cells (bx_at6 X9.out); obtain ⟨b0, b1, b2'⟩ := tab_cells (bx_at1 X9.out))
                  | (with_reducible refine (SA.out _ _ _ _ _ K9.out I9.out).mono ?_; rintro e w10 ⟨rfl, hb10⟩; have r1 := (flt_cells (bx_at0 (bx_below X9.out hb10))).2; have B10 := Lib.hid (btr B9.out hb10))))
              go_ret
              exact ⟨rfl, EX.out _ B10.out⟩
            · rw [e2] at R2
              rw [e3] at R3
              clear e2 e3
              obtain ⟨ln, cd, lv, has, x⟩ := o1
              unfold ls.bad at R3
              simp only at v1 v2 Q1 R2 R3 LN1
              rw [show ((X.length + 1 : Nat) : Int) = (X.length : Int) + 1 from rfl] at R3
              subst v1 v2
              have SA : Hid (∀ A A' c c' W, Lps W A lv → Lps W A' lv → Calls Tryd.prog 11 #[.agg #[.slice A lv.length c, .bool has, .int .i64 x], .agg #[.slice A' lv.length c', .bool has, .int .i64 x]] W fun e w' => e = .returned (.bool true) ∧ Below W.heap.size W w') := fun A A' c c' W h h' => by
                have := ref09.same_at lv lv A A' c c' has has x x W h h' (by omega) (by omega)
                rw [sm_self] at this
                exact this
              have E5 := fun W => eq5h f O W
              rw [v3] at E5
              go_wp2_with (first
                | (go_at_call 10; first
                  | (with_reducible refine (Q1.out _ hB).mono ?_; rintro e w2 ⟨A1, c1, rfl, hl1, hc1, hb2⟩; have X2 := Lib.hid (fun a b => bx_two (bx_below BXh hb2) a b); have B2 := Lib.hid (fun a b => bal (bal (btr hB hb2) a) b); have K2 := Lib.hid (fun a b => hl1.below (b2 w2 a b)); clear hB hl1)
                  | (with_reducible refine (R2.out _ B5.out).mono ?_; rintro e w6 ⟨A2, c2, rfl, hl2, hc2, hb6⟩; have X6 := Lib.hid (fun a b => bx_two (bx_below X5.out hb6) a b); have B6 := Lib.hid (fun a b => bal (bal (btr B5.out hb6) a) b); have K6 := Lib.hid (fun a b => (K5.out.below hb6).below (b2 w6 a b)); have J6 := Lib.hid (fun a b => hl2.below (b2 w6 a b)); clear hl2; have z0 := fun a b => (box_cells (X6.out a b)).1; have z1 := fun a b => (box_cells (X6.out a b)).2.1; have z2 := fun a b => (box_cells (X6.out a b)).2.2.1; have z3 := fun a b => (box_cells (X6.out a b)).2.2.2.1; have z4 := fun a b => (box_cells (X6.out a b)).2.2.2.2)
                  | (with_reducible refine (R3.out _ B7.out).mono ?_; rintro e w8 ⟨A3, c3, rfl, hl3, hc3, hb8⟩; have X8 := Lib.hid (fun a b => bx_two (bx_below X7.out hb8) a b); have B8 := Lib.hid (fun a b => bal (bal (btr B7.out hb8) a) b); have K8 := Lib.hid (fun a b => (K7.out.below hb8).below (b2 w8 a b)); have J8 := Lib.hid (fun a b => (J7.out.below hb8).below (b2 w8 a b)); have I8 := Lib.hid (fun a b => hl3.below (b2 w8 a b)); clear hl3; have p1 := fun a b => (flt_cells (bx_at5 (X8.out a b))).2; have a0 := fun a b => (tab_cells (bx_at6 (X8.out a b))).1; have a1 := fun a b => (tab_cells (bx_at6 (X8.out a b))).2.1; have a2 := fun a b => (tab_cells (bx_at6 (X8.out a b))).2.2; have b0 := fun a b => (tab_cells (bx_at3 (X8.out a b))).1; have b1 := fun a b => (tab_cells (bx_at3 (X8.out a b))).2.1; have b2' := fun a b => (tab_cells (bx_at3 (X8.out a b))).2.2))
                | (go_at_call 14; with_reducible refine (HH.out _ (B2.out _ _)).mono ?_; rintro e w3 ⟨rfl, hb3⟩; have X3 := Lib.hid (bx_below (X2.out _ _) hb3); have B3 := Lib.hid (btr (B2.out _ _) hb3); have K3 := Lib.hid ((K2.out _ _).below hb3))
                | (go_at_call 15; with_reducible refine (WD.out _).mono ?_; rintro e w4 ⟨rfl, hb4⟩; have X4 := Lib.hid (fun a => bx_one (bx_below X3.out hb4) a); have B4 := Lib.hid (fun a => bal (btr B3.out hb4) a); have K4 := Lib.hid (fun a => (K3.out.below hb4).below (bal (Below.refl _ _) a)))
                | (go_at_call 16; first
                  | (with_reducible refine (T1.out _ (B4.out _)).mono ?_; rintro e w5 ⟨rfl, hb5⟩; have X5 := Lib.hid (bx_below (X4.out _) hb5); have B5 := Lib.hid (btr (B4.out _) hb5); have K5 := Lib.hid ((K4.out _).below hb5))
                  | (with_reducible refine (T2.out _ (B6.out _ _)).mono ?_; rintro e w7 ⟨rfl, hb7⟩; have X7 := Lib.hid (bx_below (X6.out _ _) hb7); have B7 := Lib.hid (btr (B6.out _ _) hb7); have K7 := Lib.hid ((K6.out _ _).below hb7); have J7 := Lib.hid ((J6.out _ _).below hb7); clear z0 z1 z2 z3 z4))
                | (go_at_call 11; first
                  | (have _t := s1; with_reducible refine (SA.out _ _ _ _ _ (K8.out _ _) (J8.out _ _)).mono ?_; rintro e w9 ⟨rfl, hb9⟩; clear s1 p1 a0 a1 a2 b0 b1 b2'; have X9 := Lib.hid (bx_below (X8.out _ _) hb9); have B9 := Lib.hid (btr (B8.out _ _) hb9); have K9 := Lib.hid ((K8.out _ _).below hb9); have I9 := Lib.hid ((I8.out _ _).below hb9); obtain ⟨h0, h1, h2, h3, h4⟩ := five_cells (bx_at7 X9.out); obtain ⟨o0, o1, o2, o3, o4⟩ := five_cells (bx_at4 X9.out); have q1 := (flt_cells (bx_at2 X9.out)).2; obtain ⟨b0, b1, b2'⟩ := tab_cells (bx_at1 X9.out); obtain ⟨r0, r1⟩ := flt_cells (bx_at0 X9.out))
                  | (with_reducible refine (SA.out _ _ _ _ _ K9.out I9.out).mono ?_; rintro e w10 ⟨rfl, hb10⟩; have r1 := (flt_cells (bx_at0 (bx_below X9.out hb10))).2; have B10 := Lib.hid (btr B9.out hb10))))
              go_ret
              exact ⟨rfl, EX.out _ B9.out⟩
theorem door_met (os : Os) (args : Array Value) : laidMetH Tryd.prog Rows.listHashesRow.laid ((World.doorLaid Tryd.prog 400 os).forCall (fun _ _ => 0) ⟨#[], args, []⟩).memory :=
  laidMetH_of_parts3 (fuel := 8) (laidMet_of_run' 8 (by kernel_rfl) (by kernel_rfl)) (by kernel_rfl) (by kernel_rfl)
set_option maxRecDepth 100000 in
theorem lifted (os : Os) (started : os.Started) (H : Type) (enc : TypeId × Value → H) :
    ReturnsInHanded {} Tryd.checked os 6 .any (fun w args => (Rows.listHashesSpec.pre enc Tryd.prog Tryd.f6 [] false w args ∧ laidMetH Tryd.prog Rows.listHashesRow.laid w) ∧ sizedMet enc Tryd.prog Tryd.f6 (OpenSpec.ofChange Rows.listHashesSpec) false w args)
      (Rows.listHashesSpec.post enc Tryd.prog Tryd.f6 false true false false) := by
  refine list.handed_both (C := Tryd.checked) (X := fun w _ => laidMetH Tryd.prog Rows.listHashesRow.laid w) (fun _ _ _ hh h => h.of_heap hh) law.own started (by kernel_rfl) Tryd.func6
    (ChangeSpec.witness_shaped (enc := enc) (C := Tryd.checked) (os := os) (X := fun w _ => laidMetH Tryd.prog Rows.listHashesRow.laid w) false (World.doorLaid Tryd.prog 400 os) #[.string ByteArray.empty, .agg #[.int .u32 0, .int .u32 0, .int .u32 0, .int .u32 0, .int .u32 0]] 8 rfl (World.shaped_of_RefB (by kernel_rfl) (by kernel_rfl)) (by kernel_rfl) (by kernel_rfl) (by kernel_rfl) (door_met os _)) ?_
  intro W base args ds gs before hval0 hW _ _ hL hsh _
  rw [MakeChecks.laidMetH_plain _ _ _ (by kernel_rfl)] at hL
  have T0 := list.all_of hL (by repeat first | exact List.Mem.head _ | refine List.Mem.tail _ ?_) (by repeat first | exact List.Mem.head _ | refine List.Mem.tail _ ?_) (by repeat first | exact List.Mem.head _ | refine List.Mem.tail _ ?_) (by repeat first | exact List.Mem.head _ | refine List.Mem.tail _ ?_) (by repeat first | exact List.Mem.head _ | refine List.Mem.tail _ ?_) hsh
  have hval : ∀ (j : Nat) t v, Tryd.f6.params[j]? = some t → args[j]? = some v → Value.okWide Tryd.prog W .any base t v := hval0
  have hW' := hW
  obtain ⟨p, q, hA0, hV, rfl, hfz, hnd⟩ := hW
  have hA : DataW.TrodAll enc Tryd.prog W 0 (fun _ => true) true Tryd.f6.params.toList args.toList ds p := hA0
  rw [Tryd.params6] at hA hval
  obtain ⟨v0, vs0, d0, ds0, p0, q0, hargs, rfl, rfl, h0, r0⟩ := trodAll_cons hA
  obtain ⟨v1, vs1, d1, ds1, p1, q1, rfl, rfl, rfl, h1, r1⟩ := trodAll_cons r0
  obtain ⟨rfl, rfl, rfl⟩ := trodAll_nil r1
  obtain rfl : args = #[v0, v1] := by cases args; simp_all
  obtain ⟨rfl, rfl⟩ := trodVars_none hV
  clear hA0 hval0
  obtain ⟨a0, rfl, hd0, hp0, w0⟩ := ChangeMaps.open_string Tryd.underlying9 (hval 0 9 v0 rfl rfl) h0
  refine (Calls.mono (R := fun e w' => e = .returned (.bool true) ∧ Below W.heap.size W w') ?_ fun e W' ⟨he, hb⟩ => ?_)
  · obtain ⟨f1_, rfl, s1_⟩ := ntp.open_hash (hval 1 45 v1 rfl rfl) h1
    exact walk W a0 w0 _ s1_ T0
  · subst he
    exact ⟨_, rfl, law.post law.laidOut (by kernel_rfl) rfl rfl Tryd.underlying4 rfl hW' hb⟩

theorem over : Rows.listHashesRow.holds Tryd.pinned (OpenSpec.ofChange Rows.listHashesSpec) :=
  OpenClaim.holds_of_wide 6 Tryd.f6 rfl rfl rfl rfl rfl rfl rfl ⟨rfl, rfl, rfl, rfl, rfl⟩ rfl rfl rfl rfl rfl (by kernel_rfl) Tryd.func6 (by kernel_rfl)
    (of_decide_eq_true (by kernel_rfl)) (by unfold Func.isWrapper; first | (rw [if_pos (by decide +kernel)]; kernel_rfl) | (rw [if_neg (by decide +kernel)]; exact ⟨rfl, rfl⟩))
    (fun os started H enc _ => lifted os started H enc)

theorem proved : Rows.ListHashesCardSaid :=
  Claim7.holds_tied_plain_at .later [] _ _ _ _ over (fun _ h => by cases h) (by kernel_rfl) (fun _ h => by cases h) listHashes_row_tie rfl ⟨rfl, rfl⟩ (by kernel_rfl) rfl
    (fun f fn hf hfn => by
      obtain rfl : f = 6 := Option.some.inj ((show Tryd.prog.funcNamed "epact/epactlaw10.ListHashes" = some 6 by kernel_rfl).symm.trans hf) |>.symm
      obtain rfl : fn = Tryd.f6 := (Option.some.inj (Tryd.func6.symm.trans hfn)).symm
      exact ⟨by kernel_rfl, fun j t ht => by
        have hall : (Tryd.f6.params.toList.all fun u => !Tryd.prog.wantsStandIn u) = true := by kernel_rfl
        have hm : t ∈ Tryd.f6.params.toList := by rw [Array.mem_toList_iff]; exact Array.mem_of_getElem? ht
        exact (show Tryd.prog.wantsStandIn t = false by simpa using List.all_eq_true.1 hall t hm)⟩)
    (by kernel_rfl)
end Go.Proofs.YtpjogjdabhgdoaaDoor.listHashes
