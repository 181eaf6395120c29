/-
  What the document's own Hash and Text of layer 7 are: the same answers. Conditions: the text has fewer than 2^32 - 15 bytes; the numbers of a hash are below 2^32.
-/
import Derived.Test.YtldieebiicblbaaGreatDoorG26
namespace Go.Proofs.YtldieebiicblbaaGreatDoor.ref07
open Go.ChangeShapes Go.WideShapes Go.ChangeAt Go.RowKit
open lx nx sx ntp
open sha (hd hp_new hp_old row_cell row_set szc sz5 kept bal btr bel_setRow upto upto_set upto_all upto_zero)
set_option linter.unusedVariables false
set_option maxRecDepth 100000

/-! Hash -/
def GHead (s : ByteArray) (A : Option Addr) (w : World) (N : Nat) (t : Value) (W : World) : Prop :=
  ∃ k : Nat, t = .int .i64 k ∧ k ≤ 5 ∧ W.heap[w.heap.size]? = some (.cells z5 43) ∧ W.heap[N]? = some (.cells (cs .u32 (upto (fun k => wN (wat s k)) k) 5) 43) ∧ lines.Strs W A (wordsS s) ∧ (∀ j, j < k → wT (wat s j) = true) ∧ Below w.heap.size w W
theorem ghead_start {s : ByteArray} {A : Option Addr} {w w1 : World} (hb : Below (w.alloc (.cells z5 43)).heap.size (w.alloc (.cells z5 43)) w1) (hs : lines.Strs w1 A (wordsS s)) : GHead s A w w1.heap.size (.int .i64 0) (w1.alloc (.cells z5 43)) := by
  have b1 : Below w.heap.size w w1 := btr (bal (Below.refl _ _) _) hb
  refine ⟨0, rfl, by omega, hp_old (kept (hp_new w _) hb) _, ?_, hs.below (bal (Below.refl _ _) _), (fun j hj => by omega), bal b1 _⟩
  rw [upto_zero, ← z5_cs]
  exact hp_new w1 _
theorem word_here {s x : ByteArray} {k : Nat} {b : Bool} (ex : L x = wat s k) (ht : wT (wat s k) = b) (hs : x.size ≤ 9223372036854775807) (W : World) :
    Calls Tryz.prog 50 #[.string x] W fun e w' => e = .returned (.tuple #[.int .u32 (wN (wat s k) : Nat), .bool b]) ∧ Below W.heap.size W w' :=
  (word_at x W hs).mono fun e w' ⟨he, hw⟩ => ⟨by rw [he, ex, ht], hw⟩
set_option maxHeartbeats 2000000 in
theorem hash_at (s : ByteArray) (w : World) (hs : s.size < 4294967281) : Calls Tryz.prog 23 #[.string s] w (HTold s w) := by
  have C := Lib.hid (fun W => ref05.words_at s W hs)
  have hwl : (wordsS s).length ≤ s.size := by
    unfold wordsS
    rw [List.length_map]
    have := wds_len (L s) []
    have z : (L s).length = s.size := rfl
    simp at this
    omega
  by_cases h5 : (wordsS s).length = 5
  · go_enter Tryz.func23, Tryz.ntmps23
    go_wp2_with (go_at_call 49; (with_reducible refine (C.out _).mono ?_); rintro e w1 ⟨A, c, rfl, hstr, hcap, hb1⟩; rw [h5]; have H0 := Lib.hid (ghead_start (w := w) hb1 hstr); have hN := (btr (bal (Below.refl _ _) _) hb1 : Below w.heap.size w w1).size; have hN2 : w.heap.size < w1.heap.size := by have := hb1.size; simp at this; omega)
    rw [h5] at hcap
    go_loopw [6] (fun t W => GHead s A w w1.heap.size t W) (fun t _ => 5 - (intOf t).toNat)
    case atStart => exact H0.out
    case round =>
      obtain ⟨k, rfl, hk, g0, g1, hst, hok, hb⟩ := hrel
      have hbs := hb.size
      by_cases hlt : k < 5
      · obtain ⟨b, o, x, rfl, hblt, cx, ex, ex2⟩ := wat_of hst k (by omega)
        have xs := wat_size ex2
        cases ht : wT (wat s k) with
        | true =>
          have R : Hid (∀ w2, Below wr.heap.size wr w2 → GHead s (some ⟨b, o, none⟩) w w1.heap.size (.int .i64 ((k : Int) + 1)) (w2.setCell ⟨w1.heap.size, k, none⟩ (.int .u32 (wN (wat s k) : Nat)))) := by
            intro w2 hb2
            have hb3 := btr hb hb2
            refine ⟨k + 1, rfl, by omega, ?_, ?_, strs_set (hst.below hb2) (kept g1 hb2), ?_, hb3.setCell (p := ⟨w1.heap.size, k, none⟩) hN _⟩
            · rw [Below.heap_setCell _ _ _ _ (by show w.heap.size ≠ w1.heap.size; omega)]; exact kept g0 hb2
            · rw [row_set (kept g1 hb2)]
              congr 2
              exact upto_set .u32 (fun k => wN (wat s k)) k 5 _ rfl
            · intro j hj
              rcases Nat.lt_or_ge j k with h | h
              · exact hok j h
              · obtain rfl : j = k := by omega
                exact ht
          have WD := Lib.hid (word_here ex ht (by omega) wr)
          have G1 := Lib.hid g1
          have hNlt := wN_lt (wat s k)
          clear ex ex2 ht hok g0 g1 hst
          generalize wN (wat s k) = N at *
          go_wp2_with (go_at_call 50; (with_reducible refine WD.out.mono ?_); rintro e w2 ⟨rfl, hb2⟩; obtain ⟨c2, f2⟩ := row_facts G1.out hb2 hlt)
          go_roundw
          case rel => exact R.out _ hb2
          case measure => simp [intOf]; omega
        | false =>
          have R := Lib.hid (fun W' hb' => htold_no (w := w) (W := W') (hT_bad hlt ht) hb')
          have WD := Lib.hid (word_here ex ht (by omega) wr)
          have G0 := Lib.hid g0
          clear ex ex2 ht hok g0 g1 hst
          generalize wN (wat s k) = N at *
          go_wp2_with (go_at_call 50; (with_reducible refine WD.out.mono ?_); rintro e w2 ⟨rfl, hb2⟩; have G2 := Lib.hid (kept G0.out hb2); obtain ⟨c0, c1, c2, c3, c4, fz⟩ := zeros_at G2.out)
          (try simp only [Exit.inBlock, Exit.then])
          refine end_pair rfl _ _ w.heap.size 43 z5 5 42 (.bool false) (by rfl) (by rfl) (zeros_set G2.out) Tryz.underlying43 sz5 (by rfl) (R.out _ (zeros_below (Nat.le_refl _) (btr hb hb2)))
      · obtain rfl : k = 5 := by omega
        have R := Lib.hid (fun W' hb' => htold_yes (w := w) (W := W') ((hT_iff s).2 ⟨h5, hok⟩) hb')
        have G0 := Lib.hid g0
        rw [upto_all] at g1
        have G1 := Lib.hid g1
        clear hok g0 g1 hst
        go_wp2_with (first
          | (refine wpList_load_row rfl 43 (.tmp 5) rfl w1.heap.size rfl _ _ _ _ G1.out Tryz.underlying43 rfl (szc sz5 _ _) ?_)
          | (refine wpList_store_row rfl 43 (.tmp 2) (.tmp 33) rfl w.heap.size (cs .u32 (fun k => wN (wat s k)) 5) rfl rfl 43 z5 G0.out (szc sz5 _ _) (by rw [cs_size]; rfl) (cs_one _ _ _) ?_))
        (try simp only [Exit.inBlock, Exit.then])
        refine end_pair rfl _ _ w.heap.size 43 _ 5 42 (.bool true) (by rfl) (by rfl) (setRow_heap _ _ _ _ _ _ G0.out) Tryz.underlying43 (szc sz5 _ _) (by rfl) (R.out _ (bel_setRow hb (Nat.le_refl _) _))
  · have R := Lib.hid (fun W' hb' => htold_no (w := w) (W := W') (hT_len h5) hb')
    have t1 : (((wordsS s).length : Int) != 5) = true := by simp; omega
    clear h5
    go_enter Tryz.func23, Tryz.ntmps23
    go_wp2_with (go_at_call 49; (with_reducible refine (C.out _).mono ?_); rintro e w1 ⟨A, c, rfl, hstr, hcap, hb1⟩; have G0 : Hid (w1.heap[w.heap.size]? = some (.cells z5 43)) := kept (hp_new w _) hb1; obtain ⟨c0, c1, c2, c3, c4, fz⟩ := zeros_at G0.out)
    (try simp only [Exit.inBlock, Exit.then])
    refine end_pair rfl _ _ w.heap.size 43 z5 5 42 (.bool false) (by rfl) (by rfl) (zeros_set G0.out) Tryz.underlying43 sz5 (by rfl) (R.out _ (zeros_below (Nat.le_refl _) (btr (bal (Below.refl _ _) _) hb1)))
/-! Text -/
theorem one_of32 (k : Nat) (hk : k < 16) (W : World) : (Instr.slice 9 (.string ⟨#[48, 49, 50, 51, 52, 53, 54, 55, 56, 57, 97, 98, 99, 100, 101, 102]⟩) (some (.int .u32 (k : Nat))) (some (.int .u32 ((k : Int) + 1))) none).run Tryz.prog W = .ok (.string (B [hd k])) W := by
  have e : ((⟨#[48, 49, 50, 51, 52, 53, 54, 55, 56, 57, 97, 98, 99, 100, 101, 102]⟩ : ByteArray)).size = 16 := rfl
  rw [run_slice_string W 9 _ .u32 .u32 k ((k : Int) + 1) Tryz.underlying9 (by omega) (by omega) (by rw [e]; omega)]
  rcases sixteen hk with rfl | rfl | rfl | rfl | rfl | rfl | rfl | rfl | rfl | rfl | rfl | rfl | rfl | rfl | rfl | rfl <;> rfl
def bs (f : Nat → Nat) (i : Nat) : List UInt8 := txL f i ++ (if i = 0 then [] else [32])
theorem bs_next (f : Nat → Nat) (i : Nat) : bs f i ++ (hk 8 (f i)).take 8 = txL f (i + 1) := by
  rw [List.take_of_length_le (by rw [hk_len]; omega)]
  unfold bs
  rw [txL]
theorem bs_len (f : Nat → Nat) (i : Nat) : (bs f i).length ≤ 9 * i + 1 := by
  have := txL_len f i
  unfold bs
  rw [List.length_append]
  split <;> simp <;> omega
theorem and_15 (n m : Nat) (hn : n < 4294967296) : bits .and .u32 ((n : Int) / 2 ^ (4 * m)) 15 = ((n / 2 ^ (4 * m) % 16 : Nat) : Int) := by
  have hu : n / 2 ^ (4 * m) < 4294967296 := Nat.lt_of_le_of_lt (Nat.div_le_self _ _) hn
  have e : ((n : Int) / 2 ^ (4 * m)) = ((n / 2 ^ (4 * m) : Nat) : Int) := by rw [Int.natCast_ediv, Int.natCast_pow]; rfl
  rw [e, show (15 : Int) = ((15 : Nat) : Int) from rfl, u32_and_nat _ _ hu (by omega), show (15 : Nat) = 2 ^ 4 - 1 from rfl, Nat.and_two_pow_sub_one_eq_mod]
def OHead (f : Nat → Nat) (t i : Value) : Prop := ∃ k : Nat, k ≤ 5 ∧ i = .int .i64 k ∧ t = .string (B (txL f k))
def IHead (f : Nat → Nat) (i : Nat) (t k : Value) : Prop := ∃ m : Nat, m ≤ 8 ∧ k = .int .i64 (4 * (m : Int) - 4) ∧ t = .string (B (bs f i ++ (hk 8 (f i)).take (8 - m)))
theorem inner_next (f : Nat → Nat) (i m : Nat) (hm : m + 1 ≤ 8) : B (bs f i ++ (hk 8 (f i)).take (8 - (m + 1))) ++ B [hd (f i / 2 ^ (4 * m) % 16)] = B (bs f i ++ (hk 8 (f i)).take (8 - m)) := by
  rw [B_app, List.append_assoc]
  congr 2
  have g := hk_get 8 (f i) (8 - (m + 1)) (by omega)
  have hl := hk_len 8 (f i)
  rw [show 8 - m = 8 - (m + 1) + 1 by omega, List.take_add_one, g, show 8 - 1 - (8 - (m + 1)) = m by omega, show (16 : Nat) ^ m = 2 ^ (4 * m) by rw [Nat.pow_mul]]
  rfl
set_option maxHeartbeats 2000000 in
theorem text_any (f : Nat → Nat) (w : World) (hf : ∀ k, k < 5 → f k < 4294967296) : Calls Tryz.prog 33 #[.agg (cs .u32 f 5)] w fun e w' => e = .returned (.string (txt f)) ∧ Below w.heap.size w w' := by
  have HB : Hid (Below w.heap.size w (w.alloc (.cells (cs .u32 f 5) 43))) := bal (Below.refl _ _) _
  go_enter Tryz.func33, Tryz.ntmps33
  go_wp2
  go_loop [4, 5] (fun t i => OHead f t i) (fun _ i => 5 - (intOf i).toNat)
  case atStart => exact ⟨0, by omega, rfl, rfl⟩
  case round =>
    obtain ⟨k, hk5, rfl, rfl⟩ := hrel
    by_cases hlt : k < 5
    · have hn := hf k hlt
      have c1 : (w.alloc (.cells (cs .u32 f 5) 43)).cell? ⟨w.heap.size, k, none⟩ = some (.int .u32 (f k : Nat)) := row_cell (hp_new w _) k _ (cs_get .u32 f 5 k hlt)
      have I0 : Hid (IHead f k (.string (B (bs f k))) (.int .i64 28)) := ⟨8, by omega, rfl, by simp⟩
      have NX := Lib.hid (bs_next f k)
      have bl := bs_len f k
      have lt := txL_len f k
      have zt : (B (txL f k)).size ≤ 50 := by rw [B_size]; omega
      by_cases h0 : k = 0
      · subst h0
        go_wp2
        go_loop [4, 6] (fun t k' => IHead f 0 t k') (fun _ k' => ((intOf k') + 4).toNat)
        case atStart => exact I0.out
        case round =>
          obtain ⟨m, hm8, rfl, rfl⟩ := hrel
          by_cases hm : m = 0
          · subst hm
            simp only [Nat.sub_zero, NX.out]
            go_wp2
            go_round
            case rel => exact ⟨0 + 1, by omega, by go_num, rfl⟩
            case measure => simp [intOf]
          · obtain ⟨m, rfl⟩ : ∃ m', m = m' + 1 := ⟨m - 1, by omega⟩
            rw [show 4 * ((m + 1 : Nat) : Int) - 4 = 4 * (m : Int) by omega]
            obtain ⟨D, hD⟩ : ∃ D, D = f 0 / 2 ^ (4 * m) % 16 := ⟨_, rfl⟩
            have hD16 : D < 16 := by omega
            have IN := Lib.hid (inner_next f 0 m (by omega))
            rw [← hD] at IN
            have ha := and_15 (f 0) m hn
            rw [← hD] at ha
            have R : Hid (IHead f 0 (.string (B (bs f 0 ++ (hk 8 (f 0)).take (8 - m)))) (.int .i64 (4 * (m : Int) - 4))) := ⟨m, by omega, rfl, rfl⟩
            rw [← IN.out] at R
            have zs : (B (bs f 0 ++ (hk 8 (f 0)).take (8 - (m + 1)))).size ≤ 60 := by rw [B_size, List.length_append, List.length_take]; omega
            have zd : (B [hd D]).size ≤ 1 := by rw [B_size]; simp
            have xs := fun W => one_of32 D hD16 W
            clear hD IN
            generalize B (bs f 0 ++ (hk 8 (f 0)).take (8 - (m + 1))) = X at *
            generalize B [hd D] = Y at *
            go_wp2
            go_round
            case rel => exact R.out
            case measure => simp [intOf]; omega
      · have e1 : B (txL f k) ++ ⟨#[32]⟩ = B (bs f k) := by
          rw [show (⟨#[32]⟩ : ByteArray) = B [32] from rfl, B_app]
          unfold bs
          rw [if_neg h0]
        go_wp2
        go_loop [4, 6] (fun t k' => IHead f k t k') (fun _ k' => ((intOf k') + 4).toNat)
        case atStart => exact I0.out
        case round =>
          obtain ⟨m, hm8, rfl, rfl⟩ := hrel
          by_cases hm : m = 0
          · subst hm
            simp only [Nat.sub_zero, NX.out]
            go_wp2
            go_round
            case rel => exact ⟨k + 1, by omega, by go_num, rfl⟩
            case measure => simp [intOf]; omega
          · obtain ⟨m, rfl⟩ : ∃ m', m = m' + 1 := ⟨m - 1, by omega⟩
            rw [show 4 * ((m + 1 : Nat) : Int) - 4 = 4 * (m : Int) by omega]
            obtain ⟨D, hD⟩ : ∃ D, D = f k / 2 ^ (4 * m) % 16 := ⟨_, rfl⟩
            have hD16 : D < 16 := by omega
            have IN := Lib.hid (inner_next f k m (by omega))
            rw [← hD] at IN
            have ha := and_15 (f k) m hn
            rw [← hD] at ha
            have R : Hid (IHead f k (.string (B (bs f k ++ (hk 8 (f k)).take (8 - m)))) (.int .i64 (4 * (m : Int) - 4))) := ⟨m, by omega, rfl, rfl⟩
            rw [← IN.out] at R
            have zs : (B (bs f k ++ (hk 8 (f k)).take (8 - (m + 1)))).size ≤ 60 := by rw [B_size, List.length_append, List.length_take]; omega
            have zd : (B [hd D]).size ≤ 1 := by rw [B_size]; simp
            have xs := fun W => one_of32 D hD16 W
            clear hD IN
            generalize B (bs f k ++ (hk 8 (f k)).take (8 - (m + 1))) = X at *
            generalize B [hd D] = Y at *
            go_wp2
            go_round
            case rel => exact R.out
            case measure => simp [intOf]; omega
    · obtain rfl : k = 5 := by omega
      go_wp2
      go_ret
      exact ⟨rfl, HB.out⟩
end Go.Proofs.YtldieebiicblbaaGreatDoor.ref07
