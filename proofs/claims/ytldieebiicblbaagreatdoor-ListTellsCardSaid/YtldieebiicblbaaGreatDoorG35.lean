/-
  The document's own Text of layer 10, and what it answers. Conditions: the slice reads as a row of leaps; and, as a premise, what the document's block of SHA-1 answers.
-/
import Derived.Test.YtldieebiicblbaaGreatDoorG33
import Derived.Test.YtldieebiicblbaaGreatDoorG23
import Derived.Test.YtldieebiicblbaaGreatDoorG20
import Derived.Laws.IdiomStrings
import Derived.WalkSmall
namespace Go.Proofs.YtldieebiicblbaaGreatDoor.ref10
open Go.ChangeShapes Go.WideShapes Go.ChangeAt Go.RowKit
open lx ls mem
open lm (Lp ce dy st)
open leap (tcs Lps rl tcs_cells)
open list (TXold)
set_option linter.unusedVariables false
set_option maxRecDepth 100000

theorem one_byte (b : Int) (h0 : 0 ≤ b) (h1 : b < 256) (W : World) : (convert 62 9 (.slice (some ⟨W.heap.size, 0, none⟩) 1 1)).run Tryz.prog (W.alloc (.cells #[.int .u8 b] 5)) = .ok (.string ⟨#[UInt8.ofNat b.toNat]⟩) (W.alloc (.cells #[.int .u8 b] 5)) := by
  refine run_convert_bytes_back (P := Tryz.prog) _ 62 9 5 ⟨W.heap.size, 0, none⟩ 1 [UInt8.ofNat b.toNat] Tryz.underlying62 Tryz.underlying5 Tryz.underlying9 ?_
  intro j hj
  obtain rfl : j = 0 := by simpa using hj
  have h : (W.alloc (.cells #[.int .u8 b] 5)).cell? ⟨W.heap.size, 0, none⟩ = some (.int .u8 b) := row_cell (hp_new _ _) 0
  have e : ((UInt8.ofNat b.toNat).toNat : Int) = b := by rw [UInt8.toNat_ofNat']; omega
  show _ = some (Value.int .u8 ((UInt8.ofNat b.toNat).toNat : Int))
  rw [e]
  exact h
theorem num_lo (n : Int) (h0 : 0 ≤ n) (h : n < 10) : B (ls.num n) = ⟨#[UInt8.ofNat (48 + n % 10).toNat]⟩ := by
  obtain ⟨m, rfl⟩ : ∃ m : Nat, n = m := ⟨n.toNat, by omega⟩
  have h' : m < 10 := by omega
  rcases (show m = 0 ∨ m = 1 ∨ m = 2 ∨ m = 3 ∨ m = 4 ∨ m = 5 ∨ m = 6 ∨ m = 7 ∨ m = 8 ∨ m = 9 by omega) with rfl | rfl | rfl | rfl | rfl | rfl | rfl | rfl | rfl | rfl <;> (apply L_inj; rw [L_B]; unfold ls.num decs; simp [dec, dgt, L])
theorem num_hi (n : Int) (h0 : 10 ≤ n) : B (ls.num (n / 10)) ++ ⟨#[UInt8.ofNat (48 + n % 10).toNat]⟩ = B (ls.num n) := by
  obtain ⟨m, rfl⟩ : ∃ m : Nat, n = m := ⟨n.toNat, by omega⟩
  apply L_inj
  rw [L_app, L_B, L_B]
  unfold ls.num decs
  rw [show ((m : Int) / 10).toNat = m / 10 by omega, show ((m : Int)).toNat = m by omega, if_neg (by omega), if_neg (by omega), dec_pos (n := m) (by omega)]
  show _ ++ [UInt8.ofNat (48 + (m : Int) % 10).toNat] = _ ++ [UInt8.ofNat (48 + m % 10)]
  rw [show (48 + (m : Int) % 10).toNat = 48 + m % 10 by omega]
theorem num_size (n : Int) (h1 : n ≤ 9223372036854775807) : (B (ls.num n)).size ≤ 19 := by
  rw [B_size]
  exact num_len h1
theorem dec_on (n : Int) (h0 : 0 ≤ n) (h1 : n ≤ 9223372036854775807) (w W : World) (hb : Below w.heap.size w W) : Calls Tryz.prog 30 #[.int .i64 n] W fun e w' => e = .returned (.string (B (ls.num n))) ∧ Below w.heap.size w w' := by
  have hk : ∃ k : Nat, n.toNat = k := ⟨_, rfl⟩
  obtain ⟨k, hk⟩ := hk
  induction k using Nat.strongRecOn generalizing n W with
  | _ k ih =>
    have cv := one_byte (48 + n % 10) (by omega) (by omega)
    by_cases h : n < 10
    · rw [num_lo n h0 h]
      clear ih hk
      generalize UInt8.ofNat (48 + n % 10).toNat = B at *
      go_enter Tryz.func30, Tryz.ntmps30
      go_wp2
      go_ret
      exact ⟨rfl, bal hb _⟩
    · have R := Lib.hid (fun W hb => ih (n / 10).toNat (by omega) (n / 10) (by omega) (by omega) W hb rfl)
      have s := num_size (n / 10) (by omega)
      have E := Lib.hid (num_hi n (by omega))
      clear ih hk
      have h10 : 10 ≤ n := by omega
      clear h
      generalize B (ls.num (n / 10)) = D at *
      generalize UInt8.ofNat (48 + n % 10).toNat = B at *
      have z1 : (9223372036854775807 < D.size + 1) = False := by simp; omega
      go_enter Tryz.func30, Tryz.ntmps30
      go_wp2_with (go_at_call 30; with_reducible refine (R.out _ (bal hb _)).mono ?_; rintro e w1 ⟨rfl, hb1⟩)
      go_ret
      exact ⟨by rw [E.out]; rfl, hb1⟩
theorem byl_one (l : List UInt8) : byl [l] = l ++ [10] := by unfold byl; simp
theorem blit (l : List UInt8) (a : Array UInt8) (h : a.toList = l) : (⟨a⟩ : ByteArray) = B l := by
  apply L_inj
  rw [L_B]
  exact h
theorem pair_at (p off : Int) (hp : 0 ≤ p + 2208988800 ∧ p ≤ 9000000000000000000) (h0 : 0 ≤ off) (h1 : off ≤ 9223372036854775807) (W : World) : Calls Tryz.prog 32 #[.int .i64 p, .int .i64 off] W fun e w' => e = .returned (.string (B (byl [tl (ls.num (p + 2208988800)) (ls.num off)]))) ∧ Below W.heap.size W w' := by
  have NT := Lib.hid (fun W => ref07.ntp_yes p W (And.intro (by omega) (by omega)))
  have D1 := Lib.hid (fun w W hb => dec_on (p + 2208988800) hp.1 (by omega) w W hb)
  have D2 := Lib.hid (fun w W hb => dec_on off h0 h1 w W hb)
  have z1 := num_size (p + 2208988800) (by omega)
  have z2 := num_size off h1
  have E : Hid (B (ls.num (p + 2208988800)) ++ ⟨#[9]⟩ ++ B (ls.num off) ++ ⟨#[10]⟩ = B (byl [tl (ls.num (p + 2208988800)) (ls.num off)])) := by
    show _ = _
    rw [blit [9] #[9] rfl, blit [10] #[10] rfl, bapp, bapp, bapp, byl_one]
    rfl
  generalize B (byl [tl (ls.num (p + 2208988800)) (ls.num off)]) = R at *
  generalize B (ls.num (p + 2208988800)) = X at *
  generalize B (ls.num off) = Y at *
  go_enter Tryz.func32, Tryz.ntmps32
  go_wp2_with (first
    | (go_at_call 31; (with_reducible refine (NT.out _).mono ?_); rintro e w1 ⟨rfl, rfl⟩)
    | (go_at_call 30; first
        | ((with_reducible refine (D1.out W W (Below.refl _ _)).mono ?_); rintro e w2 ⟨rfl, hb2⟩)
        | ((with_reducible refine (D2.out W _ hb2).mono ?_); rintro e w3 ⟨rfl, hb3⟩)))
  go_ret
  exact ⟨by rw [← E.out]; rfl, hb3⟩
/-- at the head of a leap. -/
def THead (lv : List Lp) (has : Bool) (x stamp : Int) (Wa : World) (s v i : Value) (W : World) : Prop :=
  ∃ k : Nat, k ≤ lv.length ∧ s = .string (B (byl (hd2 has x stamp ++ dl lv k))) ∧ v = .int .i64 (10 + lm.tot lv k) ∧ i = .int .i64 (k : Nat) ∧ Below Wa.heap.size Wa W ∧ ∀ j, j < k → rl lv j = false ∧ 0 ≤ 10 + lm.tot lv (j + 1)
theorem txt_size (f : Nat → Nat) : (nx.txt f).size ≤ 45 := by
  have := nx.txL_len f 5
  unfold nx.txt
  rw [B_size]
  exact this
theorem hd2_no (x stamp : Int) : (⟨#[35, 36, 9]⟩ : ByteArray) ++ B (ls.num stamp) ++ ⟨#[10]⟩ ++ B (byl [tl (ls.num 2272060800) (ls.num 10)]) = B (byl (hd2 false x stamp ++ dl [] 0)) := by
  rw [blit [35, 36, 9] #[35, 36, 9] rfl, blit [10] #[10] rfl, bapp, bapp, bapp]
  congr 1
theorem hd2_yes (x stamp : Int) : (⟨#[35, 36, 9]⟩ : ByteArray) ++ B (ls.num stamp) ++ ⟨#[10]⟩ ++ ⟨#[35, 64, 9]⟩ ++ B (ls.num (x + 2208988800)) ++ ⟨#[10]⟩ ++ B (byl [tl (ls.num 2272060800) (ls.num 10)]) = B (byl (hd2 true x stamp ++ dl [] 0)) := by
  rw [blit [35, 36, 9] #[35, 36, 9] rfl, blit [35, 64, 9] #[35, 64, 9] rfl, blit [10] #[10] rfl, bapp, bapp, bapp, bapp, bapp, bapp]
  congr 1
  unfold hd2 byl dl tl
  simp
theorem dl_zero (lv : List Lp) : dl lv 0 = dl [] 0 := rfl
theorem byl_next (hs : List (List UInt8)) (lv : List Lp) (k : Nat) : B (byl (hs ++ dl lv k)) ++ B (byl [tl (ls.num (86400 * (dy lv k + 1) + 2208988800)) (ls.num (10 + lm.tot lv (k + 1)))]) = B (byl (hs ++ dl lv (k + 1))) := by
  rw [bapp, ← bytes_app, dl_succ, List.append_assoc]
  unfold dln
  rw [Int.mul_comm 86400]
theorem byl_last (lv : List Lp) (has : Bool) (x stamp : Int) : B (byl (pre lv has x stamp)) ++ ⟨#[35, 104, 9]⟩ ++ nx.txt (hq (pre lv has x stamp)) ++ ⟨#[10]⟩ = B (byl (full lv has x stamp)) := by
  unfold full
  rw [← B_L (nx.txt (hq (pre lv has x stamp))), blit [35, 104, 9] #[35, 104, 9] rfl, blit [10] #[10] rfl, bapp, bapp, bapp, bytes_app, byl_one]
  unfold hl
  congr 1
  simp
theorem tl_size (a b : Int) (ha : a ≤ 9223372036854775807) (hb : b ≤ 9223372036854775807) : (B (byl [tl (ls.num a) (ls.num b)])).size ≤ 40 := by
  have := num_len ha
  have := num_len hb
  rw [B_size, byl_one, List.length_append, list.tl_len]
  simp only [List.length_singleton]
  omega
set_option maxHeartbeats 16000000 in
theorem text_at (HB : ref06.BlockOk) (lv : List Lp) (A : Option Addr) (c : Nat) (has : Bool) (x stamp : Int) (w : World) (hl : Lps w A lv) (hn : lv.length ≤ 9223372036854775807) (hs : -9223372036854775808 ≤ stamp ∧ stamp ≤ 9223372036854775807) :
    Calls Tryz.prog 9 #[.agg #[.slice A lv.length c, .bool has, .int .i64 x], .int .i64 stamp] w (TXold lv has x stamp w) := by
  have hb0 : Below w.heap.size w (w.alloc (.cells #[.slice A lv.length c, .bool has, .int .i64 x] 24)) := bal (Below.refl _ _) _
  have RN : Hid (¬ TOK lv has x stamp → ∀ W, Below w.heap.size w W → TXold lv has x stamp w (.returned (.tuple #[.string ⟨#[]⟩, .bool false])) W) := fun h W hb => ⟨hb, .inr ⟨h, rfl⟩⟩
  have RI := Lib.hid (ref09.right_at lv A c has x _ (hl.below hb0) hn)
  have BT := Lib.hid (fun W (hb : Below (w.alloc (.cells #[.slice A lv.length c, .bool has, .int .i64 x] 24)).heap.size (w.alloc (.cells #[.slice A lv.length c, .bool has, .int .i64 x] 24)) W) => tcs_cells (kept (hp_new w _) hb))
  have HL := Lib.hid (fun W (hb : Below w.heap.size w W) => hl.below hb)
  have HB0 := Lib.hid hb0
  by_cases hc : ce lv has x = 0
  · rw [show (ce lv has x == 0) = true by simpa using hc] at RI
    by_cases h0 : stamp < 0
    · have R := Lib.hid (RN.out (fun h => by have := h.1; omega))
      clear RN hl hn hb0 hc
      generalize lv.length = n at *
      go_enter Tryz.func9, Tryz.ntmps9
      go_wp2_with (go_at_call 22; (with_reducible refine (RI.out).mono ?_); rintro e w1 ⟨rfl, hb1⟩)
      go_ret2
      exact R.out _ (btr HB0.out hb1)
    · have hg := lm.good_of hc
      have xb := ls.x_bd hc
      have hcap := hg.len
      have D0 := Lib.hid (fun w W hb => dec_on stamp (by omega) hs.2 w W hb)
      have z0 := num_size stamp hs.2
      have PL := fun k hk => list.part_len (has := has) (x := x) (stamp := stamp) hg hs.2 (by cases has <;> simp at xb <;> omega) k hk
      have P0 := Lib.hid (fun W => pair_at 63072000 10 (by omega) (by omega) (by omega) W)
      have zp := tl_size 2272060800 10 (by omega) (by omega)
      have PLz : Hid (∀ k, k ≤ lv.length → (B (byl (hd2 has x stamp ++ dl lv k))).size ≤ 20000) := fun k hk => by rw [B_size]; exact PL k hk
      have HHS : Hid (∀ W, Calls Tryz.prog 12 #[.string (B (byl (pre lv has x stamp)))] W fun e w' => e = .returned (.agg (sx.cs .u8 (sx.dig (sx.sumV (sha.nats (hsh (pre lv has x stamp))))) 20)) ∧ Below W.heap.size W w') := fun W => by
        have hz := PL lv.length (Nat.le_refl _)
        have := hash_at HB (B (byl (pre lv has x stamp))) W (by rw [B_size]; unfold pre; omega)
        have e : (splitS (B (byl (pre lv has x stamp)))).map L = pre lv has x stamp := by
          unfold splitS
          rw [L_B, spl_all (list.fin1_pre lv has x stamp), List.map_map, show (L ∘ B) = id from funext fun l => L_B l, List.map_id]
        rw [e] at this
        exact this
      have WD : Hid (∀ W, Calls Tryz.prog 24 #[.agg (sx.cs .u8 (sx.dig (sx.sumV (sha.nats (hsh (pre lv has x stamp))))) 20)] W fun e w' => e = .returned (.agg #[.int .u32 (hq (pre lv has x stamp) 0 : Nat), .int .u32 (hq (pre lv has x stamp) 1 : Nat), .int .u32 (hq (pre lv has x stamp) 2 : Nat), .int .u32 (hq (pre lv has x stamp) 3 : Nat), .int .u32 (hq (pre lv has x stamp) 4 : Nat)]) ∧ Below W.heap.size W w') := fun W => sha.refwords_any _ W (fun j _ => sx.dig_lt _ j)
      have TX : Hid (∀ W, Calls Tryz.prog 33 #[.agg #[.int .u32 (hq (pre lv has x stamp) 0 : Nat), .int .u32 (hq (pre lv has x stamp) 1 : Nat), .int .u32 (hq (pre lv has x stamp) 2 : Nat), .int .u32 (hq (pre lv has x stamp) 3 : Nat), .int .u32 (hq (pre lv has x stamp) 4 : Nat)]] W fun e w' => e = .returned (.string (nx.txt (hq (pre lv has x stamp)))) ∧ Below W.heap.size W w') := fun W => ref07.text_any (hq (pre lv has x stamp)) W (fun k _ => hq_lt _ k)
      have ztx := txt_size (hq (pre lv has x stamp))
      have LAST := Lib.hid (byl_last lv has x stamp)
      have RY : Hid ((∀ k, k < lv.length → rl lv k = false ∧ 0 ≤ 10 + lm.tot lv (k + 1)) → ∀ W, Below w.heap.size w W → TXold lv has x stamp w (.returned (.tuple #[.string (B (byl (full lv has x stamp))), .bool true])) W) := fun h W hb => ⟨hb, .inl ⟨⟨by omega, hc, h⟩, rfl⟩⟩
      have RO : Hid (∀ k, k < lv.length → ¬ (rl lv k = false ∧ 0 ≤ 10 + lm.tot lv (k + 1)) → ∀ W, Below w.heap.size w W → TXold lv has x stamp w (.returned (.tuple #[.string ⟨#[]⟩, .bool false])) W) := fun k hk h W hb => RN.out (fun g => h (g.2.2 k hk)) W hb
      have tk : decide (stamp < 0) = false := by simp; omega
      have hn200 : lv.length ≤ 200 := hcap
      clear RN hb0 hn hl PL
      generalize sx.cs .u8 (sx.dig (sx.sumV (sha.nats (hsh (pre lv has x stamp))))) 20 = DG at *
      cases has
      · have E0 := Lib.hid (hd2_no x stamp)
        go_enter Tryz.func9, Tryz.ntmps9
        go_wp2_with (first
          | (go_at_call 22; (with_reducible refine (RI.out).mono ?_); rintro e w1 ⟨rfl, hb1⟩; have H1 := Lib.hid (btr HB0.out hb1); have b1 := Lib.hid hb1; obtain ⟨x0, x1, x2⟩ := BT.out _ hb1)
          | (go_at_call 30; first
              | ((with_reducible refine (D0.out w1 _ (Below.refl _ _)).mono ?_); rintro e w2 ⟨rfl, hb2⟩; have b2 := Lib.hid (btr b1.out hb2); clear x0 x1 x2; obtain ⟨x0, x1, x2⟩ := BT.out _ b2.out))
          | (go_at_call 32; (with_reducible refine (P0.out _).mono ?_); rintro e w4 ⟨rfl, hb4⟩; have b4 := Lib.hid (btr b2.out hb4)))
        go_loopw [6, 9, 10] (fun s v i W => THead lv false x stamp w4 s v i W) (fun _ _ i _ => lv.length - (intOf i).toNat)
        case atStart => exact ⟨0, Nat.zero_le _, by rw [dl_zero, ← E0.out], rfl, rfl, Below.refl _ _, fun j hj => by omega⟩
        case round =>
          obtain ⟨k, hk, rfl, rfl, rfl, hb, hok⟩ := hrel
          clear x0 x1 x2
          have bw := Lib.hid (btr b4.out hb)
          obtain ⟨x0, x1, x2⟩ := BT.out _ bw.out
          have HW := Lib.hid (btr HB0.out bw.out)
          have zs := PLz.out k hk
          have tb := lm.tot_bd hg k (by omega)
          by_cases hlt : k < lv.length
          · obtain ⟨b, o, rfl, hbl, hcl⟩ := (HL.out _ HW.out) (by omega)
            obtain ⟨y0, y1, y2⟩ := hcl k hlt
            have tb2 := lm.tot_bd hg (k + 1) (by omega)
            have dd := hg.day hlt
            have hz := hg.step hlt
            have QT : 10 + lm.tot lv k + st lv k = 10 + lm.tot lv (k + 1) := by rw [Int.add_assoc]; rfl
            have vb : -1000 ≤ 10 + lm.tot lv k ∧ 10 + lm.tot lv k ≤ 1000 := by omega
            cases hr : rl lv k with
            | true =>
              rw [hr] at y2
              have R := Lib.hid (RO.out k hlt (fun q => by rw [hr] at q; exact absurd q.1 (by decide)) _ HW.out)
              clear hcl RO RY hok PLz HHS WD TX LAST tb tb2
              generalize B (byl (hd2 false x stamp ++ dl lv k)) = SS at *
              generalize 10 + lm.tot lv (k + 1) = V' at *
              generalize 10 + lm.tot lv k = V at *
              generalize st lv k = Z at *
              generalize dy lv k = DY at *
              generalize hm : lv.length = n at *
              subst QT
              as_aux_lemma =>
                go_wp2_with fail
                go_ret2
                exact R.out
            | false =>
              rw [hr] at y2
              by_cases hv : 10 + lm.tot lv (k + 1) < 0
              · have R := Lib.hid (RO.out k hlt (fun q => by have := q.2; omega) _ HW.out)
                clear hcl RO RY hok PLz HHS WD TX LAST tb tb2
                generalize B (byl (hd2 false x stamp ++ dl lv k)) = SS at *
                generalize 10 + lm.tot lv (k + 1) = V' at *
                generalize 10 + lm.tot lv k = V at *
                generalize st lv k = Z at *
                generalize dy lv k = DY at *
                generalize hm : lv.length = n at *
                subst QT
                have tv : decide (V + Z < 0) = true := by simp; omega
                as_aux_lemma =>
                  go_wp2_with fail
                  go_ret2
                  exact R.out
              · have PA := Lib.hid (fun W => pair_at (86400 * (dy lv k + 1)) (10 + lm.tot lv (k + 1)) (by omega) (by omega) (by omega) W)
                have zq := tl_size (86400 * (dy lv k + 1) + 2208988800) (10 + lm.tot lv (k + 1)) (by omega) (by omega)
                have R : Hid (∀ W, Below wr.heap.size wr W → THead lv false x stamp w4 (.string (B (byl (hd2 false x stamp ++ dl lv k)) ++ B (byl [tl (ls.num (86400 * (dy lv k + 1) + 2208988800)) (ls.num (10 + lm.tot lv (k + 1)))]))) (.int .i64 (10 + lm.tot lv (k + 1))) (.int .i64 ((k : Int) + 1)) W) := fun W hbW => ⟨k + 1, hlt, by rw [byl_next], rfl, rfl, btr hb hbW, fun j hj => by
                  rcases Nat.eq_or_lt_of_le (Nat.le_of_lt_succ hj) with rfl | q
                  · exact ⟨hr, by omega⟩
                  · exact hok j q⟩
                clear hcl RO RY hok PLz HHS WD TX LAST tb tb2
                generalize B (byl (hd2 false x stamp ++ dl lv k)) = SS at *
                generalize B (byl [tl (ls.num (86400 * (dy lv k + 1) + 2208988800)) (ls.num (10 + lm.tot lv (k + 1)))]) = PP at *
                generalize 10 + lm.tot lv (k + 1) = V' at *
                generalize 10 + lm.tot lv k = V at *
                generalize st lv k = Z at *
                generalize dy lv k = DY at *
                generalize hm : lv.length = n at *
                subst QT
                have tv : decide (V + Z < 0) = false := by simp; omega
                as_aux_lemma =>
                  go_wp2_with (go_at_call 32; (with_reducible refine (PA.out _).mono ?_); rintro e w5 ⟨rfl, hb5⟩)
                  exact ⟨R.out _ hb5, by simp [intOf]; omega⟩
          · obtain rfl : k = lv.length := by omega
            have R := Lib.hid (RY.out hok)
            have ES : hd2 false x stamp ++ dl lv lv.length = pre lv false x stamp := rfl
            rw [ES] at zs
            clear RO RY hok PLz
            generalize hq (pre lv false x stamp) = qd at *
            generalize nx.txt qd = TT at *
            generalize B (byl (full lv false x stamp)) = FULL at *
            rw [show B (byl (pre lv false x stamp)) = B (byl (hd2 false x stamp ++ dl lv lv.length)) from rfl] at LAST HHS zs
            generalize B (byl (hd2 false x stamp ++ dl lv lv.length)) = SS at *
            as_aux_lemma =>
              go_wp2_with (first
                | (go_at_call 12; (with_reducible refine (HHS.out _).mono ?_); rintro e w6 ⟨rfl, hb6⟩)
                | (go_at_call 24; (with_reducible refine (WD.out _).mono ?_); rintro e w7 ⟨rfl, hb7⟩)
                | (go_at_call 33; (with_reducible refine (TX.out _).mono ?_); rintro e w8 ⟨rfl, hb8⟩))
              go_ret2
              rw [← LAST.out] at R
              exact R.out _ (btr HW.out (btr hb6 (btr hb7 hb8)))
      · have E0 := Lib.hid (hd2_yes x stamp)
        simp at xb
        have NT := Lib.hid (fun W => ref07.ntp_yes x W (And.intro (by omega) (by omega)))
        have D1 := Lib.hid (fun w W hb => dec_on (x + 2208988800) (by omega) (by omega) w W hb)
        have z1 := num_size (x + 2208988800) (by omega)
        go_enter Tryz.func9, Tryz.ntmps9
        go_wp2_with (first
          | (go_at_call 22; (with_reducible refine (RI.out).mono ?_); rintro e w1 ⟨rfl, hb1⟩; have H1 := Lib.hid (btr HB0.out hb1); have b1 := Lib.hid hb1; obtain ⟨x0, x1, x2⟩ := BT.out _ hb1)
          | (go_at_call 30; first
              | ((with_reducible refine (D0.out w1 _ (Below.refl _ _)).mono ?_); rintro e w2 ⟨rfl, hb2⟩; have b2 := Lib.hid (btr b1.out hb2); clear x0 x1 x2; obtain ⟨x0, x1, x2⟩ := BT.out _ b2.out)
              | ((with_reducible refine (D1.out w1 _ hb2).mono ?_); rintro e w3 ⟨rfl, hb3⟩; have b3 := Lib.hid (btr b1.out hb3); clear x0 x1 x2; obtain ⟨x0, x1, x2⟩ := BT.out _ b3.out))
          | (go_at_call 31; (with_reducible refine (NT.out _).mono ?_); rintro e wn ⟨rfl, rfl⟩)
          | (go_at_call 32; (with_reducible refine (P0.out _).mono ?_); rintro e w4 ⟨rfl, hb4⟩; have b4 := Lib.hid (btr b3.out hb4)))
        go_loopw [6, 9, 10] (fun s v i W => THead lv true x stamp w4 s v i W) (fun _ _ i _ => lv.length - (intOf i).toNat)
        case atStart => exact ⟨0, Nat.zero_le _, by rw [dl_zero, ← E0.out], rfl, rfl, Below.refl _ _, fun j hj => by omega⟩
        case round =>
          obtain ⟨k, hk, rfl, rfl, rfl, hb, hok⟩ := hrel
          clear x0 x1 x2
          have bw := Lib.hid (btr b4.out hb)
          obtain ⟨x0, x1, x2⟩ := BT.out _ bw.out
          have HW := Lib.hid (btr HB0.out bw.out)
          have zs := PLz.out k hk
          have tb := lm.tot_bd hg k (by omega)
          by_cases hlt : k < lv.length
          · obtain ⟨b, o, rfl, hbl, hcl⟩ := (HL.out _ HW.out) (by omega)
            obtain ⟨y0, y1, y2⟩ := hcl k hlt
            have tb2 := lm.tot_bd hg (k + 1) (by omega)
            have dd := hg.day hlt
            have hz := hg.step hlt
            have QT : 10 + lm.tot lv k + st lv k = 10 + lm.tot lv (k + 1) := by rw [Int.add_assoc]; rfl
            have vb : -1000 ≤ 10 + lm.tot lv k ∧ 10 + lm.tot lv k ≤ 1000 := by omega
            cases hr : rl lv k with
            | true =>
              rw [hr] at y2
              have R := Lib.hid (RO.out k hlt (fun q => by rw [hr] at q; exact absurd q.1 (by decide)) _ HW.out)
              clear hcl RO RY hok PLz HHS WD TX LAST tb tb2
              generalize B (byl (hd2 true x stamp ++ dl lv k)) = SS at *
              generalize 10 + lm.tot lv (k + 1) = V' at *
              generalize 10 + lm.tot lv k = V at *
              generalize st lv k = Z at *
              generalize dy lv k = DY at *
              generalize hm : lv.length = n at *
              subst QT
              as_aux_lemma =>
                go_wp2_with fail
                go_ret2
                exact R.out
            | false =>
              rw [hr] at y2
              by_cases hv : 10 + lm.tot lv (k + 1) < 0
              · have R := Lib.hid (RO.out k hlt (fun q => by have := q.2; omega) _ HW.out)
                clear hcl RO RY hok PLz HHS WD TX LAST tb tb2
                generalize B (byl (hd2 true x stamp ++ dl lv k)) = SS at *
                generalize 10 + lm.tot lv (k + 1) = V' at *
                generalize 10 + lm.tot lv k = V at *
                generalize st lv k = Z at *
                generalize dy lv k = DY at *
                generalize hm : lv.length = n at *
                subst QT
                have tv : decide (V + Z < 0) = true := by simp; omega
                as_aux_lemma =>
                  go_wp2_with fail
                  go_ret2
                  exact R.out
              · have PA := Lib.hid (fun W => pair_at (86400 * (dy lv k + 1)) (10 + lm.tot lv (k + 1)) (by omega) (by omega) (by omega) W)
                have zq := tl_size (86400 * (dy lv k + 1) + 2208988800) (10 + lm.tot lv (k + 1)) (by omega) (by omega)
                have R : Hid (∀ W, Below wr.heap.size wr W → THead lv true x stamp w4 (.string (B (byl (hd2 true x stamp ++ dl lv k)) ++ B (byl [tl (ls.num (86400 * (dy lv k + 1) + 2208988800)) (ls.num (10 + lm.tot lv (k + 1)))]))) (.int .i64 (10 + lm.tot lv (k + 1))) (.int .i64 ((k : Int) + 1)) W) := fun W hbW => ⟨k + 1, hlt, by rw [byl_next], rfl, rfl, btr hb hbW, fun j hj => by
                  rcases Nat.eq_or_lt_of_le (Nat.le_of_lt_succ hj) with rfl | q
                  · exact ⟨hr, by omega⟩
                  · exact hok j q⟩
                clear hcl RO RY hok PLz HHS WD TX LAST tb tb2
                generalize B (byl (hd2 true x stamp ++ dl lv k)) = SS at *
                generalize B (byl [tl (ls.num (86400 * (dy lv k + 1) + 2208988800)) (ls.num (10 + lm.tot lv (k + 1)))]) = PP at *
                generalize 10 + lm.tot lv (k + 1) = V' at *
                generalize 10 + lm.tot lv k = V at *
                generalize st lv k = Z at *
                generalize dy lv k = DY at *
                generalize hm : lv.length = n at *
                subst QT
                have tv : decide (V + Z < 0) = false := by simp; omega
                as_aux_lemma =>
                  go_wp2_with (go_at_call 32; (with_reducible refine (PA.out _).mono ?_); rintro e w5 ⟨rfl, hb5⟩)
                  exact ⟨R.out _ hb5, by simp [intOf]; omega⟩
          · obtain rfl : k = lv.length := by omega
            have R := Lib.hid (RY.out hok)
            have ES : hd2 true x stamp ++ dl lv lv.length = pre lv true x stamp := rfl
            rw [ES] at zs
            clear RO RY hok PLz
            generalize hq (pre lv true x stamp) = qd at *
            generalize nx.txt qd = TT at *
            generalize B (byl (full lv true x stamp)) = FULL at *
            rw [show B (byl (pre lv true x stamp)) = B (byl (hd2 true x stamp ++ dl lv lv.length)) from rfl] at LAST HHS zs
            generalize B (byl (hd2 true x stamp ++ dl lv lv.length)) = SS at *
            as_aux_lemma =>
              go_wp2_with (first
                | (go_at_call 12; (with_reducible refine (HHS.out _).mono ?_); rintro e w6 ⟨rfl, hb6⟩)
                | (go_at_call 24; (with_reducible refine (WD.out _).mono ?_); rintro e w7 ⟨rfl, hb7⟩)
                | (go_at_call 33; (with_reducible refine (TX.out _).mono ?_); rintro e w8 ⟨rfl, hb8⟩))
              go_ret2
              rw [← LAST.out] at R
              exact R.out _ (btr HW.out (btr hb6 (btr hb7 hb8)))
  · rw [show (ce lv has x == 0) = false by simpa using hc] at RI
    have R := Lib.hid (RN.out (fun h => hc h.2.1))
    clear RN hl hn hb0 hc
    generalize lv.length = n at *
    go_enter Tryz.func9, Tryz.ntmps9
    go_wp2_with (go_at_call 22; (with_reducible refine (RI.out).mono ?_); rintro e w1 ⟨rfl, hb1⟩)
    go_ret2
    exact R.out _ (btr HB0.out hb1)
end Go.Proofs.YtldieebiicblbaaGreatDoor.ref10
