/-
  What the library's (*strings.Builder).WriteString leaves of a builder that the call has made, and what ntp's Text answers: the text of five numbers below 2^32. Condition: the library's table deBruijn64tab holds 4 at its place 15.
-/
import Derived.Test.YtfnkloecfjppeaaDoorNtpHex
import Derived.Lib.AppendStr
namespace Go.Proofs.YtfnkloecfjppeaaDoor.ntp
open Go.ChangeShapes Go.WideShapes Go.ChangeAt Go.RowKit
open lx nx sx
open sha (hd hp_new hp_old row_cell row_set szc sz5 kept bal btr Bld BldAt Own own_below check_any opened wrote put_at write_any nats nats_app nats_len bc bc_len bc_nats infoB)
set_option linter.unusedVariables false

theorem bc_app (l m : List Nat) : bc (l ++ m) = bc l ++ bc m := by unfold bc; simp
theorem str_bc (s : ByteArray) : Lib.strCells s = bc (nats (L s)) := by
  rw [bc_nats]
  rfl
/-- 'append(buf, s...)', buf a row of bytes of the call's own. -/
theorem app_str {ops : Array Oper} {rest : List Oper} {o : Oper} {a : Act} {Q : Exit → Act → World → Prop} (hgd : o.guard = none) (sl x : Operand)
    (ho : o.op = .call { callee := .builtin .append, args := #[sl, x], argTypes := #[36, 9] }) (base : Nat) (W : World) (v : Value) (l : List Nat) (s : ByteArray)
    (hs : a.eval sl = v) (hx : a.eval x = .string s) (hown : Own base W v l) (hn : l.length + s.size < 8000000000000) (hbase : base ≤ W.heap.size)
    (h : ∀ A cap w', Own base w' (.slice A (l ++ nats (L s)).length cap) (l ++ nats (L s)) → W.grownBy w' v.ownBlock → wpList Tryd.prog ops Q rest (a.put o.dst (.slice A (l ++ nats (L s)).length cap)) w') :
    wpList Tryd.prog ops Q (o :: rest) a W := by
  obtain ⟨i0, hi, hz0, hz1, hz2⟩ := info_parts infoB
  refine Lib.wpList_append_own_string _ hgd sl x 36 9 ho base 5 i0 Tryd.underlying36 Tryd.underlying9 hi hz0 hz1 hz2 v l.length (bc l) hs hown s hx (by unfold maxLen; omega) (by omega) hbase ?_
  intro v' w' h1 h2 _
  have h1' : Own base w' v' (l ++ nats (L s)) := by
    unfold Own
    rw [bc_app, List.length_append, nats_len, L_len, ← str_bc]
    exact h1
  obtain ⟨A, cap, rfl⟩ : ∃ A cap, v' = .slice A (l ++ nats (L s)).length cap := by
    rcases h1'.2 with ⟨k, z⟩ | ⟨g, cap, cur, k, _⟩
    · exact ⟨none, 0, by rw [z]; exact k⟩
    · exact ⟨_, cap, k⟩
  exact h A cap w' h1' h2
set_option maxHeartbeats 1000000 in
theorem string_any (B b : Nat) (l : List Nat) (s : ByteArray) (w : World) (h : Bld B b l w) (hl : l.length < 1000000) (hs : s.size < 1000000) (hB : B ≤ w.heap.size) :
    Calls Tryd.prog 29 #[.pointer (some ⟨b, 0, none⟩), .string s] w fun e w' => e = .returned (.tuple #[.int .i64 (s.size : Nat), .nilIface]) ∧ BldAt B b (l ++ nats (L s)) w' ∧ Below B w w' := by
  have C := Lib.hid (check_any B b l w h)
  clear h
  go_enter Tryd.func29, Tryd.ntmps29
  go_wp2_with (first
    | (go_at_call 33; (with_reducible refine C.out.mono ?_); rintro e w1 ⟨rfl, h1, hb1⟩; obtain ⟨hBb, v, c0, c1, HO, HK, HN⟩ := opened h1; have hs1 := hb1.size)
    | (at_builtin; refine app_str rfl _ _ rfl B w1 v l s rfl rfl HO.out (by omega) (by omega) ?_; intro A2 cap2 w2 ho2 hg2; obtain ⟨K2, d0, d1, f1⟩ := wrote HK.out HN.out hg2))
  go_ret2
  exact ⟨rfl, put_at hBb K2.out (by simpa using ho2), (own_below HO.out hb1 (by omega) hg2).setCell (p := ⟨b, 1, none⟩) hBb _⟩
theorem zeros_any (c : Nat) (w : World) (hc : c ≤ 8) : Calls Tryd.prog 30 #[.string ⟨#[48]⟩, .int .i64 (c : Nat)] w fun e w' => e = .returned (.string (B (List.replicate c 48))) ∧ Below w.heap.size w w' := by
  refine (Tryd.strings_Repeat ⟨#[48]⟩ c w (by omega) (by show 1 * c ≤ _; omega)).mono ?_
  rintro e w' ⟨rfl, hb⟩
  refine ⟨?_, hb⟩
  have e : ∀ c, Lib.repeatL [48] c = List.replicate c 48 := by
    intro c
    induction c with
    | zero => rfl
    | succ c ih => rw [Lib.repeatL, ih, List.replicate_succ]; rfl
  show Ending.returned (.string ⟨(Lib.repeatL [48] c).toArray⟩) = _
  rw [e]
  rfl
def THead (f : Nat → Nat) (w : World) (t : Value) (W : World) : Prop :=
  ∃ k : Nat, k ≤ 5 ∧ t = .int .i64 (k : Nat) ∧ Bld (w.heap.size + 1) (w.heap.size + 1) (nats (txL f k)) W ∧ Below (w.heap.size + 1) (w.alloc (.cells (cs .u32 f 5) 23)) W
theorem own_keep {base n : Nat} {e : TypeId} {v : Value} {xs : List Value} {W W' : World} (h : W.ownsRow base e 1 v n xs) (hb : Below W.heap.size W W') : W'.ownsRow base e 1 v n xs := by
  refine ⟨h.1, ?_⟩
  rcases h.2 with h | ⟨g, cap, c, hv, hb0, hh, r⟩
  · exact .inl h
  · exact .inr ⟨g, cap, c, hv, hb0, kept hh hb, r⟩
theorem at_below {T e : TypeId} {B b : Nat} {p : Value} {l : List Value} {W W' : World} (h : Lib.BuilderAt T e B b p l W) (hb : Below W.heap.size W W') : Lib.BuilderAt T e B b p l W' := by
  obtain ⟨hB, v, hbk, hown, hne⟩ := h
  exact ⟨hB, v, kept hbk hb, own_keep hown hb, hne⟩
theorem bld_below {B b : Nat} {l : List Nat} {W W' : World} (h : Bld B b l W) (hb : Below W.heap.size W W') : Bld B b l W' := by
  rcases h with h | h
  · exact Or.inl (at_below h hb)
  · exact Or.inr (at_below h hb)
theorem txL_more (f : Nat → Nat) (k : Nat) (hf : f k < 4294967296) : nats (txL f k) ++ (if k = 0 then [] else [32]) ++ nats (L (B (List.replicate (8 - nd (f k)) 48))) ++ nats (L (B (hk (nd (f k)) (f k)))) = nats (txL f (k + 1)) := by
  rw [txL, ← hk_eight hf, L_B, L_B, nats_app, nats_app, nats_app]
  simp only [List.append_assoc]
  congr 1
  split <;> rfl
theorem strB_small (l : List UInt8) (h : l.length ≤ 8) : (B l).size < 1000000 := by rw [B_size]; omega
/-- a builder that the call has made, above its argument. -/
def BS (f : Nat → Nat) (w : World) (l : List Nat) (W : World) : Prop := Bld (w.heap.size + 1) (w.heap.size + 1) l W ∧ Below (w.heap.size + 1) (w.alloc (.cells (cs .u32 f 5) 23)) W ∧ w.heap.size + 1 ≤ W.heap.size
theorem bs_call {f : Nat → Nat} {w W W' : World} {l : List Nat} (h : BS f w l W) (hb : Below W.heap.size W W') : BS f w l W' :=
  ⟨bld_below h.1 hb, h.2.1.trans (hb.mono h.2.2), Nat.le_trans h.2.2 hb.size⟩
theorem bs_byte {f : Nat → Nat} {w : World} (W : World) (l : List Nat) (c : Nat) (h : BS f w l W) (hl : l.length < 1000000) :
    Calls Tryd.prog 27 #[.pointer (some ⟨w.heap.size + 1, 0, none⟩), .int .u8 (c : Nat)] W fun e w' => e = .returned .nilIface ∧ BS f w (l ++ [c]) w' :=
  (write_any _ _ l c W h.1 hl h.2.2).mono fun e w' ⟨he, h1, hb⟩ => ⟨he, Or.inr h1, h.2.1.trans hb, Nat.le_trans h.2.2 hb.size⟩
theorem bs_string {f : Nat → Nat} {w : World} (W : World) (l : List Nat) (s : ByteArray) (h : BS f w l W) (hl : l.length < 1000000) (hs : s.size < 1000000) :
    Calls Tryd.prog 29 #[.pointer (some ⟨w.heap.size + 1, 0, none⟩), .string s] W fun e w' => e = .returned (.tuple #[.int .i64 (s.size : Nat), .nilIface]) ∧ BS f w (l ++ nats (L s)) w' :=
  (string_any _ _ l s W h.1 hl hs h.2.2).mono fun e w' ⟨he, h1, hb⟩ => ⟨he, Or.inr h1, h.2.1.trans hb, Nat.le_trans h.2.2 hb.size⟩
theorem zeros_at8 (z : Int) (m : Nat) (hm : m ≤ 8) (hz : z = 8 - (m : Int)) (w : World) : Calls Tryd.prog 30 #[.string ⟨#[48]⟩, .int .i64 z] w fun e w' => e = .returned (.string (B (List.replicate (8 - m) 48))) ∧ Below w.heap.size w w' := by
  obtain rfl : z = ((8 - m : Nat) : Int) := by omega
  exact zeros_any _ w (by omega)
theorem index5 (f : Nat → Nat) (k : Nat) (hk : k < 5) (W : World) : (Instr.index 23 (.agg (cs .u32 f 5)) (.int .i64 (k : Nat))).run Tryd.prog W = .ok (.int .u32 (f k : Nat)) W := by
  rcases (show k = 0 ∨ k = 1 ∨ k = 2 ∨ k = 3 ∨ k = 4 by omega) with rfl | rfl | rfl | rfl | rfl <;> kernel_rfl
set_option maxHeartbeats 4000000 in
theorem text_any (f : Nat → Nat) (w : World) (hf : ∀ k, k < 5 → f k < 4294967296) (T : Tz w) : Calls Tryd.prog 17 #[.agg (cs .u32 f 5)] w fun e w' => e = .returned (.string (txt f)) ∧ Below w.heap.size w w' := by
  have HT : Hid (∀ W, Below (w.heap.size + 1) (w.alloc (.cells (cs .u32 f 5) 23)) W → Tz W) := fun W hb => T.below (btr (bal (Below.refl _ _) _) (by simpa using hb))
  go_enter Tryd.func17, Tryd.ntmps17
  go_wp2_with (refine wpList_load_row rfl 23 (.tmp 1) rfl w.heap.size rfl _ _ _ _ (hp_old (hp_new w _) _) Tryd.underlying23 rfl (szc sz5 _ _) ?_)
  go_loopw [8] (fun t W => THead f w t W) (fun t _ => 5 - (intOf t).toNat)
  case atStart =>
    refine ⟨0, by omega, rfl, ?_, ?_⟩
    · have := Lib.fresh_isBuilder 49 5 (w.alloc (.cells (cs .u32 f 5) 23))
      rw [show (w.alloc (.cells (cs .u32 f 5) 23)).heap.size = w.heap.size + 1 by simp] at this
      exact this
    · exact (Below.refl _ _).alloc (by simp) _
  case round =>
    obtain ⟨k, hk5, rfl, hB, hb⟩ := hrel
    have hbs := hb.size
    have hbs2 : w.heap.size + 1 ≤ wr.heap.size := by simpa using hbs
    by_cases hlt : k < 5
    · have hn := hf k hlt
      have c1 := fun W => index5 f k hlt W
      have b0 : BS f w (nats (txL f k)) wr := ⟨hB, hb, hbs2⟩
      have hl := txL_len f k
      have hl0 : (nats (txL f k)).length < 100 := by rw [nats_len]; omega
      have bd := nd_bd (f k)
      have E := Lib.hid (txL_more f k hn)
      obtain ⟨S, hS⟩ : ∃ S, S = B (hk (nd (f k)) (f k)) := ⟨_, rfl⟩
      have hSz : S.size = nd (f k) := by rw [hS, B_size, hk_len]
      obtain ⟨Z, hZ⟩ : ∃ Z, Z = B (List.replicate (8 - nd (f k)) 48) := ⟨_, rfl⟩
      have hZz : Z.size < 9 := by rw [hZ, B_size, List.length_replicate]; omega
      have F := Lib.hid (fun W (h : BS f w (nats (txL f k)) W ∨ BS f w (nats (txL f k) ++ [32]) W) => format_any (f k) W hn (HT.out W (by rcases h with h | h <;> exact h.2.1)))
      have RP := Lib.hid (fun W => zeros_at8 (8 - (S.size : Int)) (nd (f k)) bd.2 (by rw [hSz]) W)
      rw [← hS, ← hZ] at E
      simp only [← hS] at F
      simp only [← hZ] at RP
      have WS := Lib.hid (fun W l s h hl hs => bs_string (f := f) (w := w) W l s h hl hs)
      have bd2 : S.size ≤ 8 := by omega
      have lS : (nats (L S)).length = S.size := nats_len _
      have lZ : (nats (L Z)).length = Z.size := nats_len _
      by_cases h0 : k = 0
      · subst h0
        have c1 : ∀ W, (Instr.index 23 (.agg (cs .u32 f 5)) (.int .i64 0)).run Tryd.prog W = .ok (.int .u32 (f 0 : Nat)) W := c1
        simp only [if_true, List.append_nil] at E
        clear hS hZ bd hSz hB hb
        generalize txL f 0 = T0 at *
        go_wp2_with (first
          | (go_at_call 28; (with_reducible refine (F.out _ (Or.inl b0)).mono ?_); rintro e w1 ⟨rfl, h1⟩; have b1 := bs_call b0 h1)
          | (go_at_call 30; (with_reducible refine (RP.out _).mono ?_); rintro e w2 ⟨rfl, h2⟩; have b2 := bs_call b1 h2)
          | (go_at_call 29; (with_reducible refine (WS.out _ _ _ b2 (by omega) (by omega)).mono ?_); rintro e w3 ⟨rfl, b3⟩; clear b2)
          | (go_at_call 29; (with_reducible refine (WS.out _ _ _ b3 (by rw [List.length_append]; omega) (by omega)).mono ?_); rintro e w4 ⟨rfl, b4⟩))
        rw [E.out] at b4
        go_roundw
        case rel => exact ⟨1, by omega, rfl, b4.1, b4.2.1⟩
        case measure => simp [intOf]
      · have WB : Hid (Calls Tryd.prog 27 #[.pointer (some ⟨w.heap.size + 1, 0, none⟩), .int .u8 32] wr fun e w' => e = .returned .nilIface ∧ BS f w (nats (txL f k) ++ [32]) w') := bs_byte wr _ 32 b0 (by omega)
        rw [if_neg h0] at E
        clear hS hZ bd hSz hB hb
        go_wp2_with (first
          | (go_at_call 27; (with_reducible refine WB.out.mono ?_); rintro e w0 ⟨rfl, b5⟩)
          | (go_at_call 28; (with_reducible refine (F.out _ (Or.inr b5)).mono ?_); rintro e w1 ⟨rfl, h1⟩; have b1 := bs_call b5 h1)
          | (go_at_call 30; (with_reducible refine (RP.out _).mono ?_); rintro e w2 ⟨rfl, h2⟩; have b2 := bs_call b1 h2)
          | (go_at_call 29; (with_reducible refine (WS.out _ _ _ b2 (by rw [List.length_append, List.length_singleton]; omega) (by omega)).mono ?_); rintro e w3 ⟨rfl, b3⟩; clear b2)
          | (go_at_call 29; (with_reducible refine (WS.out _ _ _ b3 (by rw [List.length_append, List.length_append, List.length_singleton]; omega) (by omega)).mono ?_); rintro e w4 ⟨rfl, b4⟩))
        rw [E.out] at b4
        go_roundw
        case rel => exact ⟨k + 1, by omega, by go_num, b4.1, b4.2.1⟩
        case measure => simp [intOf]; omega
    · obtain rfl : k = 5 := by omega
      have ST := Lib.hid (Tryd.Builder_String_any (w.heap.size + 1) (w.heap.size + 1) (txL f 5) wr (by have := hB; unfold Bld at this; rw [bc_nats] at this; exact this) hbs2)
      go_wp2_with (go_at_call 31; (with_reducible refine ST.out.mono ?_); rintro e w1 ⟨rfl, hb1⟩)
      go_ret
      refine ⟨rfl, ?_⟩
      exact ((Below.refl _ _).alloc (Nat.le_refl _) _).trans ((hb.trans hb1).mono (by omega))
end Go.Proofs.YtfnkloecfjppeaaDoor.ntp
