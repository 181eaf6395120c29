/-
  What list.Text answers: the text of a table (ls.full), where there is one. Conditions: the listed tables hold what their initialisers lay; the library's variable MaxLen holds some number.
-/
import Derived.Test.YtldieebiicblbaaGreatDoorG20
import Derived.Test.YtldieebiicblbaaGreatDoorG21
import Derived.Test.YtldieebiicblbaaGreatDoorG22
import Derived.Test.YtldieebiicblbaaGreatDoorG12
namespace Go.Proofs.YtldieebiicblbaaGreatDoor.list
open Go.ChangeShapes Go.WideShapes Go.ChangeAt Go.RowKit
open lx ls mem
open sx (cs dig sumV word)
open sha (nats)
open bldf (Bld BldAt string_any)
open lm (Lp ce dy)
open leap (tcs Lps rl)
open nx (txt)
set_option linter.unusedVariables false
set_option maxRecDepth 100000

/-- the library's powers of ten, as they are laid. -/
def Pw (w : World) : Prop := Lib.TabIs Tryz.prog w "internal/strconv.uint64pow10" .u64 Lib.pow10Tab
theorem gPow : Tryz.prog.globalNamed "internal/strconv.uint64pow10" = some 2 := by kernel_rfl
theorem pow_size {w : World} {cs : Array Value} (h : w.var? Tryz.prog "internal/strconv.uint64pow10" = some cs) : 2 < w.heap.size := by
  rcases Nat.lt_or_ge 2 w.heap.size with hl | hl
  · exact hl
  · exfalso
    simp [World.var?, gPow, Array.getElem?_eq_none hl] at h
theorem Pw.below {w w' : World} (T : Pw w) (hb : Below w.heap.size w w') : Pw w' := var?_below hb gPow (pow_size T) T
theorem itoa_at (n : Int) (h0 : 0 ≤ n) (h1 : n ≤ 9223372036854775807) (W : World) (T : Pw W) : Calls Tryz.prog 26 #[.int .i64 n] W fun e w' => e = .returned (.string (B (ls.num n))) ∧ Below W.heap.size W w' := by
  refine (Tryz.strconv_Itoa n (by omega) h1 W T).mono ?_
  rintro e w' ⟨rfl, k, os, rfl⟩
  exact ⟨by rw [itoa_num h0]; rfl, below_grow W k os⟩

/-- a builder that the call has made, behind its table's box. -/
def WB (g : Nat) (Wa : World) (ls : List (List UInt8)) (W : World) : Prop := Bld (g) (g) (nats (byl ls)) W ∧ Below (g) Wa W ∧ g ≤ W.heap.size
theorem wb_call {g : Nat} {Wa W W' : World} {ls : List (List UInt8)} (h : WB g Wa ls W) (hb : Below W.heap.size W W') : WB g Wa ls W' := ⟨bldf.bld_below h.1 hb, h.2.1.trans (hb.mono h.2.2), Nat.le_trans h.2.2 hb.size⟩
theorem string_of {g : Nat} {Wa W : World} {ls : List (List UInt8)} (h : WB g Wa ls W) : Calls Tryz.prog 29 #[.pointer (some ⟨g, 0, none⟩)] W fun e w' => e = .returned (.string (B (byl ls))) ∧ WB g Wa ls w' :=
  (bldf.read_any g g (byl ls) W h.1 h.2.2).mono fun e w' ⟨he, h1, h2⟩ => ⟨he, h1, h.2.1.trans h2, Nat.le_trans h.2.2 h2.size⟩
theorem bytes_snoc (ls : List (List UInt8)) (a b : List UInt8) : nats (byl (ls ++ [tl a b])) = nats (byl ls) ++ nats a ++ [9] ++ nats b ++ [10] := by
  rw [bytes_app]
  unfold byl tl nats
  simp
set_option maxHeartbeats 1000000 in
theorem line_at (g : Nat) (Wa : World) (ls : List (List UInt8)) (x y : ByteArray) (W : World) (h : WB g Wa ls W) (hl : (byl ls).length ≤ 400000) (hx : x.size ≤ 100) (hy : y.size ≤ 100) :
    Calls Tryz.prog 25 #[.pointer (some ⟨g, 0, none⟩), .string x, .string y] W fun e w' => e = .returned (.tuple #[]) ∧ WB g Wa (ls ++ [tl (L x) (L y)]) w' := by
  obtain ⟨h1, h2, h3⟩ := h
  have hln : (nats (byl ls)).length ≤ 400000 := by rw [sha.nats_len]; exact hl
  have lx' : (nats (L x)).length = x.size := sha.nats_len _
  have ly : (nats (L y)).length = y.size := sha.nats_len _
  have E := Lib.hid (bytes_snoc ls (L x) (L y))
  generalize nats (byl ls) = l at *
  have SX := Lib.hid (fun W (b : Bld (g) (g) l W) (hB : g ≤ W.heap.size) => string_any (g) (g) l x W b (by omega) (by omega) hB)
  have B9 : Hid (∀ W, BldAt (g) (g) (l ++ nats (L x)) W → g ≤ W.heap.size → Calls Tryz.prog 52 #[.pointer (some ⟨g, 0, none⟩), .int .u8 9] W fun e w' => e = .returned .nilIface ∧ BldAt (g) (g) (l ++ nats (L x) ++ [9]) w' ∧ Below (g) W w') :=
    fun W b hB => bldf.write_any (g) (g) _ 9 W (Or.inr b) (by rw [List.length_append]; omega) hB
  have SY := Lib.hid (fun W (b : BldAt (g) (g) (l ++ nats (L x) ++ [9]) W) (hB : g ≤ W.heap.size) => string_any (g) (g) _ y W (Or.inr b) (by rw [List.length_append, List.length_append, List.length_singleton]; omega) (by omega) hB)
  have B10 : Hid (∀ W, BldAt (g) (g) (l ++ nats (L x) ++ [9] ++ nats (L y)) W → g ≤ W.heap.size → Calls Tryz.prog 52 #[.pointer (some ⟨g, 0, none⟩), .int .u8 10] W fun e w' => e = .returned .nilIface ∧ BldAt (g) (g) (l ++ nats (L x) ++ [9] ++ nats (L y) ++ [10]) w' ∧ Below (g) W w') :=
    fun W b hB => bldf.write_any (g) (g) _ 10 W (Or.inr b) (by rw [List.length_append, List.length_append, List.length_append, List.length_singleton]; omega) hB
  have R : Hid (∀ W', BldAt (g) (g) (l ++ nats (L x) ++ [9] ++ nats (L y) ++ [10]) W' → Below (g) W W' → WB g Wa (ls ++ [tl (L x) (L y)]) W') := fun W' b hb => ⟨by rw [E.out]; exact Or.inr b, h2.trans hb, Nat.le_trans h3 hb.size⟩
  clear E lx' ly hln hl
  generalize nats (L x) = lX at *
  generalize nats (L y) = lY at *
  go_enter Tryz.func25, Tryz.ntmps25
  go_wp2_with (first
    | (go_at_call 51; first
      | ((with_reducible refine (SX.out _ h1 h3).mono ?_); rintro e w1 ⟨rfl, b1, hb1⟩; have s1 := Nat.le_trans h3 hb1.size; clear SX)
      | ((with_reducible refine (SY.out _ b2 s2).mono ?_); rintro e w3 ⟨rfl, b3, hb3⟩; have s3 := Nat.le_trans s2 hb3.size; clear SY))
    | (go_at_call 52; first
      | ((with_reducible refine (B9.out _ b1 s1).mono ?_); rintro e w2 ⟨rfl, b2, hb2⟩; have s2 := Nat.le_trans s1 hb2.size; clear B9)
      | ((with_reducible refine (B10.out _ b3 s3).mono ?_); rintro e w4 ⟨rfl, b4, hb4⟩)))
  go_end0
  exact ⟨rfl, R.out _ b4 (((hb1.trans hb2).trans hb3).trans hb4)⟩

/-! how long a text is, and that its lines are whole -/
theorem bytes_le {ls : List (List UInt8)} {n : Nat} (h : ∀ l ∈ ls, l.length ≤ n) : (byl ls).length ≤ (n + 1) * ls.length := by
  unfold byl
  induction ls with
  | nil => simp
  | cons l ls ih =>
    have h1 := h l (by simp)
    have h2 := ih (fun x hx => h x (by simp [hx]))
    simp only [List.flatMap_cons, List.length_append, List.length_cons, List.length_nil, Nat.mul_add]
    omega
theorem num_bytes (n : Int) : ∀ c ∈ ls.num n, c ≠ 10 ∧ c ≠ 13 := fun c hc => ⟨(dg_facts (num_dg n c hc)).2.1, (dg_facts (num_dg n c hc)).2.2.1⟩
theorem fin1_mark (c : UInt8) (hc : c ≠ 10) (n : Int) : Fin1 (tl [35, c] (ls.num n)) := fin1_of (fun x hx => by
  simp only [List.mem_cons, List.not_mem_nil, or_false] at hx
  rcases hx with rfl | rfl
  · decide
  · exact hc) (num_bytes n) (num_ne n)
theorem fin1_data (a b : Int) : Fin1 (tl (ls.num a) (ls.num b)) := fin1_of (fun x hx => (num_bytes a x hx).1) (num_bytes b) (num_ne b)
theorem fin1_hd2 (has : Bool) (x stamp : Int) : ∀ l ∈ hd2 has x stamp, Fin1 l := by
  intro l hl
  unfold hd2 at hl
  cases has with
  | false =>
    simp at hl
    rcases hl with rfl | rfl
    · exact fin1_mark 36 (by decide) _
    · exact fin1_data _ _
  | true =>
    simp at hl
    rcases hl with rfl | rfl | rfl
    · exact fin1_mark 36 (by decide) _
    · exact fin1_mark 64 (by decide) _
    · exact fin1_data _ _
theorem fin1_dl (lv : List Lp) (k : Nat) : ∀ l ∈ dl lv k, Fin1 l := by
  intro l hl
  obtain ⟨i, _, rfl⟩ := List.mem_map.1 hl
  exact fin1_data _ _
theorem fin1_pre (lv : List Lp) (has : Bool) (x stamp : Int) : ∀ l ∈ pre lv has x stamp, Fin1 l := by
  intro l hl
  rcases List.mem_append.1 hl with h | h
  · exact fin1_hd2 _ _ _ l h
  · exact fin1_dl _ _ l h
theorem fin1_full (lv : List Lp) (has : Bool) (x stamp : Int) : ∀ l ∈ full lv has x stamp, Fin1 l := by
  intro l hl
  rcases List.mem_append.1 hl with h | h
  · exact fin1_pre _ _ _ _ l h
  · rw [List.mem_singleton] at h
    subst h
    exact fin1_hash (by decide) _
theorem tl_len (a b : List UInt8) : (tl a b).length = a.length + 1 + b.length := by unfold tl; rw [List.length_append, List.length_append]; rfl
theorem hd2_len {has : Bool} {x stamp : Int} (h1 : stamp ≤ 9223372036854775807) (hx : x ≤ 9000000000000000000) : (∀ l ∈ hd2 has x stamp, l.length ≤ 60) ∧ (hd2 has x stamp).length ≤ 3 := by
  have n1 := num_len h1
  have n2 := num_len (show x + 2208988800 ≤ 9223372036854775807 by omega)
  have n3 := num_len (show (2272060800 : Int) ≤ 9223372036854775807 by decide)
  have n4 := num_len (show (10 : Int) ≤ 9223372036854775807 by decide)
  refine ⟨fun l hl => ?_, ?_⟩
  · unfold hd2 at hl
    cases has <;> simp at hl
    · rcases hl with rfl | rfl <;> simp only [tl_len, List.length_cons, List.length_nil] <;> omega
    · rcases hl with rfl | rfl | rfl <;> simp only [tl_len, List.length_cons, List.length_nil] <;> omega
  · unfold hd2
    cases has <;> simp
theorem dl_len {lv : List Lp} (hg : lm.Good lv) (k : Nat) (hk : k ≤ lv.length) : (∀ l ∈ dl lv k, l.length ≤ 60) ∧ (dl lv k).length = k := by
  refine ⟨fun l hl => ?_, by unfold dl; simp⟩
  obtain ⟨i, hi, rfl⟩ := List.mem_map.1 hl
  rw [List.mem_range] at hi
  have hd := hg.day (i := i) (by omega)
  have hu := tot_up hg (i + 1) (by omega)
  have n1 := num_len (show (dy lv i + 1) * 86400 + 2208988800 ≤ 9223372036854775807 by omega)
  have n2 := num_len (show 10 + lm.tot lv (i + 1) ≤ 9223372036854775807 by omega)
  unfold dln
  rw [tl_len]
  omega
theorem part_len {lv : List Lp} {has : Bool} {x stamp : Int} (hg : lm.Good lv) (h1 : stamp ≤ 9223372036854775807) (hx : x ≤ 9000000000000000000) (k : Nat) (hk : k ≤ lv.length) : (byl (hd2 has x stamp ++ dl lv k)).length ≤ 20000 := by
  obtain ⟨a, b⟩ := hd2_len (has := has) h1 hx
  obtain ⟨c, d⟩ := dl_len hg k hk
  have hl := hg.len
  have := bytes_le (ls := hd2 has x stamp ++ dl lv k) (n := 60) (fun l hl => by
    rcases List.mem_append.1 hl with h | h
    · exact a l h
    · exact c l h)
  rw [List.length_append, d] at this
  omega
/-- what Text answers. -/
def TXold (lv : List Lp) (has : Bool) (x stamp : Int) (w : World) (e : Ending) (w' : World) : Prop :=
  Below w.heap.size w w' ∧ ((TOK lv has x stamp ∧ e = .returned (.tuple #[.string (B (byl (full lv has x stamp))), .bool true])) ∨ (¬ TOK lv has x stamp ∧ e = .returned (.tuple #[.string ⟨#[]⟩, .bool false])))
/-- at the head of a round. -/
def XHead (lv : List Lp) (has : Bool) (x stamp : Int) (g : Nat) (Wa : World) (v i : Value) (W : World) : Prop :=
  ∃ k : Nat, k ≤ lv.length ∧ v = .int .i64 (10 + lm.tot lv k) ∧ i = .int .i64 (k : Nat) ∧ WB g Wa (hd2 has x stamp ++ dl lv k) W ∧ ∀ j, j < k → rl lv j = false ∧ 0 ≤ 10 + lm.tot lv (j + 1)
theorem bld_new (w : World) : WB w.heap.size w [] (w.alloc (.cells #[.pointer none, .slice none 0 0] 64)) :=
  ⟨Lib.IsBuilderF.of (Lib.fresh_isBuilder 64 5 w), (Below.refl _ _).alloc (by simp) _, by simp⟩
set_option maxHeartbeats 4000000 in
theorem text_at (lv : List Lp) (A : Option Addr) (c : Nat) (has : Bool) (x stamp : Int) (w : World) (T : day.Tabs w) (TM : lines.ML w) (TS : sha.St w) (TP : Pw w) (TZ : ntp.Tz w) (hl : Lps w A lv) (hn : lv.length ≤ 9223372036854775807) (hs : -9223372036854775808 ≤ stamp ∧ stamp ≤ 9223372036854775807) :
    Calls Tryz.prog 8 #[.agg #[.slice A lv.length c, .bool has, .int .i64 x], .int .i64 stamp] w (TXold lv has x stamp w) := by
  have hb0 : Below w.heap.size w (w.alloc (.cells #[.slice A lv.length c, .bool has, .int .i64 x] 24)) := bal (Below.refl _ _) _
  have RN : Hid (¬ TOK lv has x stamp → ∀ W, Below w.heap.size w W → TXold lv has x stamp w (.returned (.tuple #[.string ⟨#[]⟩, .bool false])) W) := fun h W hb => ⟨hb, .inr ⟨h, rfl⟩⟩
  have RI : Hid (∀ W, Below w.heap.size w W → Calls Tryz.prog 16 #[.agg #[.slice A lv.length c, .bool has, .int .i64 x]] W fun e w' => e = .returned (.bool (ce lv has x == 0)) ∧ Below W.heap.size W w') := fun W hb => leap.right_at lv A c has x W (T.below hb) (hl.below hb) hn
  have HB0 := Lib.hid hb0
  by_cases h0 : stamp < 0
  · have R := Lib.hid (RN.out (fun h => by have := h.1; omega))
    clear RN RI T TM TS TP TZ hl hn hb0
    generalize lv.length = n at *
    go_enter Tryz.func8, Tryz.ntmps8
    go_wp2
    go_ret2
    exact R.out _ HB0.out
  by_cases hc : ce lv has x = 0
  · have hg := lm.good_of hc
    have xb := x_bd hc
    have xb2 : x ≤ 253402300799 := by cases has <;> simp at xb <;> omega
    have u : (ce lv has x == 0) = true := by simpa using hc
    rw [u] at RI
    have h0' : 0 ≤ stamp := by omega
    have hcap := hg.len
    have IT := Lib.hid (fun n (h1 : 0 ≤ n) (h2 : n ≤ 9223372036854775807) W (hb : Below w.heap.size w W) => itoa_at n h1 h2 W (TP.below hb))
    have LN := Lib.hid (fun g Wa ls X Y W h hl hx hy => line_at g Wa ls X Y W h hl hx hy)
    have nsz := fun (n : Int) (h : n ≤ 9223372036854775807) => (show (B (ls.num n)).size ≤ 100 from by rw [B_size]; have := num_len h; omega)
    have LG : Hid (∀ g Wa ls a b W, WB g Wa ls W → (byl ls).length ≤ 400000 → a.length ≤ 100 → b.length ≤ 100 → Calls Tryz.prog 25 #[.pointer (some ⟨g, 0, none⟩), .string (B a), .string (B b)] W fun e w' => e = .returned (.tuple #[]) ∧ WB g Wa (ls ++ [tl a b]) w') := fun g Wa ls a b W h hl ha hb => by
      have := line_at g Wa ls (B a) (B b) W h hl (by rw [B_size]; exact ha) (by rw [B_size]; exact hb)
      rw [L_B, L_B] at this
      exact this
    have FF : Hid (∀ w1, Below (w.alloc (.cells #[.slice A lv.length c, .bool has, .int .i64 x] 24)).heap.size (w.alloc (.cells #[.slice A lv.length c, .bool has, .int .i64 x] 24)) w1 → ∀ ls W, WB w1.heap.size w1 ls W →
        Below w.heap.size w W ∧ W.cell? ⟨w.heap.size, 0, none⟩ = some (.slice A lv.length c) ∧ W.cell? ⟨w.heap.size, 1, none⟩ = some (.bool has) ∧ W.cell? ⟨w.heap.size, 2, none⟩ = some (.int .i64 x)) := fun w1 hb1 ls W h => by
      have s1 : w.heap.size < w1.heap.size := by have := hb1.size; simp at this; omega
      have hk : W.heap[w.heap.size]? = some (.cells (tcs A lv.length c has x) 24 (0, 0)) := by
        rw [h.2.1.block w.heap.size s1]
        exact kept (hp_new w _) hb1
      obtain ⟨a0, a1, a2⟩ := leap.tcs_cells hk
      exact ⟨(btr hb0 hb1).trans (h.2.1.mono (by omega)), a0, a1, a2⟩
    have I0 := Lib.hid (IT.out stamp h0' hs.2)
    have L1 : Hid (∀ g Wa W, WB g Wa [] W → Calls Tryz.prog 25 #[.pointer (some ⟨g, 0, none⟩), .string ⟨#[35, 36]⟩, .string (B (ls.num stamp))] W fun e w' => e = .returned (.tuple #[]) ∧ WB g Wa [tl [35, 36] (ls.num stamp)] w') := fun g Wa W h => LG.out g Wa [] [35, 36] (ls.num stamp) W h (by simp [byl]) (by simp) (by have := num_len hs.2; omega)
    have I2 := Lib.hid (IT.out 2272060800 (by decide) (by decide))
    have I3 := Lib.hid (IT.out 10 (by decide) (by decide))
    have PL := fun k hk => part_len (has := has) (x := x) (stamp := stamp) hg hs.2 (by omega) k hk
    have HL := Lib.hid (fun W (hb : Below w.heap.size w W) => hl.below hb)
    have HHS : Hid (∀ ls, (∀ l ∈ ls, Fin1 l) → (byl ls).length ≤ 200000 → ∀ W, Below w.heap.size w W → Calls Tryz.prog 11 #[.string (B (byl ls))] W fun e w' => e = .returned (.agg (cs .u8 (dig (sumV (nats (hsh ls)))) 20)) ∧ Below W.heap.size W w') := fun ls hf hlen W hb => by
      have := hash_at (B (byl ls)) W (TM.below hb) (TS.below hb) (by rw [B_size]; omega)
      have e : (splitS (B (byl ls))).map L = ls := by
        unfold splitS
        rw [L_B, spl_all hf, List.map_map, show (L ∘ B) = id from funext fun l => L_B l, List.map_id]
      rw [e] at this
      exact this
    have WD := Lib.hid (fun ls W => sha.words_any (dig (sumV (nats (hsh ls)))) W (fun j _ => sx.dig_lt _ j))
    have TXT := Lib.hid (fun f (hf : ∀ k, k < 5 → f k < 4294967296) W (hb : Below w.heap.size w W) => ntp.text_any f W hf (TZ.below hb))
    have ST : Hid (∀ g Wa ls W, WB g Wa ls W → Calls Tryz.prog 29 #[.pointer (some ⟨g, 0, none⟩)] W fun e w' => e = .returned (.string (B (byl ls))) ∧ WB g Wa ls w') := fun g Wa ls W h => string_of h
    have NT : Hid (∀ p : Int, 0 ≤ p → p ≤ 9000000000000000000 → ∀ W, Calls Tryz.prog 27 #[.int .i64 p] W fun e w' => e = .returned (.tuple #[.int .i64 (p + 2208988800), .bool true]) ∧ W = w') := fun p h1 h2 W => ntp.ntp_yes p W ⟨by omega, by omega⟩
    have tok0 : True := trivial
    have tok1 : True := trivial
    have tok2 : True := trivial
    have tok3 : True := trivial
    have tok4 : True := trivial
    have tok5 : True := trivial
    have hge : 0 ≤ x := by cases has <;> simp at xb <;> omega
    have IX := Lib.hid (IT.out (x + 2208988800) (by omega) (by omega))
    have NX := Lib.hid (NT.out x hge (by omega))
    have DD := Lib.hid (fun k (hk : k < lv.length) => hg.day hk)
    have DS := Lib.hid (fun k (hk : k < lv.length) => hg.step hk)
    have DT := Lib.hid (fun k (hk : k ≤ lv.length) => tot_up hg k hk)
    have HC := Lib.hid hc
    clear hb0 T TM TS TP TZ hl hc u xb hg h0 nsz LN
    cases has with
    | false =>
      have L3 : Hid (∀ g Wa W, WB g Wa [tl [35, 36] (ls.num stamp)] W → Calls Tryz.prog 25 #[.pointer (some ⟨g, 0, none⟩), .string (B (ls.num 2272060800)), .string (B (ls.num 10))] W fun e w' => e = .returned (.tuple #[]) ∧ WB g Wa ([tl [35, 36] (ls.num stamp)] ++ [tl (ls.num 2272060800) (ls.num 10)]) w') := fun g Wa W h => LG.out g Wa _ _ _ W h (by have := num_len hs.2; have := num_len (show x + 2208988800 ≤ 9223372036854775807 by omega); simp [byl, tl]; omega) (by have := num_len (show (2272060800 : Int) ≤ 9223372036854775807 by decide); omega) (by have := num_len (show (10 : Int) ≤ 9223372036854775807 by decide); omega)
      have HD := Lib.hid (show hd2 false x stamp = [tl [35, 36] (ls.num stamp)] ++ [tl (ls.num 2272060800) (ls.num 10)] from rfl)
      go_enter Tryz.func8, Tryz.ntmps8
      go_wp2_with (first
        | (go_at_call 16; with_reducible refine (RI.out _ HB0.out).mono ?_; rintro e w1 ⟨rfl, hb1⟩; have b0 := bld_new w1; have F := Lib.hid (FF.out w1 hb1); obtain ⟨ex0, c0, c1, c2⟩ := F.out _ _ b0)
        | (go_at_call 26; have _t := tok0; with_reducible refine (I0.out _ ex0).mono ?_; rintro e w2 ⟨rfl, hb2⟩; have b1 := wb_call b0 hb2; clear tok0)
        | (go_at_call 25; have _t := tok1; with_reducible refine (L1.out _ _ _ b1).mono ?_; rintro e w3 ⟨rfl, b2⟩; clear tok1 c0 c1 c2; obtain ⟨ex2, c0, c1, c2⟩ := F.out _ _ b2)
        | (go_at_call 26; have _t := tok4; with_reducible refine (I2.out _ ex2).mono ?_; rintro e w6 ⟨rfl, hb6⟩; have b5 := wb_call b2 hb6; have ex5 := (F.out _ _ b5).1; clear tok4)
        | (go_at_call 26; have _t := tok5; with_reducible refine (I3.out _ ex5).mono ?_; rintro e w7 ⟨rfl, hb7⟩; have b6 := wb_call b5 hb7; clear tok5)
        | (go_at_call 25; with_reducible refine (L3.out _ _ _ b6).mono ?_; rintro e w8 ⟨rfl, b7⟩; clear c0 c1 c2; obtain ⟨ex7, c0, c1, c2⟩ := F.out _ _ b7))
      rw [← HD.out] at b7
      have HB7 := Lib.hid b7
      clear b7
      generalize hgg : w1.heap.size = g1 at *
      go_loopw [9, 41] (fun v i W => XHead lv false x stamp g1 w1 v i W) (fun _ i _ => lv.length - (intOf i).toNat)
      case atStart => exact ⟨0, Nat.zero_le _, rfl, rfl, by have := HB7.out; simpa [dl] using this, fun j hj => by omega⟩
      case round =>
        obtain ⟨k, hk, rfl, rfl, hB, hok⟩ := hrel
        have exr := (F.out _ _ hB).1
        by_cases hlt : k < lv.length
        · obtain ⟨b, o, rfl, hbl, hcell⟩ := HL.out _ exr (by intro e; rw [e] at hlt; simp at hlt)
          obtain ⟨x0, x1, x2⟩ := hcell k hlt
          have hd := DD.out k hlt
          have hst := DS.out k hlt
          have ht := DT.out (k + 1) hlt
          have htk := DT.out k hk
          have et : lm.tot lv (k + 1) = lm.tot lv k + lm.st lv k := rfl
          have hpl := PL k hk
          have d1 : decide ((k : Int) < (lv.length : Int)) = true := by simp; omega
          have d2 : decide (k < lv.length) = true := by simp; omega
          cases hr : rl lv k with
          | true =>
            have R := Lib.hid (RN.out (fun h => by have := (h.2.2 k hlt).1; rw [hr] at this; cases this))
            rw [hr] at x2
            have XB := Lib.hid (fun o => bal exr o)
            clear DD DS DT HL HHS WD TXT ST PL hcell hok hB HB7 F FF RN
            go_wp2
            go_ret2
            exact R.out _ (XB.out _)
          | false =>
            rw [hr] at x2
            by_cases hng : 10 + lm.tot lv (k + 1) < 0
            · have R := Lib.hid (RN.out (fun h => by have := (h.2.2 k hlt).2; omega))
              have XB := Lib.hid (fun o => bal exr o)
              rw [et] at hng
              clear DD DS DT HL HHS WD TXT ST PL hcell hok hB HB7 F FF RN
              generalize lm.tot lv k = S at *
              generalize lm.st lv k = z at *
              have wz : IntKind.i64.wrap (10 + S + z) = 10 + S + z := IntWalk.i64_in _ (by omega)
              have u1 : decide (10 + S + z < 0) = true := by simp; omega
              go_wp2
              go_ret2
              exact R.out _ (XB.out _)
            · have hB2 := Lib.hid (fun o => wb_call hB (bal (Below.refl _ _) o))
              have NP := Lib.hid (NT.out ((dy lv k + 1) * 86400) (by omega) (by omega))
              have IA := Lib.hid (IT.out ((dy lv k + 1) * 86400 + 2208988800) (by omega) (by omega))
              have IB := Lib.hid (IT.out (10 + lm.tot lv k + lm.st lv k) (by omega) (by omega))
              have LL : Hid (∀ W, WB g1 w1 (hd2 false x stamp ++ dl lv k) W → Calls Tryz.prog 25 #[.pointer (some ⟨g1, 0, none⟩), .string (B (ls.num ((dy lv k + 1) * 86400 + 2208988800))), .string (B (ls.num (10 + lm.tot lv k + lm.st lv k)))] W fun e w' => e = .returned (.tuple #[]) ∧ WB g1 w1 (hd2 false x stamp ++ dl lv (k + 1)) w') := fun W h => by
                have := LG.out g1 w1 _ (ls.num ((dy lv k + 1) * 86400 + 2208988800)) (ls.num (10 + lm.tot lv (k + 1))) W h (by omega) (by have := num_len (show (dy lv k + 1) * 86400 + 2208988800 ≤ 9223372036854775807 by omega); omega) (by have := num_len (show 10 + lm.tot lv (k + 1) ≤ 9223372036854775807 by omega); omega)
                rw [show 10 + lm.tot lv k + lm.st lv k = 10 + lm.tot lv (k + 1) by omega, dl_succ, ← List.append_assoc]
                exact this
              have FE := Lib.hid (fun W (h : WB g1 w1 (hd2 false x stamp ++ dl lv k) W) => (F.out _ W h).1)
              have RL : Hid (∀ W, WB g1 w1 (hd2 false x stamp ++ dl lv (k + 1)) W → XHead lv false x stamp g1 w1 (.int .i64 (10 + lm.tot lv k + lm.st lv k)) (.int .i64 ((k : Int) + 1)) W) := fun W h => ⟨k + 1, hlt, by rw [et]; congr 1 <;> omega, rfl, h, fun j hj => by
                rcases Nat.eq_or_lt_of_le (Nat.le_of_lt_succ hj) with rfl | g
                · exact ⟨hr, by omega⟩
                · exact hok j g⟩
              clear DD DS DT HL HHS WD TXT ST PL hcell hok hB HB7 FF RN hr LG
              rw [et] at hng ht
              clear et
              generalize lm.tot lv k = S at *
              generalize lm.st lv k = z at *
              generalize dy lv k = d at *
              have wz : IntKind.i64.wrap (10 + S + z) = 10 + S + z := IntWalk.i64_in _ (by omega)
              have u1 : decide (10 + S + z < 0) = false := by simp; omega
              have tokA : True := trivial
              go_wp2_with (first
                | (go_at_call 27; with_reducible refine (NP.out _).mono ?_; rintro e w9 ⟨rfl, rfl⟩)
                | (go_at_call 26; have _t := tokA; with_reducible refine (IA.out _ (FE.out _ (hB2.out _))).mono ?_; rintro e w2 ⟨rfl, hb2⟩; have q1 := wb_call (hB2.out _) hb2; clear tokA)
                | (go_at_call 26; with_reducible refine (IB.out _ (FE.out _ q1)).mono ?_; rintro e w3 ⟨rfl, hb3⟩; have q2 := wb_call q1 hb3)
                | (go_at_call 25; with_reducible refine (LL.out _ q2).mono ?_; rintro e w4 ⟨rfl, q3⟩))
              go_roundw
              case rel => exact RL.out _ q3
              case measure => simp [intOf]; omega
        · obtain rfl : k = lv.length := by omega
          have hTOK : TOK lv false x stamp := ⟨h0', HC.out, hok⟩
          have hpl := PL lv.length (Nat.le_refl _)
          have q0 : WB g1 w1 (pre lv false x stamp) wr := hB
          have hpre : (byl (pre lv false x stamp)).length ≤ 20000 := hpl
          have S1 := Lib.hid (fun W h => ST.out g1 w1 (pre lv false x stamp) W h)
          have H1 := Lib.hid (HHS.out (pre lv false x stamp) (fin1_pre _ _ _ _) (by omega))
          have W1 : Hid (∀ W, Calls Tryz.prog 17 #[.agg (cs .u8 (dig (sumV (nats (hsh (pre lv false x stamp))))) 20)] W fun e w' => e = .returned (.agg (cs .u32 (hq (pre lv false x stamp)) 5)) ∧ Below W.heap.size W w') := fun W => WD.out (pre lv false x stamp) W
          have T1 := Lib.hid (TXT.out (hq (pre lv false x stamp)) (fun k _ => hq_lt _ k))
          have LL : Hid (∀ W, WB g1 w1 (pre lv false x stamp) W → Calls Tryz.prog 25 #[.pointer (some ⟨g1, 0, none⟩), .string ⟨#[35, 104]⟩, .string (txt (hq (pre lv false x stamp)))] W fun e w' => e = .returned (.tuple #[]) ∧ WB g1 w1 (full lv false x stamp) w') := fun W h => by
            have h44 : (L (txt (hq (pre lv false x stamp)))).length ≤ 100 := by rw [L_len, nx.txt_size]; decide
            have := LG.out g1 w1 _ [35, 104] (L (txt (hq (pre lv false x stamp)))) W h (by omega) (by simp) h44
            rw [B_L] at this
            exact this
          have S2 := Lib.hid (fun W h => ST.out g1 w1 (full lv false x stamp) W h)
          have FE := Lib.hid (fun ls W (h : WB g1 w1 ls W) => (F.out ls W h).1)
          have R : Hid (∀ W, Below w.heap.size w W → TXold lv false x stamp w (.returned (.tuple #[.string (B (byl (full lv false x stamp))), .bool true])) W) := fun W hb => ⟨hb, .inl ⟨hTOK, rfl⟩⟩
          clear DD DS DT HL HHS WD TXT ST PL hok hB HB7 FF RN LG hpl hpre HD L1 L3 I0 I2 I3 IX IT NT
          generalize cs .u8 (dig (sumV (nats (hsh (pre lv false x stamp))))) 20 = DG at *
          generalize cs .u32 (hq (pre lv false x stamp)) 5 = WW at *
          generalize txt (hq (pre lv false x stamp)) = TT at *
          have tokS : True := trivial
          go_wp2_with (first
            | (go_at_call 29; have _t := tokS; with_reducible refine (S1.out _ q0).mono ?_; rintro e v1 ⟨rfl, q1⟩; clear tokS)
            | (go_at_call 11; with_reducible refine (H1.out _ (FE.out _ _ q1)).mono ?_; rintro e v2 ⟨rfl, hv2⟩; have q2 := wb_call q1 hv2)
            | (go_at_call 17; with_reducible refine (W1.out _).mono ?_; rintro e v3 ⟨rfl, hv3⟩; have q3 := wb_call q2 hv3)
            | (go_at_call 28; with_reducible refine (T1.out _ (FE.out _ _ q3)).mono ?_; rintro e v4 ⟨rfl, hv4⟩; have q4 := wb_call q3 hv4)
            | (go_at_call 25; with_reducible refine (LL.out _ q4).mono ?_; rintro e v5 ⟨rfl, q5⟩)
            | (go_at_call 29; with_reducible refine (S2.out _ q5).mono ?_; rintro e v6 ⟨rfl, q6⟩))
          go_ret2
          exact R.out _ (FE.out _ _ q6)
    | true =>
      have L2 : Hid (∀ g Wa W, WB g Wa [tl [35, 36] (ls.num stamp)] W → Calls Tryz.prog 25 #[.pointer (some ⟨g, 0, none⟩), .string ⟨#[35, 64]⟩, .string (B (ls.num (x + 2208988800)))] W fun e w' => e = .returned (.tuple #[]) ∧ WB g Wa ([tl [35, 36] (ls.num stamp)] ++ [tl [35, 64] (ls.num (x + 2208988800))]) w') := fun g Wa W h => LG.out g Wa [tl [35, 36] (ls.num stamp)] [35, 64] (ls.num (x + 2208988800)) W h (by have := num_len hs.2; simp [byl, tl]; omega) (by simp) (by have := num_len (show x + 2208988800 ≤ 9223372036854775807 by omega); omega)
      have L3 : Hid (∀ g Wa W, WB g Wa ([tl [35, 36] (ls.num stamp)] ++ [tl [35, 64] (ls.num (x + 2208988800))]) W → Calls Tryz.prog 25 #[.pointer (some ⟨g, 0, none⟩), .string (B (ls.num 2272060800)), .string (B (ls.num 10))] W fun e w' => e = .returned (.tuple #[]) ∧ WB g Wa (([tl [35, 36] (ls.num stamp)] ++ [tl [35, 64] (ls.num (x + 2208988800))]) ++ [tl (ls.num 2272060800) (ls.num 10)]) w') := fun g Wa W h => LG.out g Wa _ _ _ W h (by have := num_len hs.2; have := num_len (show x + 2208988800 ≤ 9223372036854775807 by omega); simp [byl, tl]; omega) (by have := num_len (show (2272060800 : Int) ≤ 9223372036854775807 by decide); omega) (by have := num_len (show (10 : Int) ≤ 9223372036854775807 by decide); omega)
      have HD := Lib.hid (show hd2 true x stamp = ([tl [35, 36] (ls.num stamp)] ++ [tl [35, 64] (ls.num (x + 2208988800))]) ++ [tl (ls.num 2272060800) (ls.num 10)] from rfl)
      go_enter Tryz.func8, Tryz.ntmps8
      go_wp2_with (first
        | (go_at_call 16; with_reducible refine (RI.out _ HB0.out).mono ?_; rintro e w1 ⟨rfl, hb1⟩; have b0 := bld_new w1; have F := Lib.hid (FF.out w1 hb1); obtain ⟨ex0, c0, c1, c2⟩ := F.out _ _ b0)
        | (go_at_call 26; have _t := tok0; with_reducible refine (I0.out _ ex0).mono ?_; rintro e w2 ⟨rfl, hb2⟩; have b1 := wb_call b0 hb2; clear tok0)
        | (go_at_call 25; have _t := tok1; with_reducible refine (L1.out _ _ _ b1).mono ?_; rintro e w3 ⟨rfl, b2⟩; clear tok1 c0 c1 c2; obtain ⟨ex2, c0, c1, c2⟩ := F.out _ _ b2)
        | (go_at_call 27; with_reducible refine (NX.out _).mono ?_; rintro e w9 ⟨rfl, rfl⟩)
        | (go_at_call 26; have _t := tok2; with_reducible refine (IX.out _ ex2).mono ?_; rintro e w4 ⟨rfl, hb4⟩; have b3 := wb_call b2 hb4; clear tok2)
        | (go_at_call 25; have _t := tok3; with_reducible refine (L2.out _ _ _ b3).mono ?_; rintro e w5 ⟨rfl, b4⟩; clear tok3 c0 c1 c2; obtain ⟨ex4, c0, c1, c2⟩ := F.out _ _ b4)
        | (go_at_call 26; have _t := tok4; with_reducible refine (I2.out _ ex4).mono ?_; rintro e w6 ⟨rfl, hb6⟩; have b5 := wb_call b4 hb6; have ex5 := (F.out _ _ b5).1; clear tok4)
        | (go_at_call 26; have _t := tok5; with_reducible refine (I3.out _ ex5).mono ?_; rintro e w7 ⟨rfl, hb7⟩; have b6 := wb_call b5 hb7; clear tok5)
        | (go_at_call 25; with_reducible refine (L3.out _ _ _ b6).mono ?_; rintro e w8 ⟨rfl, b7⟩; clear c0 c1 c2; obtain ⟨ex7, c0, c1, c2⟩ := F.out _ _ b7))
      rw [← HD.out] at b7
      have HB7 := Lib.hid b7
      clear b7
      generalize hgg : w1.heap.size = g1 at *
      go_loopw [9, 41] (fun v i W => XHead lv true x stamp g1 w1 v i W) (fun _ i _ => lv.length - (intOf i).toNat)
      case atStart => exact ⟨0, Nat.zero_le _, rfl, rfl, by have := HB7.out; simpa [dl] using this, fun j hj => by omega⟩
      case round =>
        obtain ⟨k, hk, rfl, rfl, hB, hok⟩ := hrel
        have exr := (F.out _ _ hB).1
        by_cases hlt : k < lv.length
        · obtain ⟨b, o, rfl, hbl, hcell⟩ := HL.out _ exr (by intro e; rw [e] at hlt; simp at hlt)
          obtain ⟨x0, x1, x2⟩ := hcell k hlt
          have hd := DD.out k hlt
          have hst := DS.out k hlt
          have ht := DT.out (k + 1) hlt
          have htk := DT.out k hk
          have et : lm.tot lv (k + 1) = lm.tot lv k + lm.st lv k := rfl
          have hpl := PL k hk
          have d1 : decide ((k : Int) < (lv.length : Int)) = true := by simp; omega
          have d2 : decide (k < lv.length) = true := by simp; omega
          cases hr : rl lv k with
          | true =>
            have R := Lib.hid (RN.out (fun h => by have := (h.2.2 k hlt).1; rw [hr] at this; cases this))
            rw [hr] at x2
            have XB := Lib.hid (fun o => bal exr o)
            clear DD DS DT HL HHS WD TXT ST PL hcell hok hB HB7 F FF RN
            go_wp2
            go_ret2
            exact R.out _ (XB.out _)
          | false =>
            rw [hr] at x2
            by_cases hng : 10 + lm.tot lv (k + 1) < 0
            · have R := Lib.hid (RN.out (fun h => by have := (h.2.2 k hlt).2; omega))
              have XB := Lib.hid (fun o => bal exr o)
              rw [et] at hng
              clear DD DS DT HL HHS WD TXT ST PL hcell hok hB HB7 F FF RN
              generalize lm.tot lv k = S at *
              generalize lm.st lv k = z at *
              have wz : IntKind.i64.wrap (10 + S + z) = 10 + S + z := IntWalk.i64_in _ (by omega)
              have u1 : decide (10 + S + z < 0) = true := by simp; omega
              go_wp2
              go_ret2
              exact R.out _ (XB.out _)
            · have hB2 := Lib.hid (fun o => wb_call hB (bal (Below.refl _ _) o))
              have NP := Lib.hid (NT.out ((dy lv k + 1) * 86400) (by omega) (by omega))
              have IA := Lib.hid (IT.out ((dy lv k + 1) * 86400 + 2208988800) (by omega) (by omega))
              have IB := Lib.hid (IT.out (10 + lm.tot lv k + lm.st lv k) (by omega) (by omega))
              have LL : Hid (∀ W, WB g1 w1 (hd2 true x stamp ++ dl lv k) W → Calls Tryz.prog 25 #[.pointer (some ⟨g1, 0, none⟩), .string (B (ls.num ((dy lv k + 1) * 86400 + 2208988800))), .string (B (ls.num (10 + lm.tot lv k + lm.st lv k)))] W fun e w' => e = .returned (.tuple #[]) ∧ WB g1 w1 (hd2 true x stamp ++ dl lv (k + 1)) w') := fun W h => by
                have := LG.out g1 w1 _ (ls.num ((dy lv k + 1) * 86400 + 2208988800)) (ls.num (10 + lm.tot lv (k + 1))) W h (by omega) (by have := num_len (show (dy lv k + 1) * 86400 + 2208988800 ≤ 9223372036854775807 by omega); omega) (by have := num_len (show 10 + lm.tot lv (k + 1) ≤ 9223372036854775807 by omega); omega)
                rw [show 10 + lm.tot lv k + lm.st lv k = 10 + lm.tot lv (k + 1) by omega, dl_succ, ← List.append_assoc]
                exact this
              have FE := Lib.hid (fun W (h : WB g1 w1 (hd2 true x stamp ++ dl lv k) W) => (F.out _ W h).1)
              have RL : Hid (∀ W, WB g1 w1 (hd2 true x stamp ++ dl lv (k + 1)) W → XHead lv true x stamp g1 w1 (.int .i64 (10 + lm.tot lv k + lm.st lv k)) (.int .i64 ((k : Int) + 1)) W) := fun W h => ⟨k + 1, hlt, by rw [et]; congr 1 <;> omega, rfl, h, fun j hj => by
                rcases Nat.eq_or_lt_of_le (Nat.le_of_lt_succ hj) with rfl | g
                · exact ⟨hr, by omega⟩
                · exact hok j g⟩
              clear DD DS DT HL HHS WD TXT ST PL hcell hok hB HB7 FF RN hr LG
              rw [et] at hng ht
              clear et
              generalize lm.tot lv k = S at *
              generalize lm.st lv k = z at *
              generalize dy lv k = d at *
              have wz : IntKind.i64.wrap (10 + S + z) = 10 + S + z := IntWalk.i64_in _ (by omega)
              have u1 : decide (10 + S + z < 0) = false := by simp; omega
              have tokA : True := trivial
              go_wp2_with (first
                | (go_at_call 27; with_reducible refine (NP.out _).mono ?_; rintro e w9 ⟨rfl, rfl⟩)
                | (go_at_call 26; have _t := tokA; with_reducible refine (IA.out _ (FE.out _ (hB2.out _))).mono ?_; rintro e w2 ⟨rfl, hb2⟩; have q1 := wb_call (hB2.out _) hb2; clear tokA)
                | (go_at_call 26; with_reducible refine (IB.out _ (FE.out _ q1)).mono ?_; rintro e w3 ⟨rfl, hb3⟩; have q2 := wb_call q1 hb3)
                | (go_at_call 25; with_reducible refine (LL.out _ q2).mono ?_; rintro e w4 ⟨rfl, q3⟩))
              go_roundw
              case rel => exact RL.out _ q3
              case measure => simp [intOf]; omega
        · obtain rfl : k = lv.length := by omega
          have hTOK : TOK lv true x stamp := ⟨h0', HC.out, hok⟩
          have hpl := PL lv.length (Nat.le_refl _)
          have q0 : WB g1 w1 (pre lv true x stamp) wr := hB
          have hpre : (byl (pre lv true x stamp)).length ≤ 20000 := hpl
          have S1 := Lib.hid (fun W h => ST.out g1 w1 (pre lv true x stamp) W h)
          have H1 := Lib.hid (HHS.out (pre lv true x stamp) (fin1_pre _ _ _ _) (by omega))
          have W1 : Hid (∀ W, Calls Tryz.prog 17 #[.agg (cs .u8 (dig (sumV (nats (hsh (pre lv true x stamp))))) 20)] W fun e w' => e = .returned (.agg (cs .u32 (hq (pre lv true x stamp)) 5)) ∧ Below W.heap.size W w') := fun W => WD.out (pre lv true x stamp) W
          have T1 := Lib.hid (TXT.out (hq (pre lv true x stamp)) (fun k _ => hq_lt _ k))
          have LL : Hid (∀ W, WB g1 w1 (pre lv true x stamp) W → Calls Tryz.prog 25 #[.pointer (some ⟨g1, 0, none⟩), .string ⟨#[35, 104]⟩, .string (txt (hq (pre lv true x stamp)))] W fun e w' => e = .returned (.tuple #[]) ∧ WB g1 w1 (full lv true x stamp) w') := fun W h => by
            have h44 : (L (txt (hq (pre lv true x stamp)))).length ≤ 100 := by rw [L_len, nx.txt_size]; decide
            have := LG.out g1 w1 _ [35, 104] (L (txt (hq (pre lv true x stamp)))) W h (by omega) (by simp) h44
            rw [B_L] at this
            exact this
          have S2 := Lib.hid (fun W h => ST.out g1 w1 (full lv true x stamp) W h)
          have FE := Lib.hid (fun ls W (h : WB g1 w1 ls W) => (F.out ls W h).1)
          have R : Hid (∀ W, Below w.heap.size w W → TXold lv true x stamp w (.returned (.tuple #[.string (B (byl (full lv true x stamp))), .bool true])) W) := fun W hb => ⟨hb, .inl ⟨hTOK, rfl⟩⟩
          clear DD DS DT HL HHS WD TXT ST PL hok hB HB7 FF RN LG hpl hpre HD L1 L3 I0 I2 I3 IX IT NT
          generalize cs .u8 (dig (sumV (nats (hsh (pre lv true x stamp))))) 20 = DG at *
          generalize cs .u32 (hq (pre lv true x stamp)) 5 = WW at *
          generalize txt (hq (pre lv true x stamp)) = TT at *
          have tokS : True := trivial
          go_wp2_with (first
            | (go_at_call 29; have _t := tokS; with_reducible refine (S1.out _ q0).mono ?_; rintro e v1 ⟨rfl, q1⟩; clear tokS)
            | (go_at_call 11; with_reducible refine (H1.out _ (FE.out _ _ q1)).mono ?_; rintro e v2 ⟨rfl, hv2⟩; have q2 := wb_call q1 hv2)
            | (go_at_call 17; with_reducible refine (W1.out _).mono ?_; rintro e v3 ⟨rfl, hv3⟩; have q3 := wb_call q2 hv3)
            | (go_at_call 28; with_reducible refine (T1.out _ (FE.out _ _ q3)).mono ?_; rintro e v4 ⟨rfl, hv4⟩; have q4 := wb_call q3 hv4)
            | (go_at_call 25; with_reducible refine (LL.out _ q4).mono ?_; rintro e v5 ⟨rfl, q5⟩)
            | (go_at_call 29; with_reducible refine (S2.out _ q5).mono ?_; rintro e v6 ⟨rfl, q6⟩))
          go_ret2
          exact R.out _ (FE.out _ _ q6)
  · have R := Lib.hid (RN.out (fun h => hc h.2.1))
    have u : (ce lv has x == 0) = false := by simpa using hc
    rw [u] at RI
    have h0' : 0 ≤ stamp := by omega
    clear RN T TM TS TP TZ hl hn hb0 hc u h0
    generalize lv.length = n at *
    go_enter Tryz.func8, Tryz.ntmps8
    go_wp2_with (go_at_call 16; with_reducible refine (RI.out _ HB0.out).mono ?_; rintro e w1 ⟨rfl, hb1⟩)
    go_ret2
    exact R.out _ (btr HB0.out hb1)
end Go.Proofs.YtldieebiicblbaaGreatDoor.list
