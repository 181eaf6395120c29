/-
  Contracts of the library's functions strconv_Itoa at this program, each one application of the kit's own theorem, laid by the kit's command. No condition beside those in the statements.
-/
import Derived.Shelf.Strings.Builder1
import Derived.Shelf.Strings.Builder2
import Derived.Shelf.Strings.BuilderF
import Derived.Shelf.Strings.BuilderK
import Derived.Shelf.Strings.Builder2Cap
import Derived.Shelf.Strconv.Itoa0
import Derived.Shelf.Strconv.Itoa1
import Derived.Shelf.LaysM
import Derived.Shelf.Strconv.Itoa2
import Derived.Shelf.Strconv.Itoa3
import Derived.Shelf.Strings.Search1
import Derived.Shelf.Strings.Search2
import Derived.Shelf.Strings.Cut
import Derived.Shelf.Strings.Shaped
import Derived.Shelf.Strings.Prefix
import Derived.Shelf.Bits.Mul64
import Derived.Shelf.Strings.Repeat
import Derived.Shelf.Strings.BuilderCap
import Derived.Test.YtldieebiicblbaaGreatDoorProg
import Derived.Test.YtldieebiicblbaaGreatDoorG05
import Derived.Test.YtldieebiicblbaaGreatDoorG12
import Derived.Test.YtldieebiicblbaaGreatDoorG13
import Derived.Lib.FrozenHead2
namespace Go.Proofs
open Go.Shelf
def Tryz.laysM171_ren : Go.Shelf.Ren := ⟨fun | 171 => 26 | 243 => 53 | 246 => 82 | 283 => 103 | 284 => 104 | 285 => 105 | 286 => 106 | 129 => 123 | 317 => 122 | 318 => 124 | 319 => 125 | 320 => 126 | 337 => 134 | 338 => 135 | n => n, fun | 3 => 3 | 9 => 9 | 2 => 2 | 4 => 4 | 171 => 134 | 0 => 0 | 53 => 99 | 37 => 62 | 5 => 5 | 173 => 137 | 212 => 152 | 51 => 42 | 20 => 20 | 213 => 153 | 46 => 85 | 232 => 163 | 233 => 104 | n => n, fun | 17 => 2 | 18 => 5 | 19 => 6 | n => n⟩
theorem Tryz.laysM171 : Go.Proofs.LaysM.n171 Tryz.prog Tryz.laysM171_ren := {
  mixed := by kernel_rfl
  f129 := Tryz.func123.trans (congrArg some (by kernel_rfl))
  f171 := Tryz.func26.trans (congrArg some (by kernel_rfl))
  f243 := Tryz.func53.trans (congrArg some (by kernel_rfl))
  f246 := Tryz.func82.trans (congrArg some (by kernel_rfl))
  f283 := Tryz.func103.trans (congrArg some (by kernel_rfl))
  f284 := Tryz.func104.trans (congrArg some (by kernel_rfl))
  f285 := Tryz.func105.trans (congrArg some (by kernel_rfl))
  f286 := Tryz.func106.trans (congrArg some (by kernel_rfl))
  f317 := Tryz.func122.trans (congrArg some (by kernel_rfl))
  f318 := Tryz.func124.trans (congrArg some (by kernel_rfl))
  f319 := Tryz.func125.trans (congrArg some (by kernel_rfl))
  f320 := Tryz.func126.trans (congrArg some (by kernel_rfl))
  f337 := Tryz.func134.trans (congrArg some (by kernel_rfl))
  f338 := Tryz.func135.trans (congrArg some (by kernel_rfl))
  t0 := Tryz.underlying0
  a0 := Tryz.isAgg0
  z0 := Tryz.sizeOf0
  v0 := Tryz.zeroValue0
  t2 := Tryz.underlying2
  a2 := Tryz.isAgg2
  z2 := Tryz.sizeOf2
  v2 := Tryz.zeroValue2
  t3 := Tryz.underlying3
  a3 := Tryz.isAgg3
  z3 := Tryz.sizeOf3
  v3 := Tryz.zeroValue3
  t4 := Tryz.underlying4
  a4 := Tryz.isAgg4
  z4 := Tryz.sizeOf4
  v4 := Tryz.zeroValue4
  t5 := Tryz.underlying5
  a5 := Tryz.isAgg5
  z5 := Tryz.sizeOf5
  v5 := Tryz.zeroValue5
  t9 := Tryz.underlying9
  a9 := Tryz.isAgg9
  z9 := Tryz.sizeOf9
  v9 := Tryz.zeroValue9
  t20 := Tryz.underlying20
  a20 := Tryz.isAgg20
  z20 := Tryz.sizeOf20
  v20 := Tryz.zeroValue20
  t37 := Tryz.underlying62
  a37 := Tryz.isAgg62
  z37 := Tryz.sizeOf62
  v37 := Tryz.zeroValue62
  t46 := Tryz.underlying85
  a46 := Tryz.isAgg85
  z46 := Tryz.sizeOf85
  v46 := Tryz.zeroValue85
  t51 := Tryz.underlying42
  a51 := Tryz.isAgg42
  z51 := Tryz.sizeOf42
  v51 := Tryz.zeroValue42
  t53 := Tryz.underlying99
  a53 := Tryz.isAgg99
  z53 := Tryz.sizeOf99
  v53 := Tryz.zeroValue99
  t171 := Tryz.underlying134
  a171 := Tryz.isAgg134
  z171 := Tryz.sizeOf134
  v171 := Tryz.zeroValue134
  t173 := Tryz.underlying137
  a173 := Tryz.isAgg137
  z173 := Tryz.sizeOf137
  v173 := Tryz.zeroValue137
  t212 := Tryz.underlying152
  a212 := Tryz.isAgg152
  z212 := Tryz.sizeOf152
  v212 := Tryz.zeroValue152
  t213 := Tryz.underlying153
  a213 := Tryz.isAgg153
  z213 := Tryz.sizeOf153
  t232 := Tryz.underlying163
  a232 := Tryz.isAgg163
  z232 := Tryz.sizeOf163
  v232 := Tryz.zeroValue163
  t233 := Tryz.underlying104
  a233 := Tryz.isAgg104
  z233 := Tryz.sizeOf104
  v233 := Tryz.zeroValue104
  g17 := by kernel_rfl
  g18 := by kernel_rfl
  g19 := by kernel_rfl
  i0 := by kernel_rfl
  i2 := by kernel_rfl
  i3 := by kernel_rfl
  i4 := by kernel_rfl
  i5 := by kernel_rfl
  i9 := by kernel_rfl
  i20 := by kernel_rfl
  i37 := by kernel_rfl
  i46 := by kernel_rfl
  i51 := by kernel_rfl
  i53 := by kernel_rfl
  i171 := by kernel_rfl
  i173 := by kernel_rfl
  i212 := by kernel_rfl
  i232 := by kernel_rfl
  i233 := by kernel_rfl
  m17 := by kernel_rfl
  m18 := by kernel_rfl
  m19 := by kernel_rfl }
open Go.RowKit Go.Sort Go.Lib in
theorem Tryz.strconv_Itoa (n : Int) (h0 : -9223372036854775808 ≤ n) (h1 : n ≤ 9223372036854775807) (w : World) (htab : Lib.TabIs Tryz.prog w "internal/strconv.uint64pow10" .u64 Lib.pow10Tab) :
    Calls Tryz.prog 26 #[.int .i64 n] w fun e w' => e = .returned (.string ⟨(Lib.itoa n).toArray⟩) ∧ ∃ k os, w' = grow (w.drewN k) os := Any.strconv_Itoa Tryz.laysM171 n h0 h1 w htab
def Tryz.lays171_ren : Go.Shelf.Ren := ⟨fun | 171 => 26 | 243 => 53 | 246 => 82 | 283 => 103 | 284 => 104 | 285 => 105 | 286 => 106 | 129 => 123 | 317 => 122 | 318 => 124 | 319 => 125 | 320 => 126 | 337 => 134 | 338 => 135 | n => n, fun | 3 => 3 | 9 => 9 | 2 => 2 | 4 => 4 | 171 => 134 | 0 => 0 | 53 => 99 | 37 => 62 | 5 => 5 | 173 => 137 | 212 => 152 | 51 => 42 | 20 => 20 | 213 => 153 | 46 => 85 | 232 => 163 | 233 => 104 | n => n, fun | 17 => 2 | 18 => 5 | 19 => 6 | n => n⟩
theorem Tryz.lays171 : Go.Proofs.Lays.n171 Tryz.prog Tryz.lays171_ren := {
  mixed := by kernel_rfl
  f129 := Tryz.func123.trans (congrArg some (by kernel_rfl))
  f171 := Tryz.func26.trans (congrArg some (by kernel_rfl))
  f243 := Tryz.func53.trans (congrArg some (by kernel_rfl))
  f246 := Tryz.func82.trans (congrArg some (by kernel_rfl))
  f283 := Tryz.func103.trans (congrArg some (by kernel_rfl))
  f284 := Tryz.func104.trans (congrArg some (by kernel_rfl))
  f285 := Tryz.func105.trans (congrArg some (by kernel_rfl))
  f286 := Tryz.func106.trans (congrArg some (by kernel_rfl))
  f317 := Tryz.func122.trans (congrArg some (by kernel_rfl))
  f318 := Tryz.func124.trans (congrArg some (by kernel_rfl))
  f319 := Tryz.func125.trans (congrArg some (by kernel_rfl))
  f320 := Tryz.func126.trans (congrArg some (by kernel_rfl))
  f337 := Tryz.func134.trans (congrArg some (by kernel_rfl))
  f338 := Tryz.func135.trans (congrArg some (by kernel_rfl))
  t0 := Tryz.underlying0
  a0 := Tryz.isAgg0
  z0 := Tryz.sizeOf0
  v0 := Tryz.zeroValue0
  t2 := Tryz.underlying2
  a2 := Tryz.isAgg2
  z2 := Tryz.sizeOf2
  v2 := Tryz.zeroValue2
  t3 := Tryz.underlying3
  a3 := Tryz.isAgg3
  z3 := Tryz.sizeOf3
  v3 := Tryz.zeroValue3
  t4 := Tryz.underlying4
  a4 := Tryz.isAgg4
  z4 := Tryz.sizeOf4
  v4 := Tryz.zeroValue4
  t5 := Tryz.underlying5
  a5 := Tryz.isAgg5
  z5 := Tryz.sizeOf5
  v5 := Tryz.zeroValue5
  t9 := Tryz.underlying9
  a9 := Tryz.isAgg9
  z9 := Tryz.sizeOf9
  v9 := Tryz.zeroValue9
  t20 := Tryz.underlying20
  a20 := Tryz.isAgg20
  z20 := Tryz.sizeOf20
  v20 := Tryz.zeroValue20
  t37 := Tryz.underlying62
  a37 := Tryz.isAgg62
  z37 := Tryz.sizeOf62
  v37 := Tryz.zeroValue62
  t46 := Tryz.underlying85
  a46 := Tryz.isAgg85
  z46 := Tryz.sizeOf85
  v46 := Tryz.zeroValue85
  t51 := Tryz.underlying42
  a51 := Tryz.isAgg42
  z51 := Tryz.sizeOf42
  v51 := Tryz.zeroValue42
  t53 := Tryz.underlying99
  a53 := Tryz.isAgg99
  z53 := Tryz.sizeOf99
  v53 := Tryz.zeroValue99
  t171 := Tryz.underlying134
  a171 := Tryz.isAgg134
  z171 := Tryz.sizeOf134
  v171 := Tryz.zeroValue134
  t173 := Tryz.underlying137
  a173 := Tryz.isAgg137
  z173 := Tryz.sizeOf137
  v173 := Tryz.zeroValue137
  t212 := Tryz.underlying152
  a212 := Tryz.isAgg152
  z212 := Tryz.sizeOf152
  v212 := Tryz.zeroValue152
  t213 := Tryz.underlying153
  a213 := Tryz.isAgg153
  z213 := Tryz.sizeOf153
  t232 := Tryz.underlying163
  a232 := Tryz.isAgg163
  z232 := Tryz.sizeOf163
  v232 := Tryz.zeroValue163
  t233 := Tryz.underlying104
  a233 := Tryz.isAgg104
  z233 := Tryz.sizeOf104
  v233 := Tryz.zeroValue104
  g17 := by kernel_rfl
  g18 := by kernel_rfl
  g19 := by kernel_rfl }
open Go.RowKit Go.Sort Go.Lib in
theorem Tryz.strconv_Itoa_small (i : Nat) (hi : i < 100) (w : World) :
    Calls Tryz.prog 26 #[.int .i64 i] w fun e w' => e = .returned (.string ⟨(Lib.decDigits i).toArray⟩) ∧ w' = w := Any.strconv_Itoa_small Tryz.lays171 i hi w
end Go.Proofs

/-
  A builder that is written, read, and written on: WriteByte, WriteString and String of one whose bytes may have been read before. Conditions: as said.
-/
namespace Go.Proofs.YtldieebiicblbaaGreatDoor.bldf
open Go.ChangeShapes Go.WideShapes Go.ChangeAt Go.RowKit
open lx mem
open sha (nats bc infoB bc_one bc_len bc_nats nats_len wrote check_fresh check_used)
set_option linter.unusedVariables false
set_option maxRecDepth 100000

def Own (base : Nat) (W : World) (v : Value) (l : List Nat) : Prop := W.ownsRowF base 5 1 v l.length (bc l)
def Bld (B b : Nat) (l : List Nat) (w : World) : Prop := Lib.IsBuilderF 64 5 B b (bc l) w
def BldAt (B b : Nat) (l : List Nat) (w : World) : Prop := Lib.BuilderAtF 64 5 B b (.pointer (some ⟨b, 0, none⟩)) (bc l) w
theorem own_lt {base : Nat} {W : World} {v : Value} {l : List Nat} (h : Own base W v l) (k : Nat) (hk : v.ownBlock = some k) : base ≤ k := by
  rcases h.2 with ⟨rfl, _⟩ | ⟨g, cap, cur, fz, rfl, hb, _⟩
  · cases hk
  · cases hk
    exact hb
theorem own_below {base : Nat} {w W W' : World} {v : Value} {l : List Nat} (ho : Own base W v l) (hb : Below base w W) (hbs : base ≤ W.heap.size) (hg : W.grownBy W' v.ownBlock) : Below base w W' := hb.grown hg hbs (fun k hk => own_lt ho k hk)
theorem own_keep {base : Nat} {v : Value} {l : List Nat} {W W' : World} (h : Own base W v l) (hb : Below W.heap.size W W') : Own base W' v l := by
  refine ⟨h.1, ?_⟩
  rcases h.2 with h | ⟨g, cap, c, fz, hv, hb0, hh, r⟩
  · exact .inl h
  · exact .inr ⟨g, cap, c, fz, hv, hb0, kept hh hb, r⟩
theorem at_below {B b : Nat} {p : Value} {l : List Nat} {W W' : World} (h : Lib.BuilderAtF 64 5 B b p (bc l) W) (hb : Below W.heap.size W W') : Lib.BuilderAtF 64 5 B b p (bc l) W' := by
  obtain ⟨hB, v, hbk, hown, hne⟩ := h
  rw [bc_len] at hown
  refine ⟨hB, v, kept hbk hb, ?_, hne⟩
  rw [bc_len]
  exact own_keep hown hb
theorem bld_below {B b : Nat} {l : List Nat} {W W' : World} (h : Bld B b l W) (hb : Below W.heap.size W W') : Bld B b l W' := by
  rcases h with h | h
  · exact Or.inl (at_below h hb)
  · exact Or.inr (at_below h hb)
theorem app_byte {ops : Array Oper} {rest : List Oper} {o : Oper} {a : Act} {Q : Exit → Act → World → Prop} (hgd : o.guard = none) (s x : Operand)
    (ho : o.op = .call { callee := .builtin .append, args := #[s, x], argTypes := #[62, 62] }) (base : Nat) (W : World) (v : Value) (l : List Nat) (c : Nat) (z : Int) (hz : z = (c : Nat))
    (hs : a.eval s = v) (hx : a.eval x = .slice (some ⟨W.heap.size, 0, none⟩) 1 1) (hown : Own base W v l) (hn : l.length < 8000000000000) (hbase : base ≤ W.heap.size)
    (h : ∀ g cap w', Own base w' (.slice (some ⟨g, 0, none⟩) (l ++ [c]).length cap) (l ++ [c]) → W.grownBy w' v.ownBlock → wpList Tryz.prog ops Q rest (a.put o.dst (.slice (some ⟨g, 0, none⟩) (l ++ [c]).length cap)) w') :
    wpList Tryz.prog ops Q (o :: rest) a (W.alloc (.cells #[.int .u8 z] 5)) := by
  subst hz
  obtain ⟨i0, hi, hz0, hz1, hz2⟩ := info_parts infoB
  refine wpList_append_ownF _ hgd s x 62 ho base 5 i0 _ 1 1 Tryz.underlying62 hi hz0 hz1 hz2 rfl (by decide) v l.length (bc l) hs (own_keep hown (bal (Below.refl _ _) _)) ⟨W.heap.size, 0, none⟩ 1 1 (bc [c]) hx rfl (cell_one_new _ _ _) (bc_one [c]) ?_ (by omega) (by simp; omega) ?_
  · unfold maxLen; omega
  · intro v' w' h1 h2 _
    have e : bc (l ++ [c]) = bc l ++ bc [c] := by unfold bc; simp
    have h1' : Own base w' v' (l ++ [c]) := by
      unfold Own
      rw [e, List.length_append]
      exact h1
    obtain ⟨g, cap, rfl⟩ : ∃ g cap, v' = .slice (some ⟨g, 0, none⟩) (l ++ [c]).length cap := by
      rcases h1'.2 with ⟨_, k⟩ | ⟨g, cap, cur, fz, k, _⟩
      · simp at k
      · exact ⟨g, cap, k⟩
    exact h g cap w' h1' ((World.grownBy_alloc W _ _).trans h2)
theorem app_str {ops : Array Oper} {rest : List Oper} {o : Oper} {a : Act} {Q : Exit → Act → World → Prop} (hgd : o.guard = none) (sl x : Operand)
    (ho : o.op = .call { callee := .builtin .append, args := #[sl, x], argTypes := #[62, 9] }) (base : Nat) (W : World) (v : Value) (l : List Nat) (s : ByteArray)
    (hs : a.eval sl = v) (hx : a.eval x = .string s) (hown : Own base W v l) (hn : l.length + s.size < 8000000000000) (hbase : base ≤ W.heap.size)
    (h : ∀ A cap w', Own base w' (.slice A (l ++ nats (L s)).length cap) (l ++ nats (L s)) → W.grownBy w' v.ownBlock → wpList Tryz.prog ops Q rest (a.put o.dst (.slice A (l ++ nats (L s)).length cap)) w') :
    wpList Tryz.prog ops Q (o :: rest) a W := by
  obtain ⟨i0, hi, hz0, hz1, hz2⟩ := info_parts infoB
  refine Lib.wpList_append_own_stringF _ hgd sl x 62 9 ho base 5 i0 Tryz.underlying62 Tryz.underlying9 hi hz0 hz1 hz2 v l.length (bc l) hs hown s hx (by unfold maxLen; omega) (by omega) hbase ?_
  intro v' w' h1 h2 _
  have h1' : Own base w' v' (l ++ nats (L s)) := by
    unfold Own
    rw [ntp.bc_app, List.length_append, nats_len, L_len, ← ntp.str_bc]
    exact h1
  obtain ⟨A, cap, rfl⟩ : ∃ A cap, v' = .slice A (l ++ nats (L s)).length cap := by
    rcases h1'.2 with ⟨k, z⟩ | ⟨g, cap, cur, fz, k, _⟩
    · exact ⟨none, 0, by rw [z]; exact k⟩
    · exact ⟨_, cap, k⟩
  exact h A cap w' h1' h2
theorem check_any (B b : Nat) (l : List Nat) (w : World) (h : Bld B b l w) :
    Calls Tryz.prog 81 #[.pointer (some ⟨b, 0, none⟩)] w fun e w' => e = .returned (.tuple #[]) ∧ BldAt B b l w' ∧ Below B w w' := by
  rcases h with h | h
  · exact (check_fresh b w h.cell0 h.shape h.frozen0).mono fun e w' ⟨he, hw⟩ => ⟨he, by rw [hw]; exact h.used _, by rw [hw]; exact (Below.refl B w).setCell (p := ⟨b, 0, none⟩) h.1 _⟩
  · exact (check_used b w h.cell0).mono fun e w' ⟨he, hw⟩ => ⟨he, by rw [← hw]; exact h, by rw [← hw]; exact Below.refl _ _⟩
theorem opened {B b : Nat} {l : List Nat} {w1 : World} (h1 : BldAt B b l w1) : B ≤ b ∧ ∃ v, w1.cell? ⟨b, 0, none⟩ = some (.pointer (some ⟨b, 0, none⟩)) ∧ w1.cell? ⟨b, 1, none⟩ = some v ∧ Hid (Own B w1 v l) ∧ Hid (w1.heap[b]? = some (.cells #[.pointer (some ⟨b, 0, none⟩), v] 64 (0, 0))) ∧ Hid (v.ownBlock ≠ some b) := by
  obtain ⟨hBb, v, hbk, hown, hne⟩ := h1
  rw [bc_len] at hown
  exact ⟨hBb, v, row_cell hbk 0, row_cell hbk 1, hown, hbk, hne⟩
theorem put_at {B b : Nat} {w2 : World} {v v' : Value} {l : List Nat} (hB : B ≤ b) (hbk : w2.heap[b]? = some (.cells #[.pointer (some ⟨b, 0, none⟩), v] 64 (0, 0))) (ho : Own B w2 v' l) : BldAt B b l (w2.setCell ⟨b, 1, none⟩ v') :=
  Lib.BuilderAtF.put hB hbk (by rw [bc_len]; exact ho) (by decide)
set_option maxHeartbeats 1000000 in
theorem write_any (B b : Nat) (l : List Nat) (c : Nat) (w : World) (h : Bld B b l w) (hl : l.length < 1000000) (hB : B ≤ w.heap.size) :
    Calls Tryz.prog 52 #[.pointer (some ⟨b, 0, none⟩), .int .u8 (c : Nat)] w fun e w' => e = .returned .nilIface ∧ BldAt B b (l ++ [c]) w' ∧ Below B w w' := by
  have C := Lib.hid (check_any B b l w h)
  clear h
  go_enter Tryz.func52, Tryz.ntmps52
  go_wp2_with (first
    | (go_at_call 81; (with_reducible refine C.out.mono ?_); rintro e w1 ⟨rfl, h1, hb1⟩; obtain ⟨hBb, v, c0, c1, HO, HK, HN⟩ := opened h1; have hs1 := hb1.size)
    | (at_builtin; refine app_byte rfl _ _ rfl B w1 v l c (c : Nat) rfl rfl rfl HO.out (by omega) (by omega) ?_; intro g cap w2 ho2 hg2; obtain ⟨K2, d0, d1, f1⟩ := wrote HK.out HN.out hg2))
  go_ret
  exact ⟨rfl, put_at hBb K2.out (by rw [List.length_append] at ho2; exact ho2), (own_below HO.out hb1 (by omega) hg2).setCell (p := ⟨b, 1, none⟩) hBb _⟩
set_option maxHeartbeats 1000000 in
theorem string_any (B b : Nat) (l : List Nat) (s : ByteArray) (w : World) (h : Bld B b l w) (hl : l.length < 1000000) (hs : s.size < 1000000) (hB : B ≤ w.heap.size) :
    Calls Tryz.prog 51 #[.pointer (some ⟨b, 0, none⟩), .string s] w fun e w' => e = .returned (.tuple #[.int .i64 (s.size : Nat), .nilIface]) ∧ BldAt B b (l ++ nats (L s)) w' ∧ Below B w w' := by
  have C := Lib.hid (check_any B b l w h)
  clear h
  go_enter Tryz.func51, Tryz.ntmps51
  go_wp2_with (first
    | (go_at_call 81; (with_reducible refine C.out.mono ?_); rintro e w1 ⟨rfl, h1, hb1⟩; obtain ⟨hBb, v, c0, c1, HO, HK, HN⟩ := opened h1; have hs1 := hb1.size)
    | (at_builtin; refine app_str rfl _ _ rfl B w1 v l s rfl rfl HO.out (by omega) (by omega) ?_; intro A2 cap2 w2 ho2 hg2; obtain ⟨K2, d0, d1, f1⟩ := wrote HK.out HN.out hg2))
  go_ret2
  exact ⟨rfl, put_at hBb K2.out (by simpa using ho2), (own_below HO.out hb1 (by omega) hg2).setCell (p := ⟨b, 1, none⟩) hBb _⟩
theorem read_any (B b : Nat) (l : List UInt8) (w : World) (h : Bld B b (nats l) w) (hB : B ≤ w.heap.size) :
    Calls Tryz.prog 29 #[.pointer (some ⟨b, 0, none⟩)] w fun e w' => e = .returned (.string (lx.B l)) ∧ Bld B b (nats l) w' ∧ Below B w w' := by
  unfold Bld at h ⊢
  rw [bc_nats] at h ⊢
  exact Tryz.Builder_String_any_f B b l w h hB
end Go.Proofs.YtldieebiicblbaaGreatDoor.bldf
