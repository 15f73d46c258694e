/- Bytes: what a slice of bytes holds, the bytes of a number, the string of bytes; what the reference's U16, U32, U64 hand back. -/
import Derived.Test.YthmpfdkbpdbhnaaProg
import Derived.WalkKit
import Derived.ProofKit
import Derived.WalkSpells
import Derived.Handy
import Derived.Deep.RegionWith
import Derived.Deep.AppendSrc
import Derived.Deep.RegionHeld3
import Derived.OwnWalk
import Derived.Laws.AppendOwnNone
import Derived.Laws.BitsAllLaws
import Derived.Laws.Bits64b
import Derived.Laws.BitsLemmas
namespace Go.Proofs.Ythmpfdkbpdbhnaa.Wd
open Go.RowKit
set_option linter.unusedVariables false
set_option linter.unusedSimpArgs false
theorem bcell {B : Nat} {W w1 : World} (hb : Below B W w1) : (∀ b o, b < B → w1.cell? ⟨b, o, none⟩ = W.cell? ⟨b, o, none⟩) ∧ (∀ b o, b < B → w1.frozen? ⟨b, o, none⟩ = W.frozen? ⟨b, o, none⟩) :=
  ⟨fun b o h => hb.cell (p := ⟨b, o, none⟩) h, fun b o h => hb.frozen (p := ⟨b, o, none⟩) h⟩
theorem cell_lt {w : World} {b o : Nat} {v : Value} (h : w.cell? ⟨b, o, none⟩ = some v) : b < w.heap.size := by
  by_cases c : b < w.heap.size
  · exact c
  · exfalso
    unfold World.cell? at h
    rw [show w.heap[b]? = none from by simp; omega] at h
    simp at h
theorem keep {W w1 : World} {b o : Nat} {v : Value} (hb : Below W.heap.size W w1) (h : W.cell? ⟨b, o, none⟩ = some v) : w1.cell? ⟨b, o, none⟩ = some v := by
  rw [(bcell hb).1 _ _ (cell_lt h)]
  exact h
theorem keepf {W w1 : World} {b o : Nat} {v : Value} (hb : Below W.heap.size W w1) (h : W.cell? ⟨b, o, none⟩ = some v) (hf : W.frozen? ⟨b, o, none⟩ = false) : w1.frozen? ⟨b, o, none⟩ = false := by
  rw [(bcell hb).2 _ _ (cell_lt h)]
  exact hf
theorem keepl {W w1 : World} {b : Nat} (hb : Below W.heap.size W w1) (h : b < W.heap.size) : b < w1.heap.size := Nat.lt_of_lt_of_le h hb.size
theorem or_nat (x y : Nat) (hx : x < 18446744073709551616) (hy : y < 18446744073709551616) : bits .or .u64 (x : Int) (y : Int) = ((x ||| y : Nat) : Int) := by
  show IntKind.u64.wrap ((BitVec.ofInt 64 (x : Int) ||| BitVec.ofInt 64 (y : Int)).toNat : Int) = _
  have h1 : (BitVec.ofInt 64 (x : Int)).toNat = x := by
    rw [BitVec.ofInt_natCast, BitVec.toNat_ofNat]; exact Nat.mod_eq_of_lt (by omega)
  have h2 : (BitVec.ofInt 64 (y : Int)).toNat = y := by
    rw [BitVec.ofInt_natCast, BitVec.toNat_ofNat]; exact Nat.mod_eq_of_lt (by omega)
  have h3 : x ||| y < 2 ^ 64 := Nat.or_lt_two_pow (by omega) (by omega)
  rw [BitVec.toNat_or, h1, h2, IntKind.wrap_u64]
  omega
theorem or_split (x y : Int) (i : Nat) (hi : i ≤ 64) (hx : 0 ≤ x) (hx' : x * 2 ^ i < 18446744073709551616) (hy : 0 ≤ y) (hy' : y < 2 ^ i) : bits .or .u64 (x * 2 ^ i) y = x * 2 ^ i + y := by
  obtain ⟨m, rfl⟩ := Int.eq_ofNat_of_zero_le hx
  obtain ⟨l, rfl⟩ := Int.eq_ofNat_of_zero_le hy
  have e : ((m : Int) * 2 ^ i) = ((m * 2 ^ i : Nat) : Int) := by rw [Int.natCast_mul, Int.natCast_pow]; rfl
  have hl : l < 2 ^ i := by
    have : ((l : Nat) : Int) < ((2 ^ i : Nat) : Int) := by rw [Int.natCast_pow]; exact hy'
    omega
  have h64 : 2 ^ i ≤ 2 ^ 64 := Nat.pow_le_pow_right (by decide) hi
  rw [e] at hx' ⊢
  rw [or_nat _ _ (by omega) (by omega), ← Nat.shiftLeft_eq, ← Nat.shiftLeft_add_eq_or_of_lt hl]
  omega
/-- The k lowest bytes of a number, the highest of them first. -/
def be : Nat → Int → List Int
  | 0, _ => []
  | k + 1, x => be k (x / 256) ++ [x % 256]
theorem be_len : ∀ (k : Nat) (x : Int), (be k x).length = k
  | 0, _ => rfl
  | k + 1, x => by simp [be, be_len k]
theorem be2 (x : Int) : be 2 x = [x / 256 % 256, x % 256] := by simp [be]
theorem be_add (j : Nat) : ∀ (k : Nat) (x : Int), be (j + k) x = be j (x / 256 ^ k) ++ be k x
  | 0, x => by simp [be]
  | k + 1, x => by
    rw [← Nat.add_assoc, be, be_add j k, be, List.append_assoc, Int.pow_succ, Int.mul_comm, Int.ediv_ediv_of_nonneg (by decide)]
theorem be_rng : ∀ (k : Nat) (x : Int) (y : Int), y ∈ be k x → 0 ≤ y ∧ y < 256
  | 0, _, _, h => by simp [be] at h
  | k + 1, x, y, h => by
    simp only [be, List.mem_append, List.mem_singleton] at h
    rcases h with h | h
    · exact be_rng k _ y h
    · omega
theorem be2_mod (x : Int) : be 2 (x % 65536) = be 2 x := by
  simp only [be2, List.cons.injEq, and_true]
  omega
theorem be4_mod (x : Int) : be 4 (x % 4294967296) = be 4 x := by
  simp [be]
  omega
theorem be8_mod (x : Int) : be 8 (x % 18446744073709551616) = be 8 x := by
  simp [be]
  omega
theorem be_22 (x : Int) : be 2 (x / 65536) ++ be 2 x = be 4 x := (be_add 2 2 x).symm
theorem be_44 (x : Int) : be 4 (x / 4294967296) ++ be 4 x = be 8 x := (be_add 4 4 x).symm
theorem be_88 (x : Int) : be 8 (x / 18446744073709551616) ++ be 8 x = be 16 x := (be_add 8 8 x).symm
/-- The slice's bytes are these. -/
def Bytes (W : World) (v : Value) (l : List Int) : Prop :=
  (v = .slice none 0 0 ∧ l = []) ∨ ∃ ad c, v = .slice (some ad) l.length c ∧ ∀ j u, (l.map (Value.int .u8))[j]? = some u → W.cell? (ad.add j) = some u
theorem info8 : (Try.prog.info? 5).map (fun i => (i.zero, i.size, i.bytes)) = some (some (.int .u8 0), 1, 1) := by kernel_rfl
theorem one8 (l : List Int) : ∀ u ∈ l.map (Value.int .u8), u.oneCell' = true := by
  intro u hu
  obtain ⟨x, _, rfl⟩ := List.mem_map.1 hu
  rfl
/-- A slice of the call's own holds these bytes. -/
def Own8 (W : World) (B : Nat) (v : Value) (l : List Int) : Prop := W.ownsRow B 5 1 v l.length (l.map (Value.int .u8))
theorem Own8.bytes {W : World} {B : Nat} {v : Value} {l : List Int} (h : Own8 W B v l) : Bytes W v l := by
  rcases h.2 with ⟨h1, h2⟩ | ⟨g, cap, cur, rfl, _⟩
  · left
    exact ⟨h1, by simpa using h2⟩
  · right
    exact ⟨⟨g, 0, none⟩, cap, rfl, World.ownsRow.cells h rfl⟩
theorem Bytes.up {W W' : World} {v : Value} {l : List Int} (h : Bytes W v l) (hb : Below W.heap.size W W') : Bytes W' v l := by
  rcases h with h | ⟨ad, c, rfl, h⟩
  · exact .inl h
  · refine .inr ⟨ad, c, rfl, fun j u hu => ?_⟩
    have h0 := h j u hu
    rw [hb.cell (p := ad.add j) (by
      unfold World.cell? at h0
      by_cases c : (ad.add j).block < W.heap.size
      · exact c
      · rw [show W.heap[(ad.add j).block]? = none from by simp; omega] at h0
        simp at h0)]
    exact h0
theorem own_new (w : World) : (w.alloc (.cells #[] 5)).ownsRow w.heap.size 5 1 (.slice (some ⟨w.heap.size, 0, none⟩) 0 0) 0 [] := by
  refine ⟨by simp, .inr ⟨w.heap.size, 0, #[], rfl, Nat.le_refl _, ?_, Nat.le_refl _, by unfold maxLen; omega, by simp, by simp⟩⟩
  show (w.heap.push _)[w.heap.size]? = _
  simp
theorem two_at (W : World) (x y : Int) : ∀ j u, ([.int .u8 x, .int .u8 y] : List Value)[j]? = some u → (W.alloc (.cells #[.int .u8 x, .int .u8 y] 5)).cell? ((⟨W.heap.size, 0, none⟩ : Addr).add j) = some u := by
  intro j u hj
  match j, hj with
  | 0, hj => simp at hj; subst hj; simp [Addr.add, go_sem]
  | 1, hj => simp at hj; subst hj; simp [Addr.add, go_sem]
theorem two_one (x y : Int) : ∀ u ∈ ([.int .u8 x, .int .u8 y] : List Value), u.oneCell' = true := by
  intro u hu
  simp at hu
  rcases hu with rfl | rfl <;> rfl
set_option maxHeartbeats 2000000 in
theorem u16_nil (x : Int) (hx : -9223372036854775808 ≤ x ∧ x ≤ 9223372036854775807) (w : World) :
    Calls Try.prog 34 #[.slice none 0 0, .int .i64 x] w fun e w' => ∃ v', e = .returned v' ∧ Own8 w' w.heap.size v' [x / 256 % 256, x % 256] ∧ Below w.heap.size w w' := by
  obtain ⟨i0, hi, hz0, hz1, hz2⟩ := info_parts info8
  go_enter Try.func34, Try.ntmps34
  go_wp2_with (first
    | (at_builtin; refine wpList_append_own_none rfl (.tmp 5) (.tmp 6) 31 rfl w.heap.size 5 i0 1 Try.underlying31 hi (.slice (some ⟨w.heap.size, 0, none⟩) 0 0) 0 [] rfl (own_new w) rfl ?_)
    | (at_builtin; refine wpList_append_own _ rfl (.tmp 7) (.tmp 13) 31 rfl w.heap.size 5 i0 (.int .u8 0) 1 1 Try.underlying31 hi hz0 hz1 hz2 rfl (by decide) (.slice (some ⟨w.heap.size, 0, none⟩) 0 0) 0 [] rfl ((own_new w).alloc _) ⟨w.heap.size + 1, 0, none⟩ 2 2 [.int .u8 (x / 256 % 256), .int .u8 (x % 256)] rfl rfl (by have := two_at (w.alloc (.cells #[] 5)) (x / 256 % 256) (x % 256); simpa using this) (two_one _ _) (by decide) (by decide) (by simp; try omega) ?_; intro v1 w1 hown hgrow hnil; have hB : Below w.heap.size w w1 := Below.grown (by go_grown) hgrow (by simp; try omega) (by intro k hk; simp [Value.ownBlock] at hk; omega)))
  refine bodyPost_ret (v := v1) (by simp [results, Try.results34, go_sem]) rfl ⟨_, rfl, by unfold Own8; simpa using hown, hB⟩
set_option maxHeartbeats 2000000 in
theorem u16_some (ad : Addr) (c : Nat) (l : List Int) (hl : l.length ≤ 1073741824) (x : Int) (hx : -9223372036854775808 ≤ x ∧ x ≤ 9223372036854775807) (w : World) (hc : ∀ j u, (l.map (Value.int .u8))[j]? = some u → w.cell? (ad.add j) = some u) :
    Calls Try.prog 34 #[.slice (some ad) l.length c, .int .i64 x] w fun e w' => ∃ v', e = .returned v' ∧ Own8 w' w.heap.size v' (l ++ [x / 256 % 256, x % 256]) ∧ Below w.heap.size w w' := by
  obtain ⟨i0, hi, hz0, hz1, hz2⟩ := info_parts info8
  have hc' : ∀ j u, (l.map (Value.int .u8))[j]? = some u → (w.alloc (.cells #[] 5)).cell? (ad.add j) = some u := by
    intro j u hu
    have h0 := hc j u hu
    have hlt : (ad.add j).block < w.heap.size := by
      unfold World.cell? at h0
      by_cases c : (ad.add j).block < w.heap.size
      · exact c
      · rw [show w.heap[(ad.add j).block]? = none from by simp; omega] at h0
        simp at h0
    rw [((Below.refl w.heap.size w).alloc (Nat.le_refl _) _).cell (p := ad.add j) hlt]
    exact h0
  have H : Hid (∀ j u, (l.map (Value.int .u8))[j]? = some u → (w.alloc (.cells #[] 5)).cell? (ad.add j) = some u) := hc'
  obtain ⟨n, en⟩ : ∃ n, l.length = n := ⟨_, rfl⟩
  have hm : (l.map (Value.int .u8)).length = n * 1 := by simp [en]
  rw [en] at hl ⊢
  clear hc hc'
  go_enter Try.func34, Try.ntmps34
  go_wp2_with (first
    | (at_builtin; refine wpList_append_own _ rfl (.tmp 5) (.tmp 6) 31 rfl w.heap.size 5 i0 (.int .u8 0) 1 1 Try.underlying31 hi hz0 hz1 hz2 rfl (by decide) (.slice (some ⟨w.heap.size, 0, none⟩) 0 0) 0 [] rfl (own_new w) ad n c (l.map (Value.int .u8)) rfl hm H.out (one8 _) (by unfold maxLen; omega) (by omega) (by simp; try omega) ?_; intro v0 w0 hown0 hgrow0 hnil0; simp only [Nat.zero_add, List.nil_append] at hown0; have hB0 : Below w.heap.size w w0 := Below.grown (by go_grown) hgrow0 (by simp; try omega) (by intro k hk; simp [Value.ownBlock] at hk; omega); have hs0 := hB0.size)
    | (at_builtin; refine wpList_append_own _ rfl (.tmp 7) (.tmp 13) 31 rfl w.heap.size 5 i0 (.int .u8 0) 1 1 Try.underlying31 hi hz0 hz1 hz2 rfl (by decide) v0 n _ rfl (hown0.alloc _) ⟨w0.heap.size, 0, none⟩ 2 2 [.int .u8 (x / 256 % 256), .int .u8 (x % 256)] rfl rfl (two_at w0 (x / 256 % 256) (x % 256)) (two_one _ _) (by unfold maxLen; omega) (by omega) (by simp; try omega) ?_; intro v1 w1 hown hgrow hnil; have hB : Below w.heap.size w w1 := Below.grown (by go_grown) hgrow (by simp; try omega) (fun k hk => (hown0.lt k hk).1)))
  refine bodyPost_ret (v := v1) (by simp [results, Try.results34, go_sem]) rfl ⟨_, rfl, by unfold Own8; simpa [en] using hown, hB⟩
theorem u16_any (v : Value) (l : List Int) (hl : l.length ≤ 1073741824) (x : Int) (hx : -9223372036854775808 ≤ x ∧ x ≤ 9223372036854775807) (w : World) (hv : Bytes w v l) :
    Calls Try.prog 34 #[v, .int .i64 x] w fun e w' => ∃ v', e = .returned v' ∧ Own8 w' w.heap.size v' (l ++ be 2 x) ∧ Below w.heap.size w w' := by
  rw [be2]
  rcases hv with ⟨rfl, rfl⟩ | ⟨ad, c, rfl, h⟩
  · exact u16_nil x hx w
  · exact u16_some ad c l hl x hx w h
theorem Own8.low {W : World} {B B' : Nat} {v : Value} {l : List Int} (h : Own8 W B v l) (hB : B' ≤ B) : Own8 W B' v l := by
  refine ⟨h.1, ?_⟩
  rcases h.2 with h | ⟨g, cap, cur, h1, h2, h3⟩
  · exact .inl h
  · exact .inr ⟨g, cap, cur, h1, Nat.le_trans hB h2, h3⟩
theorem mask16 (x : Int) (h : 0 ≤ x ∧ x < 4294967296) : bits .and .u32 x 65535 = x % 65536 := by
  rw [u32_and x 65535 h.1 h.2 (by decide) (by decide), show (65535 : Int).toNat = 2 ^ 16 - 1 from rfl, Nat.and_two_pow_sub_one_eq_mod]
  omega
theorem mask32 (x : Int) (h : 0 ≤ x ∧ x < 18446744073709551616) : bits .and .u64 x 4294967295 = x % 4294967296 := by
  rw [u64_and x 4294967295 h.1 h.2 (by decide) (by decide), show (4294967295 : Int).toNat = 2 ^ 32 - 1 from rfl, Nat.and_two_pow_sub_one_eq_mod]
  omega
set_option maxHeartbeats 1000000 in
theorem u32_any (v : Value) (l : List Int) (hl : l.length ≤ 1073741820) (x : Int) (hx : 0 ≤ x ∧ x < 4294967296) (w : World) (hv : Bytes w v l) :
    Calls Try.prog 51 #[v, .int .u32 x] w fun e w' => ∃ v', e = .returned v' ∧ Own8 w' w.heap.size v' (l ++ be 4 x) ∧ Below w.heap.size w w' := by
  have em := mask16 x hx
  have H : Hid (Bytes w v l) := hv
  clear hv
  go_enter Try.func51, Try.ntmps51
  go_wp2_with fail
  refine (u16_any v l (by omega) (x / 65536) (by omega) _ H.out).mono ?_
  rintro e w1 ⟨v1, rfl, ho1, hb1⟩
  have H1 : Hid (Own8 w1 w.heap.size v1 (l ++ be 2 (x / 65536))) := ho1
  clear ho1
  go_wp2_with fail
  refine (u16_any v1 _ (by simp [be_len]; omega) (x % 65536) (by omega) _ H1.out.bytes).mono ?_
  rintro e w2 ⟨v2, rfl, ho2, hb2⟩
  have H2 : Hid (Own8 w2 w.heap.size v2 (l ++ be 4 x)) := by
    have := ho2.low hb1.size
    rw [be2_mod, List.append_assoc, be_22] at this
    exact this
  clear ho2 em
  have hB := hb1.trans (hb2.mono hb1.size)
  go_wp2
  refine bodyPost_ret (v := v2) (by simp [results, Try.results51, go_sem]) rfl ⟨_, rfl, H2.out, hB⟩
set_option maxHeartbeats 1000000 in
theorem u64_any (v : Value) (l : List Int) (hl : l.length ≤ 1073741816) (x : Int) (hx : 0 ≤ x ∧ x < 18446744073709551616) (w : World) (hv : Bytes w v l) :
    Calls Try.prog 35 #[v, .int .u64 x] w fun e w' => ∃ v', e = .returned v' ∧ Own8 w' w.heap.size v' (l ++ be 8 x) ∧ Below w.heap.size w w' := by
  have em := mask32 x hx
  have H : Hid (Bytes w v l) := hv
  clear hv
  go_enter Try.func35, Try.ntmps35
  go_wp2_with fail
  refine (u32_any v l (by omega) (x / 4294967296) (by omega) _ H.out).mono ?_
  rintro e w1 ⟨v1, rfl, ho1, hb1⟩
  have H1 : Hid (Own8 w1 w.heap.size v1 (l ++ be 4 (x / 4294967296))) := ho1
  clear ho1
  go_wp2_with fail
  refine (u32_any v1 _ (by simp [be_len]; omega) (x % 4294967296) (by omega) _ H1.out.bytes).mono ?_
  rintro e w2 ⟨v2, rfl, ho2, hb2⟩
  have H2 : Hid (Own8 w2 w.heap.size v2 (l ++ be 8 x)) := by
    have := ho2.low hb1.size
    rw [be4_mod, List.append_assoc, be_44] at this
    exact this
  clear ho2 em
  have hB := hb1.trans (hb2.mono hb1.size)
  go_wp2
  refine bodyPost_ret (v := v2) (by simp [results, Try.results35, go_sem]) rfl ⟨_, rfl, H2.out, hB⟩
theorem up_two {W W1 : World} {b : Nat} {x0 x1 : Value} (hb : Below W.heap.size W W1) (h : W.cell? ⟨b, 0, none⟩ = some x0 ∧ W.cell? ⟨b, 1, none⟩ = some x1) : W1.cell? ⟨b, 0, none⟩ = some x0 ∧ W1.cell? ⟨b, 1, none⟩ = some x1 :=
  ⟨keep hb h.1, keep hb h.2⟩
/-- The number that so many bytes are, the highest first. -/
def val (z : Nat → Int) : Nat → Int
  | 0 => 0
  | k + 1 => val z k * 256 + z k
theorem val_lt (z : Nat → Int) (n : Nat) (hz : ∀ i, i < n → 0 ≤ z i ∧ z i < 256) : ∀ k, k ≤ n → 0 ≤ val z k ∧ val z k < 256 ^ k
  | 0, _ => by simp [val]
  | k + 1, h => by
    have h1 := val_lt z n hz k (by omega)
    have h2 := hz k (by omega)
    rw [val, Int.pow_succ]
    omega
theorem pow7 (k : Nat) (h : k < 8) : (256 : Int) ^ k ≤ 72057594037927936 := by
  match k, h with
  | 0, _ => decide
  | 1, _ => decide
  | 2, _ => decide
  | 3, _ => decide
  | 4, _ => decide
  | 5, _ => decide
  | 6, _ => decide
  | 7, _ => decide
theorem be_get : ∀ (k : Nat) (x : Int) (j : Nat), j < k → (be k x)[j]? = some (x / 256 ^ (k - 1 - j) % 256)
  | 0, _, _, h => by omega
  | k + 1, x, j, h => by
    rw [be]
    by_cases c : j < k
    · rw [List.getElem?_append_left (by rw [be_len]; exact c), be_get k _ j c, Int.ediv_ediv_of_nonneg (by decide), show k + 1 - 1 - j = k - 1 - j + 1 by omega, Int.pow_succ, Int.mul_comm]
    · obtain rfl : j = k := by omega
      rw [List.getElem?_append_right (by rw [be_len]; omega), be_len]
      simp
theorem addr0 (b j : Nat) : (⟨b, 0, none⟩ : Addr).add j = ⟨b, j, none⟩ := by
  unfold Addr.add
  split
  · rename_i h; rw [h]
  · simp
theorem val_be (z : Nat → Int) (x : Int) (hx : 0 ≤ x ∧ x < 18446744073709551616) (hz : ∀ j, j < 8 → z j = x / 256 ^ (7 - j) % 256) : val z 8 = x := by
  simp only [val]
  rw [hz 0 (by decide), hz 1 (by decide), hz 2 (by decide), hz 3 (by decide), hz 4 (by decide), hz 5 (by decide), hz 6 (by decide), hz 7 (by decide)]
  simp
  omega
theorem be_val (z : Nat → Int) : ∀ k, (∀ i, i < k → 0 ≤ z i ∧ z i < 256) → be k (val z k) = (List.range k).map z
  | 0, _ => rfl
  | k + 1, h => by
    have h1 := h k (by omega)
    rw [be, val, show (val z k * 256 + z k) / 256 = val z k by omega, show (val z k * 256 + z k) % 256 = z k by omega, be_val z k (fun i hi => h i (by omega)), List.range_succ]
    simp
/-- The string of so many bytes. -/
def str (l : List Int) : ByteArray := ⟨(l.map fun x => UInt8.ofNat x.toNat).toArray⟩
theorem conv_run {W : World} {ad : Addr} {n c : Nat} {l : List Int} (hn : l.length = n) (hl : ∀ y, y ∈ l → 0 ≤ y ∧ y < 256) (h : ∀ j u, (l.map (Value.int .u8))[j]? = some u → W.cell? (ad.add j) = some u) :
    Sem.run Try.prog (convert 31 9 (.slice (some ad) n c)) W = .ok (.string (str l)) W := by
  subst hn
  have := run_convert_bytes_back (P := Try.prog) W 31 9 5 ad c (l.map fun x => UInt8.ofNat x.toNat) Try.underlying31 Try.underlying5 Try.underlying9 (fun j hj => by
    have hj' : j < l.length := by simpa using hj
    have hr := hl _ (List.getElem_mem hj')
    have e : (((l.map fun x => UInt8.ofNat x.toNat)[j]'hj).toNat : Int) = l[j] := by
      rw [List.getElem_map, UInt8.toNat_ofNat']
      omega
    rw [e]
    exact h j _ (by simp [hj']))
  rw [List.length_map] at this
  exact this
theorem Bytes.conv {W0 : World} {ad : Addr} {n c : Nat} {l : List Int} (h : Bytes W0 (.slice (some ad) n c) l) (hn : l.length = n) (hl : ∀ y, y ∈ l → 0 ≤ y ∧ y < 256) (W : World) (hb : Below W0.heap.size W0 W) :
    Sem.run Try.prog (convert 31 9 (.slice (some ad) n c)) W = .ok (.string (str l)) W := by
  have := h.up hb
  rcases this with ⟨h1, _⟩ | ⟨ad', c', h1, h2⟩
  · cases h1
  · cases h1
    exact conv_run rfl hl h2
theorem be_byte (k : Nat) (x : Int) : ∀ y, y ∈ be k x → 0 ≤ y ∧ y < 256 := fun y hy => be_rng k x y hy
theorem below_upb {w W W1 : World} (h : Below w.heap.size w W) (hb : Below W.heap.size W W1) : Below w.heap.size w W1 := h.trans (hb.mono h.size)
end Go.Proofs.Ythmpfdkbpdbhnaa.Wd
