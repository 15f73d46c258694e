/- The reference's bytes: what U16, U32, U64, WPut hand back. -/
import Derived.Test.YtdbndpcbejofkaaDoorWideA
import Derived.Test.YtdbndpcbejofkaaDoorWideC
import Derived.Deep.AppendSrc
import Derived.Deep.RegionHeld3
import Derived.OwnWalk
import Derived.Laws.AppendOwnNone
import Derived.Laws.BitsAllLaws
namespace Go.Proofs.YtdbndpcbejofkaaDoor.Wd
open Go.RowKit Fx
set_option linter.unusedVariables false
set_option linter.unusedSimpArgs false
/-- The k lowest bytes of a number, the highest of them first. -/
def be : Nat → Int → List Int
  | 0, _ => []
  | k + 1, x => be k (x / 256) ++ [x % 256]
theorem be_len : ∀ (k : Nat) (x : Int), (be k x).length = k
  | 0, _ => rfl
  | k + 1, x => by simp [be, be_len k]
theorem be2 (x : Int) : be 2 x = [x / 256 % 256, x % 256] := by simp [be]
theorem be_add (j : Nat) : ∀ (k : Nat) (x : Int), be (j + k) x = be j (x / 256 ^ k) ++ be k x
  | 0, x => by simp [be]
  | k + 1, x => by
    rw [← Nat.add_assoc, be, be_add j k, be, List.append_assoc, Int.pow_succ, Int.mul_comm, Int.ediv_ediv_of_nonneg (by decide)]
theorem be_rng : ∀ (k : Nat) (x : Int) (y : Int), y ∈ be k x → 0 ≤ y ∧ y < 256
  | 0, _, _, h => by simp [be] at h
  | k + 1, x, y, h => by
    simp only [be, List.mem_append, List.mem_singleton] at h
    rcases h with h | h
    · exact be_rng k _ y h
    · omega
theorem be2_mod (x : Int) : be 2 (x % 65536) = be 2 x := by
  simp only [be2, List.cons.injEq, and_true]
  omega
theorem be4_mod (x : Int) : be 4 (x % 4294967296) = be 4 x := by
  simp [be]
  omega
theorem be8_mod (x : Int) : be 8 (x % 18446744073709551616) = be 8 x := by
  simp [be]
  omega
theorem be_22 (x : Int) : be 2 (x / 65536) ++ be 2 x = be 4 x := (be_add 2 2 x).symm
theorem be_44 (x : Int) : be 4 (x / 4294967296) ++ be 4 x = be 8 x := (be_add 4 4 x).symm
theorem be_88 (x : Int) : be 8 (x / 18446744073709551616) ++ be 8 x = be 16 x := (be_add 8 8 x).symm
/-- The slice's bytes are these. -/
def Bytes (W : World) (v : Value) (l : List Int) : Prop :=
  (v = .slice none 0 0 ∧ l = []) ∨ ∃ ad c, v = .slice (some ad) l.length c ∧ ∀ j u, (l.map (Value.int .u8))[j]? = some u → W.cell? (ad.add j) = some u
theorem info8 : (Tryd.prog.info? 5).map (fun i => (i.zero, i.size, i.bytes)) = some (some (.int .u8 0), 1, 1) := by kernel_rfl
theorem one8 (l : List Int) : ∀ u ∈ l.map (Value.int .u8), u.oneCell' = true := by
  intro u hu
  obtain ⟨x, _, rfl⟩ := List.mem_map.1 hu
  rfl
/-- A slice of the call's own holds these bytes. -/
def Own8 (W : World) (B : Nat) (v : Value) (l : List Int) : Prop := W.ownsRow B 5 1 v l.length (l.map (Value.int .u8))
theorem Own8.bytes {W : World} {B : Nat} {v : Value} {l : List Int} (h : Own8 W B v l) : Bytes W v l := by
  rcases h.2 with ⟨h1, h2⟩ | ⟨g, cap, cur, rfl, _⟩
  · left
    exact ⟨h1, by simpa using h2⟩
  · right
    exact ⟨⟨g, 0, none⟩, cap, rfl, World.ownsRow.cells h rfl⟩
theorem Bytes.up {W W' : World} {v : Value} {l : List Int} (h : Bytes W v l) (hb : Below W.heap.size W W') : Bytes W' v l := by
  rcases h with h | ⟨ad, c, rfl, h⟩
  · exact .inl h
  · refine .inr ⟨ad, c, rfl, fun j u hu => ?_⟩
    have h0 := h j u hu
    rw [hb.cell (p := ad.add j) (by
      unfold World.cell? at h0
      by_cases c : (ad.add j).block < W.heap.size
      · exact c
      · rw [show W.heap[(ad.add j).block]? = none from by simp; omega] at h0
        simp at h0)]
    exact h0
theorem own_new (w : World) : (w.alloc (.cells #[] 5)).ownsRow w.heap.size 5 1 (.slice (some ⟨w.heap.size, 0, none⟩) 0 0) 0 [] := by
  refine ⟨by simp, .inr ⟨w.heap.size, 0, #[], rfl, Nat.le_refl _, ?_, Nat.le_refl _, by unfold maxLen; omega, by simp, by simp⟩⟩
  show (w.heap.push _)[w.heap.size]? = _
  simp
theorem two_at (W : World) (x y : Int) : ∀ j u, ([.int .u8 x, .int .u8 y] : List Value)[j]? = some u → (W.alloc (.cells #[.int .u8 x, .int .u8 y] 5)).cell? ((⟨W.heap.size, 0, none⟩ : Addr).add j) = some u := by
  intro j u hj
  match j, hj with
  | 0, hj => simp at hj; subst hj; simp [Addr.add, go_sem]
  | 1, hj => simp at hj; subst hj; simp [Addr.add, go_sem]
theorem two_one (x y : Int) : ∀ u ∈ ([.int .u8 x, .int .u8 y] : List Value), u.oneCell' = true := by
  intro u hu
  simp at hu
  rcases hu with rfl | rfl <;> rfl
set_option maxHeartbeats 2000000 in
theorem u16_nil (x : Int) (hx : InR x) (w : World) :
    Calls Tryd.prog 74 #[.slice none 0 0, .int .i64 x] w fun e w' => ∃ v', e = .returned v' ∧ Own8 w' w.heap.size v' [x / 256 % 256, x % 256] ∧ Below w.heap.size w w' := by
  obtain ⟨i0, hi, hz0, hz1, hz2⟩ := info_parts info8
  unfold InR at hx
  go_enter Tryd.func74, Tryd.ntmps74
  go_wp2_with (first
    | (at_builtin; refine wpList_append_own_none rfl (.tmp 5) (.tmp 6) 29 rfl w.heap.size 5 i0 1 Tryd.underlying29 hi (.slice (some ⟨w.heap.size, 0, none⟩) 0 0) 0 [] rfl (own_new w) rfl ?_)
    | (at_builtin; refine wpList_append_own _ rfl (.tmp 7) (.tmp 13) 29 rfl w.heap.size 5 i0 (.int .u8 0) 1 1 Tryd.underlying29 hi hz0 hz1 hz2 rfl (by decide) (.slice (some ⟨w.heap.size, 0, none⟩) 0 0) 0 [] rfl ((own_new w).alloc _) ⟨w.heap.size + 1, 0, none⟩ 2 2 [.int .u8 (x / 256 % 256), .int .u8 (x % 256)] rfl rfl (by have := two_at (w.alloc (.cells #[] 5)) (x / 256 % 256) (x % 256); simpa using this) (two_one _ _) (by decide) (by decide) (by simp; try omega) ?_; intro v1 w1 hown hgrow hnil; have hB : Below w.heap.size w w1 := Below.grown (by go_grown) hgrow (by simp; try omega) (by intro k hk; simp [Value.ownBlock] at hk; omega)))
  refine bodyPost_ret (v := v1) (by simp [results, Tryd.results74, go_sem]) rfl ⟨_, rfl, by unfold Own8; simpa using hown, hB⟩
set_option maxHeartbeats 2000000 in
theorem u16_some (ad : Addr) (c : Nat) (l : List Int) (hl : l.length ≤ 1073741824) (x : Int) (hx : InR x) (w : World) (hc : ∀ j u, (l.map (Value.int .u8))[j]? = some u → w.cell? (ad.add j) = some u) :
    Calls Tryd.prog 74 #[.slice (some ad) l.length c, .int .i64 x] w fun e w' => ∃ v', e = .returned v' ∧ Own8 w' w.heap.size v' (l ++ [x / 256 % 256, x % 256]) ∧ Below w.heap.size w w' := by
  obtain ⟨i0, hi, hz0, hz1, hz2⟩ := info_parts info8
  unfold InR at hx
  have hc' : ∀ j u, (l.map (Value.int .u8))[j]? = some u → (w.alloc (.cells #[] 5)).cell? (ad.add j) = some u := by
    intro j u hu
    have h0 := hc j u hu
    have hlt : (ad.add j).block < w.heap.size := by
      unfold World.cell? at h0
      by_cases c : (ad.add j).block < w.heap.size
      · exact c
      · rw [show w.heap[(ad.add j).block]? = none from by simp; omega] at h0
        simp at h0
    rw [((Below.refl w.heap.size w).alloc (Nat.le_refl _) _).cell (p := ad.add j) hlt]
    exact h0
  have H : Hid (∀ j u, (l.map (Value.int .u8))[j]? = some u → (w.alloc (.cells #[] 5)).cell? (ad.add j) = some u) := hc'
  obtain ⟨n, en⟩ : ∃ n, l.length = n := ⟨_, rfl⟩
  have hm : (l.map (Value.int .u8)).length = n * 1 := by simp [en]
  rw [en] at hl ⊢
  clear hc hc'
  go_enter Tryd.func74, Tryd.ntmps74
  go_wp2_with (first
    | (at_builtin; refine wpList_append_own _ rfl (.tmp 5) (.tmp 6) 29 rfl w.heap.size 5 i0 (.int .u8 0) 1 1 Tryd.underlying29 hi hz0 hz1 hz2 rfl (by decide) (.slice (some ⟨w.heap.size, 0, none⟩) 0 0) 0 [] rfl (own_new w) ad n c (l.map (Value.int .u8)) rfl hm H.out (one8 _) (by unfold maxLen; omega) (by omega) (by simp; try omega) ?_; intro v0 w0 hown0 hgrow0 hnil0; simp only [Nat.zero_add, List.nil_append] at hown0; have hB0 : Below w.heap.size w w0 := Below.grown (by go_grown) hgrow0 (by simp; try omega) (by intro k hk; simp [Value.ownBlock] at hk; omega); have hs0 := hB0.size)
    | (at_builtin; refine wpList_append_own _ rfl (.tmp 7) (.tmp 13) 29 rfl w.heap.size 5 i0 (.int .u8 0) 1 1 Tryd.underlying29 hi hz0 hz1 hz2 rfl (by decide) v0 n _ rfl (hown0.alloc _) ⟨w0.heap.size, 0, none⟩ 2 2 [.int .u8 (x / 256 % 256), .int .u8 (x % 256)] rfl rfl (two_at w0 (x / 256 % 256) (x % 256)) (two_one _ _) (by unfold maxLen; omega) (by omega) (by simp; try omega) ?_; intro v1 w1 hown hgrow hnil; have hB : Below w.heap.size w w1 := Below.grown (by go_grown) hgrow (by simp; try omega) (fun k hk => (hown0.lt k hk).1)))
  refine bodyPost_ret (v := v1) (by simp [results, Tryd.results74, go_sem]) rfl ⟨_, rfl, by unfold Own8; simpa [en] using hown, hB⟩
theorem u16_any (v : Value) (l : List Int) (hl : l.length ≤ 1073741824) (x : Int) (hx : InR x) (w : World) (hv : Bytes w v l) :
    Calls Tryd.prog 74 #[v, .int .i64 x] w fun e w' => ∃ v', e = .returned v' ∧ Own8 w' w.heap.size v' (l ++ be 2 x) ∧ Below w.heap.size w w' := by
  rw [be2]
  rcases hv with ⟨rfl, rfl⟩ | ⟨ad, c, rfl, h⟩
  · exact u16_nil x hx w
  · exact u16_some ad c l hl x hx w h
theorem Own8.low {W : World} {B B' : Nat} {v : Value} {l : List Int} (h : Own8 W B v l) (hB : B' ≤ B) : Own8 W B' v l := by
  refine ⟨h.1, ?_⟩
  rcases h.2 with h | ⟨g, cap, cur, h1, h2, h3⟩
  · exact .inl h
  · exact .inr ⟨g, cap, cur, h1, Nat.le_trans hB h2, h3⟩
theorem mask16 (x : Int) (h : 0 ≤ x ∧ x < 4294967296) : bits .and .u32 x 65535 = x % 65536 := by
  rw [u32_and x 65535 h.1 h.2 (by decide) (by decide), show (65535 : Int).toNat = 2 ^ 16 - 1 from rfl, Nat.and_two_pow_sub_one_eq_mod]
  omega
theorem mask32 (x : Int) (h : 0 ≤ x ∧ x < 18446744073709551616) : bits .and .u64 x 4294967295 = x % 4294967296 := by
  rw [u64_and x 4294967295 h.1 h.2 (by decide) (by decide), show (4294967295 : Int).toNat = 2 ^ 32 - 1 from rfl, Nat.and_two_pow_sub_one_eq_mod]
  omega
set_option maxHeartbeats 1000000 in
theorem u32_any (v : Value) (l : List Int) (hl : l.length ≤ 1073741820) (x : Int) (hx : 0 ≤ x ∧ x < 4294967296) (w : World) (hv : Bytes w v l) :
    Calls Tryd.prog 72 #[v, .int .u32 x] w fun e w' => ∃ v', e = .returned v' ∧ Own8 w' w.heap.size v' (l ++ be 4 x) ∧ Below w.heap.size w w' := by
  have em := mask16 x hx
  have H : Hid (Bytes w v l) := hv
  clear hv
  go_enter Tryd.func72, Tryd.ntmps72
  go_wp2_with fail
  refine (u16_any v l (by omega) (x / 65536) (by unfold InR; omega) _ H.out).mono ?_
  rintro e w1 ⟨v1, rfl, ho1, hb1⟩
  have H1 : Hid (Own8 w1 w.heap.size v1 (l ++ be 2 (x / 65536))) := ho1
  clear ho1
  go_wp2_with fail
  refine (u16_any v1 _ (by simp [be_len]; omega) (x % 65536) (by unfold InR; omega) _ H1.out.bytes).mono ?_
  rintro e w2 ⟨v2, rfl, ho2, hb2⟩
  have H2 : Hid (Own8 w2 w.heap.size v2 (l ++ be 4 x)) := by
    have := ho2.low hb1.size
    rw [be2_mod, List.append_assoc, be_22] at this
    exact this
  clear ho2 em
  have hB := hb1.trans (hb2.mono hb1.size)
  go_wp2
  refine bodyPost_ret (v := v2) (by simp [results, Tryd.results72, go_sem]) rfl ⟨_, rfl, H2.out, hB⟩
set_option maxHeartbeats 1000000 in
theorem u64_any (v : Value) (l : List Int) (hl : l.length ≤ 1073741816) (x : Int) (hx : 0 ≤ x ∧ x < 18446744073709551616) (w : World) (hv : Bytes w v l) :
    Calls Tryd.prog 58 #[v, .int .u64 x] w fun e w' => ∃ v', e = .returned v' ∧ Own8 w' w.heap.size v' (l ++ be 8 x) ∧ Below w.heap.size w w' := by
  have em := mask32 x hx
  have H : Hid (Bytes w v l) := hv
  clear hv
  go_enter Tryd.func58, Tryd.ntmps58
  go_wp2_with fail
  refine (u32_any v l (by omega) (x / 4294967296) (by omega) _ H.out).mono ?_
  rintro e w1 ⟨v1, rfl, ho1, hb1⟩
  have H1 : Hid (Own8 w1 w.heap.size v1 (l ++ be 4 (x / 4294967296))) := ho1
  clear ho1
  go_wp2_with fail
  refine (u32_any v1 _ (by simp [be_len]; omega) (x % 4294967296) (by omega) _ H1.out.bytes).mono ?_
  rintro e w2 ⟨v2, rfl, ho2, hb2⟩
  have H2 : Hid (Own8 w2 w.heap.size v2 (l ++ be 8 x)) := by
    have := ho2.low hb1.size
    rw [be4_mod, List.append_assoc, be_44] at this
    exact this
  clear ho2 em
  have hB := hb1.trans (hb2.mono hb1.size)
  go_wp2
  refine bodyPost_ret (v := v2) (by simp [results, Tryd.results58, go_sem]) rfl ⟨_, rfl, H2.out, hB⟩
theorem up_two {W W1 : World} {b : Nat} {x0 x1 : Value} (hb : Below W.heap.size W W1) (h : W.cell? ⟨b, 0, none⟩ = some x0 ∧ W.cell? ⟨b, 1, none⟩ = some x1) : W1.cell? ⟨b, 0, none⟩ = some x0 ∧ W1.cell? ⟨b, 1, none⟩ = some x1 :=
  ⟨keep hb h.1, keep hb h.2⟩
set_option maxHeartbeats 1000000 in
theorem wput_any (a : Int) (ha : InW a) (w : World) :
    Calls Tryd.prog 32 #[wd a] w fun e w' => ∃ v', e = .returned v' ∧ Own8 w' w.heap.size v' (be 16 a) ∧ Below w.heap.size w w' := by
  obtain ⟨h, l, e, h1, h2, l1, l2, H⟩ := words ha
  rw [e]
  clear e
  obtain ⟨x, ex⟩ : ∃ x, h % 18446744073709551616 = x := ⟨_, rfl⟩
  have hx : 0 ≤ x ∧ x < 18446744073709551616 := by omega
  have ew : IntKind.u64.wrap h = x := by rw [IntKind.wrap_u64, ex]
  have hb8 : be 8 x = be 8 h := by rw [← ex, be8_mod]
  have hfin : be 8 x ++ be 8 l = be 16 a := by
    have := H.out
    rw [hb8, ← be_88 a, show a / 18446744073709551616 = h by omega, ← be8_mod a, show a % 18446744073709551616 = l by omega]
  have HF : Hid (be 8 x ++ be 8 l = be 16 a) := hfin
  clear hfin hb8 ex
  have c1 : ∀ W : World, Calls Tryd.prog 58 #[.slice none 0 0, .int .u64 x] W fun e w' => ∃ v', e = .returned v' ∧ Own8 w' W.heap.size v' (be 8 x) ∧ Below W.heap.size W w' := by
    intro W
    have := u64_any (.slice none 0 0) [] (by simp) x hx W (.inl ⟨rfl, rfl⟩)
    simpa using this
  have c2 : ∀ (W : World) (v : Value), Hid (Bytes W v (be 8 x)) → Calls Tryd.prog 58 #[v, .int .u64 l] W fun e w' => ∃ v', e = .returned v' ∧ Own8 w' W.heap.size v' (be 8 x ++ be 8 l) ∧ Below W.heap.size W w' :=
    fun W v hv => u64_any v (be 8 x) (by rw [be_len]; omega) l (by omega) W hv.out
  go_enter Tryd.func32, Tryd.ntmps32
  go_wp2_with fail
  go_region_held3 (fun W => W.cell? ⟨w.heap.size, 0, none⟩ = some (.int .i64 h) ∧ W.cell? ⟨w.heap.size, 1, none⟩ = some (.int .u64 l)) (first | assumption | (go_keep; done))
    (first
      | (go_at_call 58; (with_reducible refine (c1 _).mono ?_); rintro e' w1 ⟨v1, rfl, ho1, hb1⟩; have hS : w1.cell? ⟨w.heap.size, 0, none⟩ = some (.int .i64 h) ∧ w1.cell? ⟨w.heap.size, 1, none⟩ = some (.int .u64 l) := up_two hb1 (by first | assumption | go_keep); have H1 : Hid (Bytes w1 v1 (be 8 x)) := ho1.bytes; clear ho1)
      | (go_at_call 58; (with_reducible refine (c2 _ _ H1).mono ?_); rintro e' w2 ⟨v2, rfl, ho2, hb2⟩; have hS : w2.cell? ⟨w.heap.size, 0, none⟩ = some (.int .i64 h) ∧ w2.cell? ⟨w.heap.size, 1, none⟩ = some (.int .u64 l) := up_two hb2 (by first | assumption | go_keep); have H2 : Hid (Own8 w2 w1.heap.size v2 (be 8 x ++ be 8 l)) := ho2; clear ho2))
  all_goals
    have hB1 : Below w.heap.size w w1 := Below.trans (by go_grown) (hb1.mono (by simp))
    have hB2 := hB1.trans (hb2.mono hB1.size)
    have H3 : Hid (Own8 w2 w.heap.size v2 (be 16 a)) := by have := H2.out.low hB1.size; rw [HF.out] at this; exact this
    go_wp2
    refine bodyPost_ret (v := v2) (by simp [results, Tryd.results32, go_sem]) rfl ⟨_, rfl, H3.out, hB2⟩
end Go.Proofs.YtdbndpcbejofkaaDoor.Wd
