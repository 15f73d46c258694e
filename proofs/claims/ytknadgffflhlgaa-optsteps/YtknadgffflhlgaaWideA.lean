/- What the functions of package wide hand back, for all numbers: sums, differences, products. What the functions of package wide hand back: the sign, products, a number held. -/
import Derived.Test.YtknadgffflhlgaaProg
import Derived.Test.YtknadgffflhlgaaShelf
import Derived.Test.YtknadgffflhlgaaWMath
import Derived.Shelf.Spec.BitsCarry
import Derived.Shelf.Spec.TrailingZeros
import Derived.WalkKit
import Derived.ProofKit
import Derived.WalkSpells
import Derived.Handy
import Derived.Deep.RegionWith
namespace Go.Proofs.Ytknadgffflhlgaa.Wd
open Go.RowKit Fx
set_option linter.unusedVariables false
set_option linter.unusedSimpArgs false
theorem bcell {B : Nat} {W w1 : World} (hb : Below B W w1) : (∀ b o, b < B → w1.cell? ⟨b, o, none⟩ = W.cell? ⟨b, o, none⟩) ∧ (∀ b o, b < B → w1.frozen? ⟨b, o, none⟩ = W.frozen? ⟨b, o, none⟩) :=
  ⟨fun b o h => hb.cell (p := ⟨b, o, none⟩) h, fun b o h => hb.frozen (p := ⟨b, o, none⟩) h⟩
theorem wset_same {W : World} {p : Addr} {x v : Value} (h : W.cell? p = some v) : (W.setCell p x).cell? p = some x := World.cell?_setCell_same _ _ _ h
theorem wset_off {W : World} {b i j : Nat} {x : Value} (hij : j ≠ i) : (W.setCell ⟨b, i, none⟩ x).cell? ⟨b, j, none⟩ = W.cell? ⟨b, j, none⟩ := World.cell?_setCell_other _ _ _ _ (by simp; try omega)
theorem two (W : World) (b : Nat) (x0 x1 : Value) {y0 y1 : Value} (h0 : W.cell? ⟨b, 0, none⟩ = some y0) (h1 : W.cell? ⟨b, 1, none⟩ = some y1) :
    ((W.setCell ⟨b, 0, none⟩ x0).setCell ⟨b, 1, none⟩ x1).cell? ⟨b, 0, none⟩ = some x0 ∧ ((W.setCell ⟨b, 0, none⟩ x0).setCell ⟨b, 1, none⟩ x1).cell? ⟨b, 1, none⟩ = some x1 := by
  refine ⟨?_, ?_⟩
  · rw [wset_off (by omega)]; exact wset_same h0
  · exact wset_same (by rw [wset_off (by omega)]; exact h1)
theorem ret_int {k : IntKind} {a b : Int} (h : a = b) : Ending.returned (.int k a) = .returned (.int k b) := by rw [h]
/-- The two words of a number. -/
theorem words {v : Int} (hv : InW v) : ∃ h l : Int, wd v = .agg #[.int .i64 h, .int .u64 l] ∧ -9223372036854775808 ≤ h ∧ h ≤ 9223372036854775807 ∧ 0 ≤ l ∧ l ≤ 18446744073709551615 ∧ Hid (v = h * 18446744073709551616 + l) := by
  refine ⟨_, _, rfl, ?_⟩
  unfold InW at hv
  refine ⟨by omega, by omega, by omega, by omega, show _ = _ by omega⟩
theorem of_any (n : Int) (hn : InR n) (w : World) :
    Calls Try.prog 11 #[.int .i64 n] w fun e w' => e = .returned (wd n) ∧ Below w.heap.size w w' := by
  obtain ⟨h, l, e, h1, h2, l1, l2, H⟩ := words (InR.w hn)
  rw [e]
  unfold InR at hn
  go_enter Try.func11, Try.ntmps11
  go_wp2
  refine bodyPost_ret (v := .agg #[.int .i64 h, .int .u64 l]) ?_ rfl ⟨rfl, by go_grown⟩
  have := H.out
  simp [results, Try.results11, go_sem]
  try simp only [IntKind.wrap_u64, wrap64]
  constructor <;> omega
theorem add64 (x y : Int) (hx : 0 ≤ x) (hy : 0 ≤ y) (w : World) : (callFunc 33 #[.int .u64 x, .int .u64 y, .int .u64 0]).run Try.prog w =
    .ok (.value (.tuple #[.int .u64 ((x + y) % 18446744073709551616), .int .u64 ((x + y) / 18446744073709551616)])) w := by
  obtain ⟨x, rfl⟩ := Int.eq_ofNat_of_zero_le hx
  obtain ⟨y, rfl⟩ := Int.eq_ofNat_of_zero_le hy
  rw [run_callFunc_extern Try.func33 (by kernel_rfl) (by kernel_rfl) (by kernel_rfl) (e := add64Entry) (by kernel_rfl)]
  refine (congrArg (fun r => Result.andThen r _) (run_add64 (x : Int) (y : Int) 0 (by omega) (by omega) (by omega) (by omega) w)).trans ?_
  simp only [Result.andThen]
  congr 5 <;> omega
theorem sub64 (x y : Int) (hx : 0 ≤ x) (hy : 0 ≤ y) (hy' : y ≤ 18446744073709551615) (w : World) : (callFunc 63 #[.int .u64 x, .int .u64 y, .int .u64 0]).run Try.prog w =
    .ok (.value (.tuple #[.int .u64 ((x + 18446744073709551616 - y) % 18446744073709551616), .int .u64 (if x < y then 1 else 0)])) w := by
  obtain ⟨x, rfl⟩ := Int.eq_ofNat_of_zero_le hx
  obtain ⟨y, rfl⟩ := Int.eq_ofNat_of_zero_le hy
  rw [run_callFunc_extern Try.func63 (by kernel_rfl) (by kernel_rfl) (by kernel_rfl) (e := sub64Entry) (by kernel_rfl)]
  refine (congrArg (fun r => Result.andThen r _) (run_sub64 x y 0 (by omega) w)).trans ?_
  simp only [Result.andThen]
  congr 5
  · have : ((x + 18446744073709551616 - y - 0 : Nat) : Int) = (x : Int) + 18446744073709551616 - y := by omega
    rw [← this]; rfl
  · by_cases h : x < y
    · rw [if_pos (by omega), if_pos (by omega)]; rfl
    · rw [if_neg (by omega), if_neg (by omega)]; rfl
theorem add_any (a b : Int) (ha : InW a) (hb : InW b) (w : World) :
    Calls Try.prog 19 #[wd a, wd b] w fun e w' => e = .returned (wd (wr (a + b))) ∧ Below w.heap.size w w' := by
  obtain ⟨ah, al, ea, a1, a2, a3, a4, Ha⟩ := words ha
  obtain ⟨bh, bl, eb, b1, b2, b3, b4, Hb⟩ := words hb
  obtain ⟨h, l, e, h1, h2, l1, l2, H⟩ := words (wr_rng (a + b))
  rw [ea, eb, e]
  go_enter Try.func19, Try.ntmps19
  go_wp2_with (simp only [add64 al bl a3 b3])
  refine bodyPost_ret (v := .agg #[.int .i64 h, .int .u64 l]) ?_ rfl ⟨rfl, by go_grown⟩
  have := Ha.out
  have := Hb.out
  have := H.out
  simp [results, Try.results19, go_sem]
  try simp only [IntKind.wrap_u64, wrap64]
  unfold wr at *
  constructor <;> omega
theorem sub_any (a b : Int) (ha : InW a) (hb : InW b) (w : World) :
    Calls Try.prog 61 #[wd a, wd b] w fun e w' => e = .returned (wd (wr (a - b))) ∧ Below w.heap.size w w' := by
  obtain ⟨ah, al, ea, a1, a2, a3, a4, Ha⟩ := words ha
  obtain ⟨bh, bl, eb, b1, b2, b3, b4, Hb⟩ := words hb
  obtain ⟨h, l, e, h1, h2, l1, l2, H⟩ := words (wr_rng (a - b))
  rw [ea, eb, e]
  have hs := sub64 al bl a3 b3 b4
  obtain ⟨bo, eo⟩ : ∃ bo : Int, (if al < bl then 1 else 0) = bo := ⟨_, rfl⟩
  rw [eo] at hs
  have hbo : (al < bl ∧ bo = 1) ∨ (bl ≤ al ∧ bo = 0) := by rw [← eo]; split <;> omega
  have Hbo : Hid ((al < bl ∧ bo = 1) ∨ (bl ≤ al ∧ bo = 0)) := hbo
  have hb1 : 0 ≤ bo ∧ bo ≤ 1 := by omega
  clear hbo eo
  go_enter Try.func61, Try.ntmps61
  go_wp2_with (simp only [hs])
  refine bodyPost_ret (v := .agg #[.int .i64 h, .int .u64 l]) ?_ rfl ⟨rfl, by go_grown⟩
  have := Ha.out
  have := Hb.out
  have := H.out
  have := Hbo.out
  simp [results, Try.results61, go_sem]
  try simp only [IntKind.wrap_u64, wrap64]
  unfold wr at *
  constructor <;> omega
set_option maxHeartbeats 1000000 in
theorem neg_any (a : Int) (ha : InW a) (w : World) :
    Calls Try.prog 58 #[wd a] w fun e w' => e = .returned (wd (wr (-a))) ∧ Below w.heap.size w w' := by
  obtain ⟨ah, al, ea, a1, a2, a3, a4, Ha⟩ := words ha
  obtain ⟨h, l, e, h1, h2, l1, l2, H⟩ := words (wr_rng (-a))
  have hs : ∀ W : World, Calls Try.prog 61 #[.agg #[.int .i64 0, .int .u64 0], .agg #[.int .i64 ah, .int .u64 al]] W fun e w' => e = .returned (.agg #[.int .i64 h, .int .u64 l]) ∧ Below W.heap.size W w' := by
    intro W
    have := sub_any 0 a (by unfold InW; omega) ha W
    rw [Int.zero_sub, e, ea] at this
    exact this
  rw [ea, e]
  clear ea e
  go_enter Try.func58, Try.ntmps58
  go_wp2_with fail
  refine (hs _).mono ?_
  rintro e' w1 ⟨rfl, hb⟩
  obtain ⟨hcell, hfroz⟩ := bcell hb
  have hB : Below w.heap.size w w1 := Below.trans (by go_grown) (hb.mono (by simp; try omega))
  have hsz := hb.size
  simp at hsz
  go_wp2
  obtain ⟨f0, f1⟩ := two w1 (w.heap.size + 1) (.int .i64 h) (.int .u64 l) (by rw [hcell _ _ (by simp)]; simp [go_sem]; rfl) (by rw [hcell _ _ (by simp)]; simp [go_sem]; rfl)
  refine bodyPost_ret (v := .agg #[.int .i64 h, .int .u64 l]) (by simp [results, Try.results58, go_sem, f0, f1]) rfl ⟨rfl, by go_grown⟩
end Go.Proofs.Ytknadgffflhlgaa.Wd
namespace Go.Proofs.Ytknadgffflhlgaa.Wd
open Go.RowKit Fx
set_option linter.unusedVariables false
set_option linter.unusedSimpArgs false
theorem bound_any (b : Bool) (w : World) :
    Calls Try.prog 38 #[.bool b] w fun e w' => e = .returned (.int .i64 (lim b)) ∧ w' = w := by
  cases b
  all_goals
    go_enter Try.func38, Try.ntmps38
    go_wp2
    go_ret
    exact ⟨rfl, rfl⟩
theorem wsize_any (a n : Int) (ha : InR a) (hn : (a.natAbs : Int) = n) (w : World) :
    Calls Try.prog 37 #[.int .i64 a] w fun e w' => e = .returned (.int .u64 n) ∧ w' = w := by
  unfold InR at ha
  have H : Hid ((a.natAbs : Int) = n) := hn
  clear hn
  by_cases h : a < 0
  all_goals
    go_enter Try.func37, Try.ntmps37
    go_wp2
    go_ret
    refine ⟨ret_int ?_, rfl⟩
    have hn := H.out
    try simp only [IntKind.wrap_u64]
    omega
set_option maxHeartbeats 1000000 in
theorem signed_any (b : Bool) (a : Int) (ha : InW a) (w : World) :
    Calls Try.prog 36 #[.bool b, wd a] w fun e w' => e = .returned (wd (if b then wr (-a) else a)) ∧ Below w.heap.size w w' := by
  obtain ⟨ah, al, ea, a1, a2, a3, a4, Ha⟩ := words ha
  cases b
  · simp only [Bool.false_eq_true, if_false]
    rw [ea]
    clear ea
    go_enter Try.func36, Try.ntmps36
    go_wp2
    exact bodyPost_ret (v := .agg #[.int .i64 ah, .int .u64 al]) (by simp [results, Try.results36, go_sem]) rfl ⟨rfl, by go_grown⟩
  · simp only [if_true]
    obtain ⟨h, l, e, h1, h2, l1, l2, H⟩ := words (wr_rng (-a))
    have hs : ∀ W : World, Calls Try.prog 58 #[.agg #[.int .i64 ah, .int .u64 al]] W fun e w' => e = .returned (.agg #[.int .i64 h, .int .u64 l]) ∧ Below W.heap.size W w' := by
      intro W
      have := neg_any a ha W
      rw [e, ea] at this
      exact this
    rw [ea, e]
    clear ea e
    go_enter Try.func36, Try.ntmps36
    go_wp2_with fail
    refine (hs _).mono ?_
    rintro e' w1 ⟨rfl, hb⟩
    obtain ⟨hcell, hfroz⟩ := bcell hb
    have hB : Below w.heap.size w w1 := Below.trans (by go_grown) (hb.mono (by simp; try omega))
    have hsz := hb.size
    simp at hsz
    go_wp2
    obtain ⟨f0, f1⟩ := two w1 (w.heap.size + 1) (.int .i64 h) (.int .u64 l) (by rw [hcell _ _ (by simp)]; simp [go_sem]; rfl) (by rw [hcell _ _ (by simp)]; simp [go_sem]; rfl)
    refine bodyPost_ret (v := .agg #[.int .i64 h, .int .u64 l]) (by simp [results, Try.results36, go_sem, f0, f1]) rfl ⟨rfl, by go_grown⟩
theorem prod_sign (a b : Int) : a * b = sg (Fx.differ a b) (a.natAbs * b.natAbs) := by
  unfold sg Fx.differ
  rw [← Int.natAbs_mul]
  have hab : 0 ≤ a → 0 ≤ b → 0 ≤ a * b := Int.mul_nonneg
  have h2 : a < 0 → b < 0 → 0 ≤ a * b := fun h h' => Int.mul_nonneg_of_nonpos_of_nonpos (by omega) (by omega)
  have h3 : a < 0 → 0 ≤ b → a * b ≤ 0 := fun h h' => Int.mul_nonpos_of_nonpos_of_nonneg (by omega) h'
  have h4 : 0 ≤ a → b < 0 → a * b ≤ 0 := fun h h' => Int.mul_nonpos_of_nonneg_of_nonpos h (by omega)
  by_cases c1 : a < 0 <;> by_cases c2 : b < 0 <;> simp [c1, c2] <;> omega
theorem prod_size (a b : Int) (ha : InR a) (hb : InR b) : a.natAbs * b.natAbs ≤ 85070591730234615865843651857942052864 := by
  unfold InR at *
  calc a.natAbs * b.natAbs ≤ 9223372036854775808 * 9223372036854775808 := Nat.mul_le_mul (by omega) (by omega)
    _ = _ := by decide
theorem wrapi_in (x : Int) : InR (IntKind.i64.wrap x) := by unfold InR; rw [IntKind.wrap_i64]; omega
theorem of_at (al : Int) (ha : 0 ≤ al ∧ al ≤ 18446744073709551615) (W : World) : Calls Try.prog 11 #[.int .i64 (IntKind.i64.wrap al)] W fun e w' => e = .returned (.agg #[.int .i64 (if al < 9223372036854775808 then 0 else -1), .int .u64 al]) ∧ Below W.heap.size W w' := by
  have := of_any (IntKind.i64.wrap al) (wrapi_in al) W
  have e : wd (IntKind.i64.wrap al) = .agg #[.int .i64 (if al < 9223372036854775808 then 0 else -1), .int .u64 al] := by
    refine (wd_eq ?_ ?_).symm
    · rw [IntKind.wrap_i64]; split <;> omega
    · rw [IntKind.wrap_i64]; omega
  rw [e] at this
  exact this
set_option maxHeartbeats 1000000 in
theorem fix_any (a : Int) (ha : InW a) (w : World) :
    Calls Try.prog 35 #[wd a] w fun e w' => e = .returned (.int .i64 (hold a)) ∧ Below w.heap.size w w' := by
  obtain ⟨ah, al, ea, a1, a2, a3, a4, Ha⟩ := words ha
  have hs := of_at al ⟨a3, a4⟩
  obtain ⟨oh, eo⟩ : ∃ oh : Int, (if al < 9223372036854775808 then 0 else -1) = oh := ⟨_, rfl⟩
  rw [eo] at hs
  have Ho : Hid ((if al < 9223372036854775808 then 0 else -1) = oh) := eo
  have ob : -1 ≤ oh ∧ oh ≤ 0 := by rw [← eo]; split <;> omega
  rw [ea]
  clear ea eo
  by_cases h : oh = ah
  · subst h
    go_enter Try.func35, Try.ntmps35
    go_wp2_with fail
    go_region_with (go_at_call 11; refine (hs _).mono ?_; rintro e' w1 ⟨rfl, hb⟩; obtain ⟨hcell, hfroz⟩ := bcell hb; have hB : Below w.heap.size w w1 := Below.trans (by go_grown) (hb.mono (by simp; try omega)); have hsz := hb.size; simp at hsz)
    all_goals
      go_wp2
      go_ret
      refine ⟨ret_int ?_, by go_grown⟩
      have h1 := Ha.out
      have h2 := Ho.out
      try simp only [IntKind.wrap_i64, wrap64]
      unfold hold
      split at h2 <;> split <;> (try split) <;> omega
  · have hne : (oh == ah) = false := by simpa using h
    go_enter Try.func35, Try.ntmps35
    go_wp2_with fail
    go_region_with (go_at_call 11; refine (hs _).mono ?_; rintro e' w1 ⟨rfl, hb⟩; obtain ⟨hcell, hfroz⟩ := bcell hb; have hB : Below w.heap.size w w1 := Below.trans (by go_grown) (hb.mono (by simp; try omega)); have hsz := hb.size; simp at hsz)
    all_goals
      go_wp2_with (go_at_call 38; refine (bound_any _ _).mono ?_; rintro e' w2 ⟨rfl, rfl⟩)
      go_ret
      refine ⟨ret_int ?_, by go_grown⟩
      have h1 := Ha.out
      have h2 := Ho.out
      unfold InW at ha
      unfold lim hold
      simp only [decide_eq_true_eq]
      split at h2 <;> split <;> split <;> (try split) <;> omega
end Go.Proofs.Ytknadgffflhlgaa.Wd
