/- What the functions of package wide hand back, for all numbers: sums, differences, products. -/
import Derived.Test.YtdbndpcbejofkaaDoorProg
import Derived.Test.YtdbndpcbejofkaaDoorShelf
import Derived.Test.YtdbndpcbejofkaaDoorWMath
import Derived.Shelf.Spec.BitsCarry
import Derived.Shelf.Spec.TrailingZeros
import Derived.WalkKit
import Derived.ProofKit
import Derived.WalkSpells
import Derived.Handy
import Derived.Deep.RegionWith
namespace Go.Proofs.YtdbndpcbejofkaaDoor.Wd
open Go.RowKit Fx
set_option linter.unusedVariables false
set_option linter.unusedSimpArgs false
theorem bcell {B : Nat} {W w1 : World} (hb : Below B W w1) : (∀ b o, b < B → w1.cell? ⟨b, o, none⟩ = W.cell? ⟨b, o, none⟩) ∧ (∀ b o, b < B → w1.frozen? ⟨b, o, none⟩ = W.frozen? ⟨b, o, none⟩) :=
  ⟨fun b o h => hb.cell (p := ⟨b, o, none⟩) h, fun b o h => hb.frozen (p := ⟨b, o, none⟩) h⟩
theorem set_same {W : World} {p : Addr} {x v : Value} (h : W.cell? p = some v) : (W.setCell p x).cell? p = some x := World.cell?_setCell_same _ _ _ h
theorem set_off {W : World} {b i j : Nat} {x : Value} (hij : j ≠ i) : (W.setCell ⟨b, i, none⟩ x).cell? ⟨b, j, none⟩ = W.cell? ⟨b, j, none⟩ := World.cell?_setCell_other _ _ _ _ (by simp; try omega)
theorem two (W : World) (b : Nat) (x0 x1 : Value) {y0 y1 : Value} (h0 : W.cell? ⟨b, 0, none⟩ = some y0) (h1 : W.cell? ⟨b, 1, none⟩ = some y1) :
    ((W.setCell ⟨b, 0, none⟩ x0).setCell ⟨b, 1, none⟩ x1).cell? ⟨b, 0, none⟩ = some x0 ∧ ((W.setCell ⟨b, 0, none⟩ x0).setCell ⟨b, 1, none⟩ x1).cell? ⟨b, 1, none⟩ = some x1 := by
  refine ⟨?_, ?_⟩
  · rw [set_off (by omega)]; exact set_same h0
  · exact set_same (by rw [set_off (by omega)]; exact h1)
theorem ret_int {k : IntKind} {a b : Int} (h : a = b) : Ending.returned (.int k a) = .returned (.int k b) := by rw [h]
/-- The two words of a number. -/
theorem words {v : Int} (hv : InW v) : ∃ h l : Int, wd v = .agg #[.int .i64 h, .int .u64 l] ∧ -9223372036854775808 ≤ h ∧ h ≤ 9223372036854775807 ∧ 0 ≤ l ∧ l ≤ 18446744073709551615 ∧ Hid (v = h * 18446744073709551616 + l) := by
  refine ⟨_, _, rfl, ?_⟩
  unfold InW at hv
  refine ⟨by omega, by omega, by omega, by omega, show _ = _ by omega⟩
theorem of_any (n : Int) (hn : InR n) (w : World) :
    Calls Tryd.prog 14 #[.int .i64 n] w fun e w' => e = .returned (wd n) ∧ Below w.heap.size w w' := by
  obtain ⟨h, l, e, h1, h2, l1, l2, H⟩ := words (InR.w hn)
  rw [e]
  unfold InR at hn
  go_enter Tryd.func14, Tryd.ntmps14
  go_wp2
  refine bodyPost_ret (v := .agg #[.int .i64 h, .int .u64 l]) ?_ rfl ⟨rfl, by go_grown⟩
  have := H.out
  simp [results, Tryd.results14, go_sem]
  try simp only [IntKind.wrap_u64, wrap64]
  constructor <;> omega
theorem add64 (x y : Int) (hx : 0 ≤ x) (hy : 0 ≤ y) (w : World) : (callFunc 46 #[.int .u64 x, .int .u64 y, .int .u64 0]).run Tryd.prog w =
    .ok (.value (.tuple #[.int .u64 ((x + y) % 18446744073709551616), .int .u64 ((x + y) / 18446744073709551616)])) w := by
  obtain ⟨x, rfl⟩ := Int.eq_ofNat_of_zero_le hx
  obtain ⟨y, rfl⟩ := Int.eq_ofNat_of_zero_le hy
  rw [run_callFunc_extern Tryd.func46 (by kernel_rfl) (by kernel_rfl) (by kernel_rfl) (e := add64Entry) (by kernel_rfl)]
  refine (congrArg (fun r => Result.andThen r _) (run_add64 (x : Int) (y : Int) 0 (by omega) (by omega) (by omega) (by omega) w)).trans ?_
  simp only [Result.andThen]
  congr 5 <;> omega
theorem sub64 (x y : Int) (hx : 0 ≤ x) (hy : 0 ≤ y) (hy' : y ≤ 18446744073709551615) (w : World) : (callFunc 47 #[.int .u64 x, .int .u64 y, .int .u64 0]).run Tryd.prog w =
    .ok (.value (.tuple #[.int .u64 ((x + 18446744073709551616 - y) % 18446744073709551616), .int .u64 (if x < y then 1 else 0)])) w := by
  obtain ⟨x, rfl⟩ := Int.eq_ofNat_of_zero_le hx
  obtain ⟨y, rfl⟩ := Int.eq_ofNat_of_zero_le hy
  rw [run_callFunc_extern Tryd.func47 (by kernel_rfl) (by kernel_rfl) (by kernel_rfl) (e := sub64Entry) (by kernel_rfl)]
  refine (congrArg (fun r => Result.andThen r _) (run_sub64 x y 0 (by omega) w)).trans ?_
  simp only [Result.andThen]
  congr 5
  · have : ((x + 18446744073709551616 - y - 0 : Nat) : Int) = (x : Int) + 18446744073709551616 - y := by omega
    rw [← this]; rfl
  · by_cases h : x < y
    · rw [if_pos (by omega), if_pos (by omega)]; rfl
    · rw [if_neg (by omega), if_neg (by omega)]; rfl
theorem add_any (a b : Int) (ha : InW a) (hb : InW b) (w : World) :
    Calls Tryd.prog 17 #[wd a, wd b] w fun e w' => e = .returned (wd (wr (a + b))) ∧ Below w.heap.size w w' := by
  obtain ⟨ah, al, ea, a1, a2, a3, a4, Ha⟩ := words ha
  obtain ⟨bh, bl, eb, b1, b2, b3, b4, Hb⟩ := words hb
  obtain ⟨h, l, e, h1, h2, l1, l2, H⟩ := words (wr_rng (a + b))
  rw [ea, eb, e]
  go_enter Tryd.func17, Tryd.ntmps17
  go_wp2_with (simp only [add64 al bl a3 b3])
  refine bodyPost_ret (v := .agg #[.int .i64 h, .int .u64 l]) ?_ rfl ⟨rfl, by go_grown⟩
  have := Ha.out
  have := Hb.out
  have := H.out
  simp [results, Tryd.results17, go_sem]
  try simp only [IntKind.wrap_u64, wrap64]
  unfold wr at *
  constructor <;> omega
theorem sub_any (a b : Int) (ha : InW a) (hb : InW b) (w : World) :
    Calls Tryd.prog 19 #[wd a, wd b] w fun e w' => e = .returned (wd (wr (a - b))) ∧ Below w.heap.size w w' := by
  obtain ⟨ah, al, ea, a1, a2, a3, a4, Ha⟩ := words ha
  obtain ⟨bh, bl, eb, b1, b2, b3, b4, Hb⟩ := words hb
  obtain ⟨h, l, e, h1, h2, l1, l2, H⟩ := words (wr_rng (a - b))
  rw [ea, eb, e]
  have hs := sub64 al bl a3 b3 b4
  obtain ⟨bo, eo⟩ : ∃ bo : Int, (if al < bl then 1 else 0) = bo := ⟨_, rfl⟩
  rw [eo] at hs
  have hbo : (al < bl ∧ bo = 1) ∨ (bl ≤ al ∧ bo = 0) := by rw [← eo]; split <;> omega
  have Hbo : Hid ((al < bl ∧ bo = 1) ∨ (bl ≤ al ∧ bo = 0)) := hbo
  have hb1 : 0 ≤ bo ∧ bo ≤ 1 := by omega
  clear hbo eo
  go_enter Tryd.func19, Tryd.ntmps19
  go_wp2_with (simp only [hs])
  refine bodyPost_ret (v := .agg #[.int .i64 h, .int .u64 l]) ?_ rfl ⟨rfl, by go_grown⟩
  have := Ha.out
  have := Hb.out
  have := H.out
  have := Hbo.out
  simp [results, Tryd.results19, go_sem]
  try simp only [IntKind.wrap_u64, wrap64]
  unfold wr at *
  constructor <;> omega
set_option maxHeartbeats 1000000 in
theorem neg_any (a : Int) (ha : InW a) (w : World) :
    Calls Tryd.prog 11 #[wd a] w fun e w' => e = .returned (wd (wr (-a))) ∧ Below w.heap.size w w' := by
  obtain ⟨ah, al, ea, a1, a2, a3, a4, Ha⟩ := words ha
  obtain ⟨h, l, e, h1, h2, l1, l2, H⟩ := words (wr_rng (-a))
  have hs : ∀ W : World, Calls Tryd.prog 19 #[.agg #[.int .i64 0, .int .u64 0], .agg #[.int .i64 ah, .int .u64 al]] W fun e w' => e = .returned (.agg #[.int .i64 h, .int .u64 l]) ∧ Below W.heap.size W w' := by
    intro W
    have := sub_any 0 a (by unfold InW; omega) ha W
    rw [Int.zero_sub, e, ea] at this
    exact this
  rw [ea, e]
  clear ea e
  go_enter Tryd.func11, Tryd.ntmps11
  go_wp2_with fail
  refine (hs _).mono ?_
  rintro e' w1 ⟨rfl, hb⟩
  obtain ⟨hcell, hfroz⟩ := bcell hb
  have hB : Below w.heap.size w w1 := Below.trans (by go_grown) (hb.mono (by simp; try omega))
  have hsz := hb.size
  simp at hsz
  go_wp2
  obtain ⟨f0, f1⟩ := two w1 (w.heap.size + 1) (.int .i64 h) (.int .u64 l) (by rw [hcell _ _ (by simp)]; simp [go_sem]; rfl) (by rw [hcell _ _ (by simp)]; simp [go_sem]; rfl)
  refine bodyPost_ret (v := .agg #[.int .i64 h, .int .u64 l]) (by simp [results, Tryd.results11, go_sem, f0, f1]) rfl ⟨rfl, by go_grown⟩
end Go.Proofs.YtdbndpcbejofkaaDoor.Wd
