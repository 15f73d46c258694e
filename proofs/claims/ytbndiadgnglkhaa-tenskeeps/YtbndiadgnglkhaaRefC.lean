/- What the reference's signed numbers, its sum and its held answer are: as whole numbers. -/
import Derived.Test.YtbndiadgnglkhaaRefB
import Derived.Test.YtbndiadgnglkhaaFacts
namespace Go.Proofs.Ytbndiadgnglkhaa.Rf
open Go.RowKit Fx
set_option linter.unusedVariables false
set_option linter.unusedSimpArgs false
attribute [local go_sem] setCell_drewN alloc_drewN
/-- Four words that stand for a number; a sign and four words. -/
def IsA (v : Value) (x : Int) : Prop := ∃ a0 a1 a2 a3 : Int, v = .agg #[.int .u64 a0, .int .u64 a1, .int .u64 a2, .int .u64 a3] ∧ U a0 ∧ U a1 ∧ U a2 ∧ U a3 ∧ PS 4 a0 a1 a2 a3 = x
def IsN (v : Value) (s : Bool) (x : Int) : Prop := ∃ a0 a1 a2 a3 : Int, v = .agg #[.bool s, .int .u64 a0, .int .u64 a1, .int .u64 a2, .int .u64 a3] ∧ U a0 ∧ U a1 ∧ U a2 ∧ U a3 ∧ PS 4 a0 a1 a2 a3 = x
theorem PS4 (a0 a1 a2 a3 : Int) : PS 4 a0 a1 a2 a3 = a0 + a1 * 18446744073709551616 + a2 * 340282366920938463463374607431768211456 + a3 * 6277101735386680763835789423207666416102355444464034512896 := by simp [PS]
theorem BP4 : BP 4 = 115792089237316195423570985008687907853269984665640564039457584007913129639936 := by simp [BP]
theorem IsA.rng {v : Value} {x : Int} (h : IsA v x) : 0 ≤ x ∧ x < 115792089237316195423570985008687907853269984665640564039457584007913129639936 := by
  obtain ⟨a0, a1, a2, a3, _, h0, h1, h2, h3, rfl⟩ := h
  unfold U at *
  rw [PS4]
  omega
theorem IsN.rng {v : Value} {s : Bool} {x : Int} (h : IsN v s x) : 0 ≤ x ∧ x < 115792089237316195423570985008687907853269984665640564039457584007913129639936 := by
  obtain ⟨a0, a1, a2, a3, _, h0, h1, h2, h3, rfl⟩ := h
  unfold U at *
  rw [PS4]
  omega
theorem size_ref (a x : Int) (ha : InR a) (hx : (a.natAbs : Int) = x) (w : World) :
    Calls Try.prog 76 #[.int .i64 a] w fun e w' => e = .returned (.int .u64 x) ∧ w' = w := by
  unfold InR at ha
  have H : Hid ((a.natAbs : Int) = x) := hx
  clear hx
  by_cases h : a < 0
  all_goals
    go_enter Try.func76, Try.ntmps76
    go_wp2
    go_ret
    refine ⟨ret_int ?_, rfl⟩
    have hn := H.out
    try simp only [IntKind.wrap_u64, wrap64]
    omega
theorem from_any (n : Int) (hn : InR n) (w : World) :
    Calls Try.prog 67 #[.int .i64 n] w fun e w' => ∃ v, e = .returned v ∧ IsN v (decide (n < 0)) (n.natAbs : Int) ∧ Below w.heap.size w w' := by
  obtain ⟨x, ex⟩ : ∃ x : Int, (n.natAbs : Int) = x := ⟨_, rfl⟩
  have E : Hid ((n.natAbs : Int) = x) := ex
  rw [ex]
  have hx : 0 ≤ x ∧ x ≤ 9223372036854775808 := by unfold InR at hn; omega
  clear ex
  go_enter Try.func67, Try.ntmps67
  go_wp2_with fail
  refine (size_ref n x hn E.out _).mono ?_
  rintro e w' ⟨rfl, rfl⟩
  go_wp2
  exact bodyPost_ret (v := .agg #[.bool (decide (n < 0)), .int .u64 x, .int .u64 0, .int .u64 0, .int .u64 0]) (by simp [results, Try.results67, go_sem]) rfl
    ⟨_, rfl, ⟨x, 0, 0, 0, rfl, by unfold U; omega, by unfold U; omega, by unfold U; omega, by unfold U; omega, by rw [PS4]; omega⟩, by go_grown⟩
theorem turned_any (v : Value) (s : Bool) (x : Int) (hv : IsN v s x) (w : World) :
    Calls Try.prog 68 #[v] w fun e w' => ∃ u, e = .returned u ∧ IsN u (!s) x ∧ Below w.heap.size w w' := by
  obtain ⟨a0, a1, a2, a3, rfl, h0, h1, h2, h3, hx⟩ := hv
  have H : Hid (PS 4 a0 a1 a2 a3 = x) := hx
  clear hx
  go_enter Try.func68, Try.ntmps68
  go_wp2
  exact bodyPost_ret (v := .agg #[.bool (!s), .int .u64 a0, .int .u64 a1, .int .u64 a2, .int .u64 a3]) (by simp [results, Try.results68, go_sem]) rfl
    ⟨_, rfl, ⟨a0, a1, a2, a3, rfl, h0, h1, h2, h3, H.out⟩, by go_grown⟩
end Go.Proofs.Ytbndiadgnglkhaa.Rf
