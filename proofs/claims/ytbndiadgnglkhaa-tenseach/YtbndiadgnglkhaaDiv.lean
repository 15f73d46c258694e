/- What fix.Div hands back, for all numbers. -/
import Derived.Test.YtbndiadgnglkhaaDiv64
namespace Go.Proofs.Ytbndiadgnglkhaa.Fx
open Go.RowKit Kn
set_option linter.unusedVariables false
theorem size_int (a x : Int) (ha : InR a) (hx : (a.natAbs : Int) = x) (w : World) :
    Calls Try.prog 62 #[.int .i64 a] w fun e w' => e = .returned (.int .u64 x) ∧ w' = w := by
  subst hx
  exact size_any a _ ha rfl w
theorem nearest_int (q r d : Int) (m : Nat) (hq0 : 0 ≤ q) (hq : q < 18446744073709551615) (hr0 : 0 ≤ r) (hr : r < d) (hd : d ≤ 9223372036854775808) (hm : nr q.toNat r.toNat d.toNat = m) (w : World) :
    Calls Try.prog 72 #[.int .u64 q, .int .u64 r, .int .u64 d] w fun e w' => e = .returned (.int .u64 m) ∧ w' = w := by
  subst hm
  obtain ⟨q, rfl⟩ := Int.eq_ofNat_of_zero_le hq0
  obtain ⟨r, rfl⟩ := Int.eq_ofNat_of_zero_le hr0
  obtain ⟨d, rfl⟩ := Int.eq_ofNat_of_zero_le (show 0 ≤ d by omega)
  exact nearest_any q r d (by omega) (by omega) (by omega) w
end Go.Proofs.Ytbndiadgnglkhaa.Fx
