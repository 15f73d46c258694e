/- What package shape's From hands back. -/
import Derived.Test.YtbndiadgnglkhaaShpD
import Derived.Test.YtbndiadgnglkhaaShpK
namespace Go.Proofs.Ytbndiadgnglkhaa.Wd
open Go.RowKit
set_option linter.unusedVariables false
set_option linter.unusedSimpArgs false
theorem RI_joinL (a b : List Int) : RI (joinL a b) := fun y hy => by have := joinL_rng a b y hy; omega
theorem below_drew {w w1 : World} {B : Nat} (h : Below B w w1) (n : Nat) : Below B w (w1.drewN n) := h.trans ⟨rfl, rfl, rfl, Nat.le_refl _, fun _ _ => rfl⟩
theorem ret_two {a b : Int} {c d : Bool} (h1 : a = b) (h2 : c = d) : Ending.returned (.tuple #[.int .i64 a, .bool c]) = .returned (.tuple #[.int .i64 b, .bool d]) := by rw [h1, h2]
end Go.Proofs.Ytbndiadgnglkhaa.Wd
