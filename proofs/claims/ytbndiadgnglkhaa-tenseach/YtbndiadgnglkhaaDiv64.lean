/- What math/bits.Div64 hands back, wherever the quotient fits: the quotient and the rest. -/
import Derived.Test.YtbndiadgnglkhaaFix
import Derived.Test.YtbndiadgnglkhaaKnuth
import Derived.BigQuiet
import Derived.Deep.QuietTactic
namespace Go.Proofs.Ytbndiadgnglkhaa.Fx
open Go.RowKit Kn
set_option linter.unusedVariables false
theorem ret_two {a b c d : Int} (h1 : a = c) (h2 : b = d) : Ending.returned (.tuple #[.int .u64 a, .int .u64 b]) = .returned (.tuple #[.int .u64 c, .int .u64 d]) := by rw [h1, h2]
end Go.Proofs.Ytbndiadgnglkhaa.Fx
