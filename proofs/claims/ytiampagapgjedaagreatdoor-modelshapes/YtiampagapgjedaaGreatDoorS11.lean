/- What math/bits.Div64 hands back, wherever the quotient fits: the quotient and the rest. What fix.Div hands back, for all numbers. -/
import Derived.Test.YtiampagapgjedaaGreatDoorS05
import Derived.Test.YtiampagapgjedaaGreatDoorS10
import Derived.BigQuiet
import Derived.Deep.QuietTactic
set_option linter.unusedVariables false
set_option linter.unusedSimpArgs false
set_option maxHeartbeats 16000000
set_option maxRecDepth 16000
namespace Go.Proofs.YtiampagapgjedaaGreatDoor.Fx
open Go.RowKit Kn
end Go.Proofs.YtiampagapgjedaaGreatDoor.Fx
