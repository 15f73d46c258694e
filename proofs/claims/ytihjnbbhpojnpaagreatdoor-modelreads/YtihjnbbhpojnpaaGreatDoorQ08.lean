/- What math/bits.Div64 hands back, whereve -/
import Derived.Test.YtihjnbbhpojnpaaGreatDoorQ07
set_option linter.unusedVariables false
set_option linter.unusedSimpArgs false
set_option maxHeartbeats 16000000
set_option maxRecDepth 16000
namespace Go.Proofs.YtihjnbbhpojnpaaGreatDoor.Fx
open Go.RowKit Kn
end Go.Proofs.YtihjnbbhpojnpaaGreatDoor.Fx
