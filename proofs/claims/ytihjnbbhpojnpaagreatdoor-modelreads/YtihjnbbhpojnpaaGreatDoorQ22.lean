/- Tensors: what conv.Row hands back. -/
import Derived.Test.YtihjnbbhpojnpaaGreatDoorQ13
set_option linter.unusedVariables false
set_option linter.unusedSimpArgs false
set_option maxHeartbeats 16000000
set_option maxRecDepth 16000
namespace Go.Proofs.YtihjnbbhpojnpaaGreatDoor.Wd
open Go.RowKit Fx
end Go.Proofs.YtihjnbbhpojnpaaGreatDoor.Wd
