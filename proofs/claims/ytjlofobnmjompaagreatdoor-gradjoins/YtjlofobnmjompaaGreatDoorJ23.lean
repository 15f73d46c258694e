/- Tensors: what conv.BackKernel hands back. -/
import Derived.Test.YtjlofobnmjompaaGreatDoorJ15
set_option linter.unusedVariables false
set_option linter.unusedSimpArgs false
set_option maxHeartbeats 16000000
set_option maxRecDepth 16000
namespace Go.Proofs.YtjlofobnmjompaaGreatDoor.Wd
open Go.RowKit Fx
end Go.Proofs.YtjlofobnmjompaaGreatDoor.Wd
