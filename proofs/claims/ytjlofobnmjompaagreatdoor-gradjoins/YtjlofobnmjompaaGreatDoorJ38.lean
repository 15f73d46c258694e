/- The reference's Shapes. -/
import Derived.Test.YtjlofobnmjompaaGreatDoorJ37
import Derived.Deep.CutBlock
set_option linter.unusedVariables false
set_option linter.unusedSimpArgs false
set_option maxHeartbeats 16000000
set_option maxRecDepth 16000
namespace Go.Proofs.YtjlofobnmjompaaGreatDoor.Wd
open Go.RowKit
end Go.Proofs.YtjlofobnmjompaaGreatDoor.Wd
