/- The reference's in, product, formed. -/
import Derived.Test.YtjlofobnmjompaaGreatDoorJ36
set_option linter.unusedVariables false
set_option linter.unusedSimpArgs false
set_option maxHeartbeats 16000000
set_option maxRecDepth 16000
namespace Go.Proofs.YtjlofobnmjompaaGreatDoor.Wd
open Go.RowKit
end Go.Proofs.YtjlofobnmjompaaGreatDoor.Wd
