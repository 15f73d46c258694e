/- Tensors: what the reference's Turn hands back. -/
import Derived.Test.YtpdkkcnmgiihcaaGreatDoorP29
import Derived.Test.YtpdkkcnmgiihcaaGreatDoorP09
import Derived.Test.YtpdkkcnmgiihcaaGreatDoorP02
import Derived.Test.YtpdkkcnmgiihcaaGreatDoorP08
set_option linter.unusedVariables false
set_option linter.unusedSimpArgs false
set_option maxHeartbeats 16000000
set_option maxRecDepth 16000
namespace Go.Proofs.YtpdkkcnmgiihcaaGreatDoor.Wd
open Go.RowKit
end Go.Proofs.YtpdkkcnmgiihcaaGreatDoor.Wd
