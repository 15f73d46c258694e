/- The law's net: the document's own of a net. · The reference's Shapes, reckoned: what it sums up on its way, and what that comes to. -/
import Derived.Test.YtjlofobnmjompaaGreatDoorJ35
import Derived.Test.YtjlofobnmjompaaGreatDoorJ25
set_option linter.unusedVariables false
set_option linter.unusedSimpArgs false
set_option maxHeartbeats 16000000
set_option maxRecDepth 16000
namespace Go.Proofs.YtjlofobnmjompaaGreatDoor.Wd
open Go.RowKit
/-- A slice of layers of the call's own, by its elements' type. -/
def LyE (e:TypeId) (W:World) (B:Nat) (v:Value) (ls:List Ly):Prop:=W.ownsRow B e 3 v ls.length (ls.flatMap lyC)
theorem LyE.up {e:TypeId} {W W':World} {B:Nat} {v:Value} {ls:List Ly} (h:LyE e W B v ls) (hB:Below W.heap.size W W'):LyE e W' B v ls:=owns_only (S:=[]) h (Only.of hB) (by simp)
end Go.Proofs.YtjlofobnmjompaaGreatDoor.Wd
namespace Go.Proofs.YtjlofobnmjompaaGreatDoor.Wd
end Go.Proofs.YtjlofobnmjompaaGreatDoor.Wd
