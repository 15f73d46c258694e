/- Bits of numbers of four words: plain arithmetic. A signed number that lies in memory, bit by bit; the reference's shift. The reference's division, rounded: as whole numbers. -/
import Derived.Test.YtaiigfhicaelkaaGreatDoorV28
set_option linter.unusedVariables false
set_option linter.unusedSimpArgs false
set_option maxHeartbeats 16000000
set_option maxRecDepth 16000
namespace Go.Proofs.YtaiigfhicaelkaaGreatDoor.Rf
open Go.RowKit Fx
theorem two_pos (n:Nat):(0:Int) < 2 ^ n:=Int.pow_pos (by decide)
theorem div_two (x:Int) (e r:Nat):x / 2 ^ (e+r)=x / 2 ^ e / 2 ^ r:=by
 have h:=two_pos e
 rw [Int.pow_add,Int.ediv_ediv,if_neg (fun c=>by omega),Int.sub_zero]
/-- A number's part from bit k on. -/
def hp (x:Int) (k:Nat):Int:=x / 2 ^ k*2 ^ k
attribute [local go_sem] setCell_drewN alloc_drewN
end Go.Proofs.YtaiigfhicaelkaaGreatDoor.Rf
namespace Go.Proofs.YtaiigfhicaelkaaGreatDoor.Rf
open Go.RowKit Fx
attribute [local go_sem] setCell_drewN alloc_drewN
/-- A quotient of whole numbers, rounded. -/
def rqI (x d:Int):Int:=if d < 2*(x % d)∨(2*(x % d)=d∧x / d % 2=1) then x / d+1 else x / d
end Go.Proofs.YtaiigfhicaelkaaGreatDoor.Rf
