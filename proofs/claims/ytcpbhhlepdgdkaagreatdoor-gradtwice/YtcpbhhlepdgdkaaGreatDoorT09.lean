/- Tensors: what matm.Mul hands back. -/
import Derived.Test.YtcpbhhlepdgdkaaGreatDoorT08
set_option linter.unusedVariables false
set_option linter.unusedSimpArgs false
set_option maxHeartbeats 16000000
set_option maxRecDepth 16000
namespace Go.Proofs.YtcpbhhlepdgdkaaGreatDoor.Wd
open Go.RowKit Fx
/-- Two matrices that can be multiplied. -/
abbrev mP (d x d' y:List Int):Prop:=(isP d x/\isP d' y)/\d'.length=2/\d.length=2/\d.getD 1 0=d'.getD 0 0
abbrev mG (d d':List Int):Prop:=goodN (ntl [d.getD 0 0,d'.getD 1 0])
def mE (d x d' y:List Int):Int:=if isP d x/\isP d' y then if mP d x d' y then if mG d d' then 0 else 2 else 4 else 1
def mD (d x d' y:List Int):List Int:=if mP d x d' y/\mG d d' then [d.getD 0 0,d'.getD 1 0] else []
def mV (d x d' y:List Int):List Int:=if mP d x d' y/\mG d d' then s_O (d.getD 0 0).toNat (d.getD 1 0).toNat (d'.getD 1 0).toNat x y else []
end Go.Proofs.YtcpbhhlepdgdkaaGreatDoor.Wd
