/- The greatest of so many: what conv.first -/
import Derived.Test.YtihjnbbhpojnpaaGreatDoorQ13
set_option linter.unusedVariables false
set_option linter.unusedSimpArgs false
set_option maxHeartbeats 16000000
set_option maxRecDepth 16000
namespace Go.Proofs.YtihjnbbhpojnpaaGreatDoor.Wd
open Go.RowKit Fx
/-- Pool: what the document says. -/
abbrev plW (d:List Int) (wd:Int):Prop:=1≤wd∧wd≤d.getD 1 0
def plE (d x:List Int) (wd:Int):Int:=if isP d x then if d.length=2 then if plW d wd then 0 else 1 else 4 else 1
def plD (d x:List Int) (wd:Int):List Int:=if isP d x∧d.length=2∧plW d wd then [d.getD 0 0,(((d.getD 1 0).toNat / wd.toNat:Nat):Int)] else []
def plV (d x:List Int) (wd:Int):List Int:=if isP d x∧d.length=2∧plW d wd then poolV (d.getD 0 0).toNat (d.getD 1 0).toNat ((d.getD 1 0).toNat / wd.toNat) wd.toNat x else []
end Go.Proofs.YtihjnbbhpojnpaaGreatDoor.Wd
