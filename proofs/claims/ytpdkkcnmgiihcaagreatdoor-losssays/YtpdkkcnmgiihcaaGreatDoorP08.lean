/- Tensors: what tens.eachOnce and tens.Turn hand back. -/
import Derived.Test.YtpdkkcnmgiihcaaGreatDoorP03
import Derived.Test.YtpdkkcnmgiihcaaGreatDoorP02
set_option linter.unusedVariables false
set_option linter.unusedSimpArgs false
set_option maxHeartbeats 16000000
set_option maxRecDepth 16000
namespace Go.Proofs.YtpdkkcnmgiihcaaGreatDoor.Wd
open Go.RowKit
def bvals (l:List Bool):List Value:=l.map Value.bool
/-- A slice of bools of the call's own. -/
def OwnB (W:World) (B:Nat) (v:Value) (l:List Bool):Prop:=W.ownsRow B 4 1 v l.length (bvals l)
theorem OwnB.cell {W:World} {B g n c:Nat} {l:List Bool} (h:OwnB W B (.slice (some ⟨g,0,none⟩) n c) l) (hn:l.length=n) (j:Nat) (hj:j < n):W.cell? ⟨g,j,none⟩=some (.bool (l.getD j false))∧W.frozen? ⟨g,j,none⟩=false:=by
 subst hn
 refine ⟨?_,World.ownsRow.frozenAt h j⟩
 rw [World.ownsRow.cellAt h j (by omega)]
 unfold bvals
 rw [List.getElem?_map,List.getElem?_eq_getElem hj,List.getD_eq_getElem?_getD,List.getElem?_eq_getElem hj]
 rfl
end Go.Proofs.YtpdkkcnmgiihcaaGreatDoor.Wd
