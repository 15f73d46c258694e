/- Tensors: what slices.Repeat of one numbe -/
import Derived.Test.YtihjnbbhpojnpaaGreatDoorQ04
import Derived.Laws.CopyOwn
import Derived.Deep.RegionLaw
set_option linter.unusedVariables false
set_option linter.unusedSimpArgs false
set_option maxHeartbeats 16000000
set_option maxRecDepth 16000
namespace Go.Proofs.YtihjnbbhpojnpaaGreatDoor.Wd
open Go.RowKit
theorem OwnK.heap {k:IntKind} {e:TypeId} {W:World} {B g n:Nat} {l:List Int} (h:OwnK k e W B (.slice (some ⟨g,0,none⟩) n n) l) (hn:l.length=n):W.heap[g]?=some (.cells (vals k l).toArray e (0,0))∧B≤g:=by
 subst hn
 rcases h.2 with ⟨h1,_⟩|⟨q,cap,cur,h1,h2,h3,h4,h5,h6,h7⟩
 ·cases h1
 ·cases h1
  have e1:cur=(vals k l).toArray:=by
   rw [Nat.mul_one] at h6 h7
   rw [← h7,List.take_of_length_le (by simp;omega)]
  rw [e1] at h3
  exact ⟨h3,h2⟩
def newD (d:List Int):List Int:=if goodN (ntl d) then d else []
theorem size_alloc (W:World) (o:Obj):(W.alloc o).heap.size=W.heap.size+1:=Array.size_push _
end Go.Proofs.YtihjnbbhpojnpaaGreatDoor.Wd
