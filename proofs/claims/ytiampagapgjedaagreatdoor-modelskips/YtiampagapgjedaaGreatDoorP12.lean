/- What the functions of package wide hand back: a number by another, rounded and held. What the functions of package wide hand back: a number by another, rounded and held. -/
import Derived.Test.YtiampagapgjedaaGreatDoorP09
import Derived.Test.YtiampagapgjedaaGreatDoorP11
set_option linter.unusedVariables false
set_option linter.unusedSimpArgs false
set_option maxHeartbeats 16000000
set_option maxRecDepth 16000
namespace Go.Proofs.YtiampagapgjedaaGreatDoor.Wd
open Go.RowKit Fx
attribute [local go_sem] fld_hi fld_lo
end Go.Proofs.YtiampagapgjedaaGreatDoor.Wd
namespace Go.Proofs.YtiampagapgjedaaGreatDoor.Wd
open Go.RowKit Fx
attribute [local go_sem] fld_hi fld_lo
theorem below_drewN {B:Nat} {a w:World} (h:Below B a w) (n:Nat):Below B a (w.drewN n):=⟨h.os,h.tape,h.output,h.size,h.block⟩
end Go.Proofs.YtiampagapgjedaaGreatDoor.Wd
