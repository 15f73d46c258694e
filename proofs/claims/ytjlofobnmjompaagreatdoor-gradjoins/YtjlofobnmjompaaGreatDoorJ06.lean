/- What the functions of package wide hand back: quotients by powers of two. What the functions of package wide hand back: a number by a power of two, rounded. -/
import Derived.Test.YtjlofobnmjompaaGreatDoorJ05
set_option linter.unusedVariables false
set_option linter.unusedSimpArgs false
set_option maxHeartbeats 16000000
set_option maxRecDepth 16000
namespace Go.Proofs.YtjlofobnmjompaaGreatDoor.Wd
open Go.RowKit Fx
/-- The table of the lowest bits' places, as its variable holds it. -/
def Tz (w:World):Prop:=∀ j,j < 64→w.cell? ⟨3,j,none⟩=some (.int .u8 (Lib.deBruijn64tab.getD j 0))
theorem wcell_lt {w:World} {b o:Nat} {v:Value} (h:w.cell? ⟨b,o,none⟩=some v):b < w.heap.size:=by
 by_cases c:b < w.heap.size
 ·exact c
 ·exfalso
  unfold World.cell? at h
  rw [show w.heap[b]?=none from by simp;omega] at h
  simp at h
theorem keep {W w1:World} {b o:Nat} {v:Value} (hb:Below W.heap.size W w1) (h:W.cell? ⟨b,o,none⟩=some v):w1.cell? ⟨b,o,none⟩=some v:=by
 rw [(bcell hb).1 _ _ (wcell_lt h)]
 exact h
theorem keepf {W w1:World} {b o:Nat} {v:Value} (hb:Below W.heap.size W w1) (h:W.cell? ⟨b,o,none⟩=some v) (hf:W.frozen? ⟨b,o,none⟩=false):w1.frozen? ⟨b,o,none⟩=false:=by
 rw [(bcell hb).2 _ _ (wcell_lt h)]
 exact hf
theorem Tz.up {w w1:World} (h:Tz w) (hb:Below w.heap.size w w1):Tz w1:=by
 intro j hj
 have h0:=h j hj
 rw [(bcell hb).1 _ _ (wcell_lt h0)]
 exact h0
theorem fld_hi (p q:Int) (W:World):Sem.run Tryz.prog (Instr.field 45 (.agg #[.int .i64 p,.int .u64 q]) 0) W = .ok (.int .i64 p) W:=by
 kernel_rfl
theorem fld_lo (p q:Int) (W:World):Sem.run Tryz.prog (Instr.field 45 (.agg #[.int .i64 p,.int .u64 q]) 1) W = .ok (.int .u64 q) W:=by
 kernel_rfl
attribute [local go_sem] fld_hi fld_lo
theorem wd_one:wd 1 = .agg #[.int .i64 0,.int .u64 1]:=(wd_eq (by decide) (by decide)).symm
end Go.Proofs.YtjlofobnmjompaaGreatDoor.Wd
