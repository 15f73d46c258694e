/- The reference's halving, rounded: as whole numbers. · The reference's product of two whole numbers. · The reference's sum, difference, product, quotient of two Fix: as whole numbers. -/
import Derived.Test.YtaiigfhicaelkaaGreatDoorV29
import Derived.Test.YtaiigfhicaelkaaGreatDoorV05
import Derived.Test.YtaiigfhicaelkaaGreatDoorV28
import Derived.Test.YtaiigfhicaelkaaGreatDoorV06
import Derived.Test.YtaiigfhicaelkaaGreatDoorV02
set_option linter.unusedVariables false
set_option linter.unusedSimpArgs false
set_option maxHeartbeats 16000000
set_option maxRecDepth 16000
namespace Go.Proofs.YtaiigfhicaelkaaGreatDoor.Rf
open Go.RowKit Fx
attribute [local go_sem] setCell_drewN alloc_drewN
theorem lp_step (y:Int) (m:Nat):y % 2 ^ (m+1)=y % 2 ^ m+y / 2 ^ m % 2*2 ^ m:=by
 have h1:=Int.emod_add_mul_ediv y (2 ^ m)
 have h2:=Int.emod_add_mul_ediv y (2 ^ (m+1))
 have e:(2:Int) ^ (m+1)=2 ^ m*2:=Int.pow_succ 2 m
 have h3:y / 2 ^ (m+1)=y / 2 ^ m / 2:=by rw [div_two y m 1];rfl
 rw [h3,e] at h2
 rw [e]
 generalize (2:Int) ^ m=P at *
 generalize y / P=q at *
 have h4:P*2*(q / 2)+q % 2*P=P*q:=by
  have:q=2*(q / 2)+q % 2:=by omega
  conv=>rhs;rw [this]
  rw [Int.mul_add,← Int.mul_assoc,Int.mul_comm P (q % 2)]
 omega
/-- Whether a quotient by a power of two is rounded up, told by its bits. -/
theorem rq_down (x:Int) (k:Nat) (hb:x / 2 ^ k % 2=0):rqI x (2 ^ (k+1))=x / 2 ^ (k+1):=by
 have h:=lp_step x k
 have hp:=two_pos k
 have e:(2:Int) ^ (k+1)=2 ^ k*2:=Int.pow_succ 2 k
 have hl:=Int.emod_lt_of_pos x hp
 have hn:=Int.emod_nonneg x (Int.ne_of_gt hp)
 rw [hb] at h
 unfold rqI
 rw [if_neg (by rw [h];omega)]
theorem rq_up (x:Int) (k:Nat) (hb:x / 2 ^ k % 2=1) (more:Bool) (hm:more=true↔(x / 2 ^ (k+1) % 2=1∨x % 2 ^ k≠0)):rqI x (2 ^ (k+1))=x / 2 ^ (k+1)+(if more then 1 else 0):=by
 have h:=lp_step x k
 have hp:=two_pos k
 have e:(2:Int) ^ (k+1)=2 ^ k*2:=Int.pow_succ 2 k
 have hl:=Int.emod_lt_of_pos x hp
 have hn:=Int.emod_nonneg x (Int.ne_of_gt hp)
 rw [hb] at h
 unfold rqI
 cases more
 ·have hm':¬ (x / 2 ^ (k+1) % 2=1∨x % 2 ^ k≠0):=fun c=>by simpa using hm.2 c
  rw [if_neg (by rw [h];omega)]
  simp
 ·have hm':=hm.1 rfl
  rw [if_pos (by rw [h];omega)]
  simp
end Go.Proofs.YtaiigfhicaelkaaGreatDoor.Rf
namespace Go.Proofs.YtaiigfhicaelkaaGreatDoor.Rf
open Go.RowKit Fx
attribute [local go_sem] setCell_drewN alloc_drewN
theorem idx_0 (p q:Int) (W:World):Sem.run Tryz.prog (Instr.index 166 (.agg #[.int .u64 p,.int .u64 q]) (.int .i64 0)) W = .ok (.int .u64 p) W:=by
 simp [Instr.index,go_sem]
theorem idx_1 (p q:Int) (W:World):Sem.run Tryz.prog (Instr.index 166 (.agg #[.int .u64 p,.int .u64 q]) (.int .i64 1)) W = .ok (.int .u64 q) W:=by
 simp [Instr.index,go_sem]
attribute [local go_sem] idx_0 idx_1
end Go.Proofs.YtaiigfhicaelkaaGreatDoor.Rf
namespace Go.Proofs.YtaiigfhicaelkaaGreatDoor.Rf
open Go.RowKit Fx
theorem rqI_nat (x d:Nat):rqI (x:Int) (d:Int)=((rq x d:Nat):Int):=by
 unfold rqI rq
 rw [← Int.natCast_emod,← Int.natCast_ediv]
 generalize x % d=r
 generalize x / d=q
 split <;> split <;> omega
theorem sv_from (a:Int):sv (decide (a < 0)) (a.natAbs:Int)=a:=by
 unfold sv
 by_cases h:a < 0
 ·rw [if_pos (by simpa using h)];omega
 ·rw [if_neg (by simpa using h)];omega
theorem add_ref (a b:Int) (ha:InR a) (hb:InR b) (y:Int) (ey:hold (a+b)=y) (w:World):
  Calls Tryz.prog 22 #[.int .i64 a,.int .i64 b] w fun e w'=>e = .returned (.int .i64 y)∧Below w.heap.size w w':=by
 have E:Hid (hold (a+b)=y):=ey
 clear ey
 go_enter Tryz.func22,Tryz.ntmps22
 go_wp2_with fail
 refine (from_any a ha _).mono ?_
 rintro e w1 ⟨v,rfl,hv,hb1⟩
 go_wp2_with fail
 refine (from_any b hb _).mono ?_
 rintro e w2 ⟨u,rfl,hu,hb2⟩
 have hsm:(a.natAbs:Int)+(b.natAbs:Int) < 115792089237316195423570985008687907853269984665640564039457584007913129639936:=by unfold InR at ha hb;omega
 go_wp2_with fail
 refine (plus_any v u _ _ _ _ hv hu hsm _).mono ?_
 rintro e w3 ⟨z,r,m,rfl,hz,hs,hb3⟩
 clear hsm
 go_wp2_with fail
 refine (held_ref z r m hz _).mono ?_
 rintro e w4 ⟨rfl,hb4⟩
 go_wp2
 go_ret
 refine ⟨ret_int ?_,?_⟩
 ·rw [sv_from,sv_from];exact E.out
 ·have c1:=hb1.trans (hb2.mono hb1.size)
  have c2:=c1.trans (hb3.mono c1.size)
  exact c2.trans (hb4.mono c2.size)
end Go.Proofs.YtaiigfhicaelkaaGreatDoor.Rf
