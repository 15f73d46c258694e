/- The reference's halving, rounded: as whole numbers. · The reference's product of two whole numbers. · The reference's sum, difference, product, quotient of two Fix: as whole numbers. -/
import Derived.Test.YtiampagapgjedaaGreatDoorP31
import Derived.Test.YtiampagapgjedaaGreatDoorP10
import Derived.Test.YtiampagapgjedaaGreatDoorP30
import Derived.Test.YtiampagapgjedaaGreatDoorP11
import Derived.Test.YtiampagapgjedaaGreatDoorP02
set_option linter.unusedVariables false
set_option linter.unusedSimpArgs false
set_option maxHeartbeats 16000000
set_option maxRecDepth 16000
namespace Go.Proofs.YtiampagapgjedaaGreatDoor.Rf
open Go.RowKit Fx
attribute [local go_sem] setCell_drewN alloc_drewN
end Go.Proofs.YtiampagapgjedaaGreatDoor.Rf
namespace Go.Proofs.YtiampagapgjedaaGreatDoor.Rf
open Go.RowKit Fx
attribute [local go_sem] setCell_drewN alloc_drewN
/-- Block b holds four words; below B all is as it was. -/
structure MemA (B:Nat) (W2:World) (b:Nat) (r0 r1 r2 r3:Int) (wr:World):Prop where
 below:Below B W2 wr
 le:B≤b
 lt:b < wr.heap.size
 c0:wr.cell? ⟨b,0,none⟩=some (.int .u64 r0)
 c1:wr.cell? ⟨b,1,none⟩=some (.int .u64 r1)
 c2:wr.cell? ⟨b,2,none⟩=some (.int .u64 r2)
 c3:wr.cell? ⟨b,3,none⟩=some (.int .u64 r3)
 fz:∀ o,wr.frozen? ⟨b,o,none⟩=false
 u0:U r0
 u1:U r1
 u2:U r2
 u3:U r3
theorem MemA.up {B:Nat} {W2 wr w1:World} {b:Nat} {r0 r1 r2 r3:Int} (h:MemA B W2 b r0 r1 r2 r3 wr) (hb:Below wr.heap.size wr w1):MemA B W2 b r0 r1 r2 r3 w1:=by
 obtain ⟨hc,hf⟩:=bcell hb
 have hl:wr.heap.size≤w1.heap.size:=hb.size
 have h1:=h.le
 have h2:=h.lt
 exact ⟨h.below.trans (hb.mono (by omega)),h.le,by omega,by rw [hc _ _ h2];exact h.c0,by rw [hc _ _ h2];exact h.c1,by rw [hc _ _ h2];exact h.c2,by rw [hc _ _ h2];exact h.c3,fun o=>by rw [hf _ _ h2];exact h.fz o,h.u0,h.u1,h.u2,h.u3⟩
theorem MemA.set {B:Nat} {W2 wr:World} {b:Nat} {r0 r1 r2 r3 v0 v1 v2 v3:Int} (h:MemA B W2 b r0 r1 r2 r3 wr) (h0:U v0) (h1:U v1) (h2:U v2) (h3:U v3):
  MemA B W2 b v0 v1 v2 v3 ((((wr.setCell ⟨b,0,none⟩ (.int .u64 v0)).setCell ⟨b,1,none⟩ (.int .u64 v1)).setCell ⟨b,2,none⟩ (.int .u64 v2)).setCell ⟨b,3,none⟩ (.int .u64 v3)):=by
 refine ⟨(((h.below.setCell h.le _).setCell h.le _).setCell h.le _).setCell h.le _,h.le,by simp only [World.size_setCell];exact h.lt,?_,?_,?_,?_,fun o=>by simp only [World.frozen?_setCell];exact h.fz o,h0,h1,h2,h3⟩
 ·rw [set_off (by omega),set_off (by omega),set_off (by omega)];exact set_same h.c0
 ·rw [set_off (by omega),set_off (by omega)];exact set_same (by rw [set_off (by omega)];exact h.c1)
 ·rw [set_off (by omega)];exact set_same (by rw [set_off (by omega),set_off (by omega)];exact h.c2)
 ·exact set_same (by rw [set_off (by omega),set_off (by omega),set_off (by omega)];exact h.c3)
theorem idx_0 (p q:Int) (W:World):Sem.run Tryz.prog (Instr.index 190 (.agg #[.int .u64 p,.int .u64 q]) (.int .i64 0)) W = .ok (.int .u64 p) W:=by
 simp [Instr.index,go_sem]
theorem idx_1 (p q:Int) (W:World):Sem.run Tryz.prog (Instr.index 190 (.agg #[.int .u64 p,.int .u64 q]) (.int .i64 1)) W = .ok (.int .u64 q) W:=by
 simp [Instr.index,go_sem]
attribute [local go_sem] idx_0 idx_1
end Go.Proofs.YtiampagapgjedaaGreatDoor.Rf
namespace Go.Proofs.YtiampagapgjedaaGreatDoor.Rf
open Go.RowKit Fx
theorem rqI_nat (x d:Nat):rqI (x:Int) (d:Int)=((rq x d:Nat):Int):=by
 unfold rqI rq
 rw [← Int.natCast_emod,← Int.natCast_ediv]
 generalize x % d=r
 generalize x / d=q
 split <;> split <;> omega
theorem shifted_any (v:Value) (s:Bool) (x:Int) (hv:IsN v s x) (hx:x*4294967296 < 115792089237316195423570985008687907853269984665640564039457584007913129639936) (w:World):
  Calls Tryz.prog 119 #[v,.int .i64 32] w fun e w'=>∃ u,e = .returned u∧IsN u s (x*4294967296)∧Below w.heap.size w w':=by
 have hr:=hv.rng
 obtain ⟨a0,a1,a2,a3,rfl,p0,p1,p2,p3,hX⟩:=hv
 have h:=Shifted_low s a0 a1 a2 a3 p0 p1 p2 p3 32 (by omega) 32 rfl (by omega) (x*4294967296) (by show _=_;rw [hX];rfl) (by
  show x*4294967296 / 2 ^ 256*2 ^ 256=0
  rw [Int.ediv_eq_zero_of_lt (by omega) (show x*4294967296 < 2 ^ 256 from hx),Int.zero_mul]) w
 rw [show hp (x*4294967296) 32=x*4294967296 from by
  unfold hp
  rw [show (2:Int) ^ 32=4294967296 from rfl,Int.mul_ediv_cancel _ (by omega)]] at h
 exact h
theorem divided_any (v:Value) (s:Bool) (x by_:Int) (hv:IsN v s x) (hby:InR by_) (h0:by_≠0) (w:World):
  Calls Tryz.prog 118 #[v,.int .i64 by_] w fun e w'=>∃ u,e = .returned u∧IsN u (s != decide (by_ < 0)) (rqI x (by_.natAbs:Int))∧Below w.heap.size w w':=by
 have hr:=hv.rng
 obtain ⟨a0,a1,a2,a3,rfl,p0,p1,p2,p3,hX⟩:=hv
 exact Divided_low s a0 a1 a2 a3 p0 p1 p2 p3 by_ (by_.natAbs:Int) hby (by unfold InR at hby;omega) rfl x ⟨hX,hr.1,hr.2⟩ _ (by show _=_;cases s <;> cases decide (by_ < 0) <;> rfl) w
theorem sv_from (a:Int):sv (decide (a < 0)) (a.natAbs:Int)=a:=by
 unfold sv
 by_cases h:a < 0
 ·rw [if_pos (by simpa using h)];omega
 ·rw [if_neg (by simpa using h)];omega
theorem sv_turn (s:Bool) (x:Int):sv (!s) x = -sv s x:=by
 unfold sv;cases s <;> simp
theorem add_ref (a b:Int) (ha:InR a) (hb:InR b) (y:Int) (ey:hold (a+b)=y) (w:World):
  Calls Tryz.prog 56 #[.int .i64 a,.int .i64 b] w fun e w'=>e = .returned (.int .i64 y)∧Below w.heap.size w w':=by
 have E:Hid (hold (a+b)=y):=ey
 clear ey
 go_enter Tryz.func56,Tryz.ntmps56
 go_wp2_with fail
 refine (from_any a ha _).mono ?_
 rintro e w1 ⟨v,rfl,hv,hb1⟩
 go_wp2_with fail
 refine (from_any b hb _).mono ?_
 rintro e w2 ⟨u,rfl,hu,hb2⟩
 have hsm:(a.natAbs:Int)+(b.natAbs:Int) < 115792089237316195423570985008687907853269984665640564039457584007913129639936:=by unfold InR at ha hb;omega
 go_wp2_with fail
 refine (plus_any v u _ _ _ _ hv hu hsm _).mono ?_
 rintro e w3 ⟨z,r,m,rfl,hz,hs,hb3⟩
 clear hsm
 go_wp2_with fail
 refine (held_ref z r m hz _).mono ?_
 rintro e w4 ⟨rfl,hb4⟩
 go_wp2
 go_ret
 refine ⟨ret_int ?_,?_⟩
 ·rw [sv_from,sv_from];exact E.out
 ·have c1:=hb1.trans (hb2.mono hb1.size)
  have c2:=c1.trans (hb3.mono c1.size)
  exact c2.trans (hb4.mono c2.size)
theorem sub_ref (a b:Int) (ha:InR a) (hb:InR b) (y:Int) (ey:hold (a - b)=y) (w:World):
  Calls Tryz.prog 57 #[.int .i64 a,.int .i64 b] w fun e w'=>e = .returned (.int .i64 y)∧Below w.heap.size w w':=by
 have E:Hid (hold (a - b)=y):=ey
 clear ey
 go_enter Tryz.func57,Tryz.ntmps57
 go_wp2_with fail
 refine (from_any a ha _).mono ?_
 rintro e w1 ⟨v,rfl,hv,hb1⟩
 go_wp2_with fail
 refine (from_any b hb _).mono ?_
 rintro e w2 ⟨u,rfl,hu,hb2⟩
 go_wp2_with fail
 refine (turned_any u _ _ hu _).mono ?_
 rintro e w5 ⟨t,rfl,ht,hb5⟩
 have hsm:(a.natAbs:Int)+(b.natAbs:Int) < 115792089237316195423570985008687907853269984665640564039457584007913129639936:=by unfold InR at ha hb;omega
 go_wp2_with fail
 refine (plus_any v t _ _ _ _ hv ht hsm _).mono ?_
 rintro e w3 ⟨z,r,m,rfl,hz,hs,hb3⟩
 clear hsm
 go_wp2_with fail
 refine (held_ref z r m hz _).mono ?_
 rintro e w4 ⟨rfl,hb4⟩
 go_wp2
 go_ret
 refine ⟨ret_int ?_,?_⟩
 ·rw [sv_turn,sv_from,sv_from,← Int.sub_eq_add_neg];exact E.out
 ·have c1:=hb1.trans (hb2.mono hb1.size)
  have c2:=c1.trans (hb5.mono c1.size)
  have c3:=c2.trans (hb3.mono c2.size)
  exact c3.trans (hb4.mono c3.size)
theorem neg_ref (a:Int) (ha:InR a) (y:Int) (ey:hold (-a)=y) (w:World):
  Calls Tryz.prog 86 #[.int .i64 a] w fun e w'=>e = .returned (.int .i64 y)∧Below w.heap.size w w':=by
 have E:Hid (hold (0 - a)=y):=by show _=_;rw [Int.zero_sub];exact ey
 clear ey
 go_enter Tryz.func86,Tryz.ntmps86
 go_wp2_with fail
 refine (sub_ref 0 a (by unfold InR;omega) ha y E.out _).mono ?_
 rintro e w1 ⟨rfl,hb1⟩
 go_wp2
 go_ret
 exact ⟨rfl,hb1⟩
theorem nought_ref (n z:Bool) (w:World):
  Calls Tryz.prog 117 #[.bool n,.bool z] w fun e w'=>e = .returned (.int .i64 (if z then 0 else lim n))∧w'=w:=by
 cases n <;> cases z
 all_goals
  go_enter Tryz.func117,Tryz.ntmps117
  go_wp2
  go_ret
  exact ⟨rfl,rfl⟩
theorem div_ref (a b:Int) (ha:InR a) (hb:InR b) (y:Int) (ey:divI a b=y) (w:World):
  Calls Tryz.prog 84 #[.int .i64 a,.int .i64 b] w fun e w'=>e = .returned (.int .i64 y)∧Below w.heap.size w w':=by
 have E:Hid (divI a b=y):=ey
 clear ey
 by_cases h0:b=0
 ·have h0':(b==0)=true:=by simpa using h0
  have H0:Hid (b=0):=h0
  clear h0
  obtain ⟨yy,eyy⟩:∃ t,t=if (a==0) then 0 else lim (decide (a < 0)):=⟨_,rfl⟩
  have EY:Hid (yy=y):=by
   show _=_
   rw [← E.out,H0.out,eyy]
   unfold divI overI lim
   by_cases h1:a=0
   ·simp [h1]
   ·by_cases h2:a < 0 <;> simp [h1,h2]
  go_enter Tryz.func84,Tryz.ntmps84
  go_wp2_with fail
  have c:=nought_ref (decide (a < 0)) (a==0) w
  rw [← eyy] at c
  clear eyy
  refine c.mono ?_
  rintro e w1 ⟨rfl,rfl⟩
  go_wp2
  go_ret
  exact ⟨ret_int EY.out,Below.refl _ _⟩
 ·have h0':(b==0)=false:=by simpa using h0
  have H0:Hid (b≠0):=h0
  clear h0
  go_enter Tryz.func84,Tryz.ntmps84
  go_wp2_with fail
  refine (from_any a ha _).mono ?_
  rintro e w1 ⟨v,rfl,hv,hb1⟩
  have hsm:(a.natAbs:Int)*4294967296 < 115792089237316195423570985008687907853269984665640564039457584007913129639936:=by unfold InR at ha;omega
  go_wp2_with fail
  refine (shifted_any v _ _ hv hsm _).mono ?_
  rintro e w2 ⟨u,rfl,hu,hb2⟩
  clear hsm
  go_wp2_with fail
  refine (divided_any u _ _ b hu hb H0.out _).mono ?_
  rintro e w3 ⟨t,rfl,ht,hb3⟩
  go_wp2_with fail
  refine (held_ref t _ _ ht _).mono ?_
  rintro e w4 ⟨rfl,hb4⟩
  go_wp2
  go_ret
  refine ⟨ret_int ?_,?_⟩
  ·rw [← E.out,show (a.natAbs:Int)*4294967296=((a.natAbs*4294967296:Nat):Int) from rfl,rqI_nat]
   unfold divI
   rw [if_neg H0.out]
   rfl
  ·have c1:=hb1.trans (hb2.mono hb1.size)
   have c2:=c1.trans (hb3.mono c1.size)
   exact c2.trans (hb4.mono c2.size)
end Go.Proofs.YtiampagapgjedaaGreatDoor.Rf
