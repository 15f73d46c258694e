/- The reference's reckon: the document's table; the rest, and all of it. · The reference's Do: what it says, and where it refuses. · The reference's Do: a node more. · The reference's Do, whatever it is asked. · A struct of two slices of integers that came in by value (a tensor): what a walk is told of it. Nothing of the program is named here. · A slice of calls that came in (structs of four integers and a tensor): what a walk is told of it. Nothing of the program is named here. · The laws' own helpers over tapes: small, total, row. · The law's played: a tape and the reference's, by the same cal -/
import Derived.Test.YtlhpmjcdkpfjdaaGreatDoorY27
import Derived.Test.YtlhpmjcdkpfjdaaGreatDoorY28
import Derived.Test.YtlhpmjcdkpfjdaaGreatDoorY30
import Derived.Test.YtlhpmjcdkpfjdaaGreatDoorY32
import Derived.Test.YtlhpmjcdkpfjdaaGreatDoorY33
import Derived.Test.YtlhpmjcdkpfjdaaGreatDoorY02
import Derived.Test.YtlhpmjcdkpfjdaaGreatDoorY21
import Derived.Test.YtlhpmjcdkpfjdaaGreatDoorY00
import Derived.Lib.SmallJoins
import Derived.Deep.Slices
import Derived.ChangeSame
import Derived.Test.YtlhpmjcdkpfjdaaGreatDoorY14
import Derived.Test.YtlhpmjcdkpfjdaaGreatDoorY17
set_option linter.unusedVariables false
set_option linter.unusedSimpArgs false
set_option maxHeartbeats 16000000
set_option maxRecDepth 16000
namespace Go.Proofs.YtlhpmjcdkpfjdaaGreatDoor.Wd
open Go.RowKit Fx
theorem rk6:RkP 6:=by
 intro p p2 p3 p4 n c n2 c2 n3 c3 n4 c4 dd yy d' y' K hK hg hd' hy' hnc w h1 h2 h3 h4
 have hd:=hg.2.1
 have hx:=hg.2.2
 obtain ⟨E,eE⟩:∃ E,rkE 6 dd yy d' y' K=E:=⟨_,rfl⟩
 obtain ⟨D,eD⟩:∃ D,rkD 6 dd yy d' y' K=D:=⟨_,rfl⟩
 obtain ⟨V,eV⟩:∃ V,rkV 6 dd yy d' y' K=V:=⟨_,rfl⟩
 rw [eE,eD,eV]
 have cc:∀ W,Below w.heap.size w W→Calls Tryz.prog 90 #[.agg #[.slice p n c,.slice p2 n2 c2],.agg #[.slice p3 n3 c3,.slice p4 n4 c4]] W fun e w'=>∃ v',e = .returned (.tuple #[v',.int .i64 E])∧TRes w' W.heap.size v' D V∧Below W.heap.size W w':=fun W hW=>by
  rw [← eE,← eD,← eV]
  exact rmul_any p p2 p3 p4 n c n2 c2 n3 c3 n4 c4 dd yy d' y' hd hx hd' hy' W (h1.up hW) (h2.up hW) (h3.up hW) (h4.up hW)
 clear eE eD eV h1 h2 h3 h4 hd hx hd' hy' hg hK hnc
 go_enter Tryz.func59,Tryz.ntmps59
 go_wp2_with fail
 generalize hW0:World.alloc _ _=W0
 obtain ⟨HB0,XA,XB,XR⟩:=box3 hW0
 clear hW0
 refine (cc W0 HB0.out).mono ?_
 rintro e w1 ⟨v1,rfl,⟨s1,t1,rfl,hs,ht⟩,hB1⟩
 obtain ⟨pa,na,ca,rfl,_⟩:=hs.nums.lst
 obtain ⟨pb,nb,cb,rfl,_⟩:=ht.nums.lst
 clear cc
 obtain ⟨HF,r0,r1,r2,r3,z0,z1⟩:=fin2 XR HB0 hB1 hs ht (by omega)
 clear hs ht
 go_wp2
 exact bodyPost_ret (v:=.tuple #[.agg #[.slice pa na ca,.slice pb nb cb],.int .i64 E]) (by simp [results,Tryz.results59,go_sem,z0,z1]) rfl ⟨_,rfl,HF.out⟩
theorem rk8:RkP 8:=by
 intro p p2 p3 p4 n c n2 c2 n3 c3 n4 c4 dd yy d' y' K hK hg hd' hy' hnc w h1 h2 h3 h4
 have hd:=hg.2.1
 have hx:=hg.2.2
 obtain ⟨E,eE⟩:∃ E,rkE 8 dd yy d' y' K=E:=⟨_,rfl⟩
 obtain ⟨D,eD⟩:∃ D,rkD 8 dd yy d' y' K=D:=⟨_,rfl⟩
 obtain ⟨V,eV⟩:∃ V,rkV 8 dd yy d' y' K=V:=⟨_,rfl⟩
 rw [eE,eD,eV]
 obtain ⟨z,ez⟩:∃ z,whI K=z:=⟨_,rfl⟩
 have HC:Hid (∀ W,Below w.heap.size w W→Calls Tryz.prog 92 #[.agg #[.slice p n c,.slice p2 n2 c2],.int .i64 z] W fun e w'=>∃ v',e = .returned (.tuple #[v',.int .i64 E])∧TRes w' W.heap.size v' D V∧Below W.heap.size W w'):=fun W hW=>by
  rw [← eE,← eD,← eV,← ez]
  have hw:=sm_wh (k:=K) hg.1
  show Calls _ _ _ _ fun e w'=>∃ v',e = .returned (.tuple #[v',.int .i64 (smE dd yy K)])∧TRes w' W.heap.size v' (smD dd yy K) (smV dd yy K)∧Below W.heap.size W w'
  rw [← hw.1,← hw.2.1,← hw.2.2]
  exact rsum_any p p2 n c n2 c2 dd yy (whI K) (whI_rng hK) hd hx (by obtain ⟨_,_,_,e4,HD⟩:=h1.lst;cases e4;have h5:=hg.1.1.1;rw [ntl_len,HD.out.1] at h5;omega) hnc W (h1.up hW) (h2.up hW)
 have cw:∀ W,Calls Tryz.prog 93 #[.int .i64 K] W fun e w'=>e = .returned (.int .i64 z)∧w'=W:=fun W=>rwhole_any K z ez W
 haveI:Nonempty World:=⟨w⟩
 clear eE eD eV ez h1 h2 h3 h4 hd hx hd' hy' hg hK hnc
 go_enter Tryz.func59,Tryz.ntmps59
 go_wp2_with fail
 generalize hW0:World.alloc _ _=W0
 obtain ⟨HB0,XA,XB,XR⟩:=box3 hW0
 clear hW0
 obtain ⟨a0,a1,_,_⟩:=XA.out
 obtain ⟨b0,b1,_,_⟩:=XB.out
 have k0:=cell_lt a0
 have k1:=cell_lt b0
 refine rel [⟨3,50,TupP W0.heap.size D V E⟩,⟨4,51,OwnT W0.heap.size D V⟩] 6 100 (by kernel_rfl) rfl rfl (by kernel_rfl) (by rfl) ?_ ?_
 ·intro e he v W W' h hb
  simp only [List.mem_cons,List.not_mem_nil,or_false] at he
  rcases he with rfl|rfl
  ·exact TupP.up h hb
  ·exact OwnT.up h hb
 apply Exists.intro
 refine ⟨fun x=>?_,?_,?_⟩
 ·simp only [List.take_succ_cons,List.take_zero]
  iterate 2
   refine relQuiet rfl rfl ?_
   apply Exists.intro
   refine ⟨fun F hF hf K hK=>?_,?_⟩
   ·have hFc:=hF.cell
    have hFf:=hF.frozen
    go_big_quiet_op
    exact hK
   (try simp only [putL])
  refine relQuiet rfl rfl ?_
  apply Exists.intro
  refine ⟨fun F hF hf K hK=>?_,?_⟩
  ·have hFc:=hF.cell
   have hFf:=hF.frozen
   go_big_quiet_op
   first|exact hK|(apply Exists.intro;refine ⟨fun _=>?_,?_⟩;(· exact hF.same (cw _));exact hK)
  (try simp only [putL])
  refine relTold rfl rfl ?_ ?_
  ·intro F hF hf d
   have hFc:=hF.cell
   have hFf:=hF.frozen
   simp [yieldsR,yieldsUpon,go_sem]
   refine (HC.out (F d) (bstep HB0.out (hF.below d))).mono ?_
   rintro e' w8 ⟨v8,rfl,h8,hb8⟩
   exact ⟨_,rfl,⟨v8,rfl,(h8.low (hF.below d).size).own⟩,hb8⟩
  (try simp only [putL])
  refine relTold rfl rfl ?_ ?_
  ·intro F hF hf d
   have hFc:=hF.cell
   have hFf:=hF.frozen
   have h9:=hf _ List.mem_cons_self (by rfl) d
   obtain ⟨u9,e9,n9⟩:=h9
   simp only [] at e9 n9
   simp [yieldsR,yieldsUpon,go_sem,e9]
   exact ⟨n9,Below.refl _ _⟩
  (try simp only [putL])
  refine relQuiet rfl rfl ?_
  apply Exists.intro
  refine ⟨fun F hF hf K hK=>?_,?_⟩
  ·have hFc:=hF.cell
   have hFf:=hF.frozen
   have h9:=hf _ List.mem_cons_self (by rfl)
   obtain ⟨u9,e9,_⟩:=h9 w
   simp only [] at e9
   go_big_quiet_op
   exact hK
  (try simp only [putL])
  refine relEnd ?_
  exact rfl
 ·exact fun x=>rfl
 ·intro w1 xs hB1 hf
  simp only [List.drop_succ_cons,List.drop_zero]
  have hT1:=hf _ (List.mem_cons_of_mem _ List.mem_cons_self)
  obtain ⟨xc,ec⟩:∃ q,xs 3=q:=⟨_,rfl⟩
  obtain ⟨xx,ex⟩:∃ q,xs 4=q:=⟨_,rfl⟩
  simp only [ex] at hT1
  simp only [ec,ex]
  obtain ⟨pa,na,ca,pb,nb,cb,rfl,hs,ht⟩:=hT1
  clear ec ex hf HC a0 a1 b0 b1 k0 k1 cw
  obtain ⟨HF,r0,r1,r2,r3,z0,z1⟩:=fin2 XR HB0 hB1 hs ht (by omega)
  clear hs ht
  go_wp2
  exact bodyPost_ret (v:=.tuple #[.agg #[.slice pa na ca,.slice pb nb cb],.int .i64 E]) (by simp [results,Tryz.results59,go_sem,z0,z1]) rfl ⟨_,rfl,HF.out⟩
theorem rk12:RkP 12:=by
 intro p p2 p3 p4 n c n2 c2 n3 c3 n4 c4 dd yy d' y' K hK hg hd' hy' hnc w h1 h2 h3 h4
 have hd:=hg.2.1
 have hx:=hg.2.2
 obtain ⟨E,eE⟩:∃ E,rkE 12 dd yy d' y' K=E:=⟨_,rfl⟩
 obtain ⟨D,eD⟩:∃ D,rkD 12 dd yy d' y' K=D:=⟨_,rfl⟩
 obtain ⟨V,eV⟩:∃ V,rkV 12 dd yy d' y' K=V:=⟨_,rfl⟩
 rw [eE,eD,eV]
 obtain ⟨z,ez⟩:∃ z,whI K=z:=⟨_,rfl⟩
 have HC:Hid (∀ W,Below w.heap.size w W→Calls Tryz.prog 98 #[.agg #[.slice p n c,.slice p2 n2 c2],.agg #[.slice p3 n3 c3,.slice p4 n4 c4],.int .i64 z] W fun e w'=>∃ v',e = .returned (.tuple #[v',.int .i64 E])∧TRes w' W.heap.size v' D V∧Below W.heap.size W w'):=fun W hW=>by
  rw [← eE,← eD,← eV,← ez]
  have hw:=rw_wh (k:=K) (D:=dd) (X:=yy) (D':=d') (X':=y')
  show Calls _ _ _ _ fun e w'=>∃ v',e = .returned (.tuple #[v',.int .i64 (rwE dd yy d' y' K)])∧TRes w' W.heap.size v' (rwD dd yy d' y' K) (rwV dd yy d' y' K)∧Below W.heap.size W w'
  rw [← hw.1,← hw.2.1,← hw.2.2]
  exact rrow_any p p2 p3 p4 n c n2 c2 n3 c3 n4 c4 dd yy d' y' (whI K) hd hx hd' hy' W (h1.up hW) (h2.up hW) (h3.up hW) (h4.up hW)
 have cw:∀ W,Calls Tryz.prog 93 #[.int .i64 K] W fun e w'=>e = .returned (.int .i64 z)∧w'=W:=fun W=>rwhole_any K z ez W
 haveI:Nonempty World:=⟨w⟩
 clear eE eD eV ez h1 h2 h3 h4 hd hx hd' hy' hg hK hnc
 go_enter Tryz.func59,Tryz.ntmps59
 go_wp2_with fail
 generalize hW0:World.alloc _ _=W0
 obtain ⟨HB0,XA,XB,XR⟩:=box3 hW0
 clear hW0
 obtain ⟨a0,a1,_,_⟩:=XA.out
 obtain ⟨b0,b1,_,_⟩:=XB.out
 have k0:=cell_lt a0
 have k1:=cell_lt b0
 refine rel [⟨4,77,TupP W0.heap.size D V E⟩,⟨5,78,OwnT W0.heap.size D V⟩] 7 100 (by kernel_rfl) rfl rfl (by kernel_rfl) (by rfl) ?_ ?_
 ·intro e he v W W' h hb
  simp only [List.mem_cons,List.not_mem_nil,or_false] at he
  rcases he with rfl|rfl
  ·exact TupP.up h hb
  ·exact OwnT.up h hb
 apply Exists.intro
 refine ⟨fun x=>?_,?_,?_⟩
 ·simp only [List.take_succ_cons,List.take_zero]
  iterate 3
   refine relQuiet rfl rfl ?_
   apply Exists.intro
   refine ⟨fun F hF hf K hK=>?_,?_⟩
   ·have hFc:=hF.cell
    have hFf:=hF.frozen
    go_big_quiet_op
    exact hK
   (try simp only [putL])
  refine relQuiet rfl rfl ?_
  apply Exists.intro
  refine ⟨fun F hF hf K hK=>?_,?_⟩
  ·have hFc:=hF.cell
   have hFf:=hF.frozen
   go_big_quiet_op
   first|exact hK|(apply Exists.intro;refine ⟨fun _=>?_,?_⟩;(· exact hF.same (cw _));exact hK)
  (try simp only [putL])
  refine relTold rfl rfl ?_ ?_
  ·intro F hF hf d
   have hFc:=hF.cell
   have hFf:=hF.frozen
   simp [yieldsR,yieldsUpon,go_sem]
   refine (HC.out (F d) (bstep HB0.out (hF.below d))).mono ?_
   rintro e' w8 ⟨v8,rfl,h8,hb8⟩
   exact ⟨_,rfl,⟨v8,rfl,(h8.low (hF.below d).size).own⟩,hb8⟩
  (try simp only [putL])
  refine relTold rfl rfl ?_ ?_
  ·intro F hF hf d
   have hFc:=hF.cell
   have hFf:=hF.frozen
   have h9:=hf _ List.mem_cons_self (by rfl) d
   obtain ⟨u9,e9,n9⟩:=h9
   simp only [] at e9 n9
   simp [yieldsR,yieldsUpon,go_sem,e9]
   exact ⟨n9,Below.refl _ _⟩
  (try simp only [putL])
  refine relQuiet rfl rfl ?_
  apply Exists.intro
  refine ⟨fun F hF hf K hK=>?_,?_⟩
  ·have hFc:=hF.cell
   have hFf:=hF.frozen
   have h9:=hf _ List.mem_cons_self (by rfl)
   obtain ⟨u9,e9,_⟩:=h9 w
   simp only [] at e9
   go_big_quiet_op
   exact hK
  (try simp only [putL])
  refine relEnd ?_
  exact rfl
 ·exact fun x=>rfl
 ·intro w1 xs hB1 hf
  simp only [List.drop_succ_cons,List.drop_zero]
  have hT1:=hf _ (List.mem_cons_of_mem _ List.mem_cons_self)
  obtain ⟨xc,ec⟩:∃ q,xs 4=q:=⟨_,rfl⟩
  obtain ⟨xx,ex⟩:∃ q,xs 5=q:=⟨_,rfl⟩
  simp only [ex] at hT1
  simp only [ec,ex]
  obtain ⟨pa,na,ca,pb,nb,cb,rfl,hs,ht⟩:=hT1
  clear ec ex hf HC a0 a1 b0 b1 k0 k1 cw
  obtain ⟨HF,r0,r1,r2,r3,z0,z1⟩:=fin2 XR HB0 hB1 hs ht (by omega)
  clear hs ht
  go_wp2
  exact bodyPost_ret (v:=.tuple #[.agg #[.slice pa na ca,.slice pb nb cb],.int .i64 E]) (by simp [results,Tryz.results59,go_sem,z0,z1]) rfl ⟨_,rfl,HF.out⟩
def TupQ (B:Nat) (D X P:List Int) (E:Int) (v:Value) (W:World):Prop:=∃ u q,v = .tuple #[u,q,.int .i64 E]∧OwnT B D X u W∧OwnK .i64 3 W B q P
theorem TupQ.up {B:Nat} {D X P:List Int} {E:Int} {v:Value} {W W':World} (h:TupQ B D X P E v W) (hB:Below W.heap.size W W'):TupQ B D X P E v W':=by
 obtain ⟨u,q,e,h1,h2⟩:=h
 exact ⟨u,q,e,h1.up hB,h2.up hB⟩
def OwnI (B:Nat) (P:List Int) (v:Value) (W:World):Prop:=OwnK .i64 3 W B v P
theorem OwnI.up {B:Nat} {P:List Int} {v:Value} {W W':World} (h:OwnI B P v W) (hB:Below W.heap.size W W'):OwnI B P v W':=OwnK.up h hB
theorem rk13:RkP 13:=by
 intro p p2 p3 p4 n c n2 c2 n3 c3 n4 c4 dd yy d' y' K hK hg hd' hy' hnc w h1 h2 h3 h4
 have hd:=hg.2.1
 have hx:=hg.2.2
 obtain ⟨E,eE⟩:∃ E,rkE 13 dd yy d' y' K=E:=⟨_,rfl⟩
 obtain ⟨D,eD⟩:∃ D,rkD 13 dd yy d' y' K=D:=⟨_,rfl⟩
 obtain ⟨V,eV⟩:∃ V,rkV 13 dd yy d' y' K=V:=⟨_,rfl⟩
 rw [eE,eD,eV]
 obtain ⟨z,ez⟩:∃ z,whI K=z:=⟨_,rfl⟩
 obtain ⟨P,eP⟩:∃ P,plP dd yy (whI K)=P:=⟨_,rfl⟩
 have HC:Hid (∀ W,Below w.heap.size w W→Calls Tryz.prog 99 #[.agg #[.slice p n c,.slice p2 n2 c2],.int .i64 z] W fun e w'=>∃ v' u',e = .returned (.tuple #[v',u',.int .i64 E])∧TRes w' W.heap.size v' D V∧OwnK .i64 3 w' W.heap.size u' P∧Below W.heap.size W w'):=fun W hW=>by
  rw [← eE,← eD,← eV,← ez,← eP]
  have hw:=pl_wh (k:=K) hg.1
  show Calls _ _ _ _ fun e w'=>∃ v' u',e = .returned (.tuple #[v',u',.int .i64 (plE dd yy K)])∧TRes w' W.heap.size v' (plD dd yy K) (plV dd yy K)∧OwnK .i64 3 w' W.heap.size u' (plP dd yy (whI K))∧Below W.heap.size W w'
  rw [← hw.1,← hw.2.1,← hw.2.2]
  exact rpool_any p p2 n c n2 c2 dd yy (whI K) hd hx W (h1.up hW) (h2.up hW)
 have cw:∀ W,Calls Tryz.prog 93 #[.int .i64 K] W fun e w'=>e = .returned (.int .i64 z)∧w'=W:=fun W=>rwhole_any K z ez W
 haveI:Nonempty World:=⟨w⟩
 clear eE eD eV ez eP h1 h2 h3 h4 hd hx hd' hy' hg hK hnc
 go_enter Tryz.func59,Tryz.ntmps59
 go_wp2_with fail
 generalize hW0:World.alloc _ _=W0
 obtain ⟨HB0,XA,XB,XR⟩:=box3 hW0
 clear hW0
 obtain ⟨a0,a1,_,_⟩:=XA.out
 obtain ⟨b0,b1,_,_⟩:=XB.out
 have k0:=cell_lt a0
 have k1:=cell_lt b0
 refine relM [⟨3,86,TupQ W0.heap.size D V P E⟩,⟨4,82,TupQ W0.heap.size D V P E⟩,⟨5,87,OwnT W0.heap.size D V⟩,⟨6,88,OwnI W0.heap.size P⟩,⟨8,10,NewC W0.heap.size⟩] 9 100 (by kernel_rfl) rfl rfl [6,7] (by kernel_rfl) (by kernel_rfl) (fun i0 hi o0 ho c a w v h=>?_) (by rfl) ?_ ?_
 ·simp only [List.mem_cons,List.not_mem_nil,or_false] at hi
  rcases hi with rfl|rfl
  ·cases ho
   exact h
  ·cases ho
   exact h
 ·intro e he v W W' h hb
  simp only [List.mem_cons,List.not_mem_nil,or_false] at he
  rcases he with rfl|rfl|rfl|rfl|rfl
  ·exact TupQ.up h hb
  ·exact TupQ.up h hb
  ·exact OwnT.up h hb
  ·exact OwnI.up h hb
  ·exact NewC.up h hb
 apply Exists.intro
 refine ⟨?yt,?yl,?wk,?pk,?rest⟩
 case wk=>
  intro x
  simp only [List.take_succ_cons,List.take_zero]
  iterate 2
   refine relQuiet rfl rfl ?_
   apply Exists.intro
   refine ⟨fun F hF hf K hK=>?_,?_⟩
   ·have hFc:=hF.cell
    have hFf:=hF.frozen
    go_big_quiet_op
    exact hK
   (try simp only [putL])
  refine relQuiet rfl rfl ?_
  apply Exists.intro
  refine ⟨fun F hF hf K hK=>?_,?_⟩
  ·have hFc:=hF.cell
   have hFf:=hF.frozen
   go_big_quiet_op
   first|exact hK|(apply Exists.intro;refine ⟨fun _=>?_,?_⟩;(· exact hF.same (cw _));exact hK)
  (try simp only [putL])
  refine relTold rfl rfl ?_ ?_
  ·intro F hF hf d
   have hFc:=hF.cell
   have hFf:=hF.frozen
   simp [yieldsR,yieldsUpon,go_sem]
   refine (HC.out (F d) (bstep HB0.out (hF.below d))).mono ?_
   rintro e' w8 ⟨v8,u8,rfl,h8,g8,hb8⟩
   exact ⟨_,rfl,⟨v8,u8,rfl,(h8.low (hF.below d).size).own,g8.low (hF.below d).size⟩,hb8⟩
  (try simp only [putL])
  refine relTold rfl rfl ?_ ?_
  ·intro F hF hf d
   have hFc:=hF.cell
   have hFf:=hF.frozen
   have h9:=hf _ List.mem_cons_self (by rfl) d
   simp [yieldsR,yieldsUpon,go_sem]
   exact ⟨h9,Below.refl _ _⟩
  (try simp only [putL])
  refine relTold rfl rfl ?_ ?_
  ·intro F hF hf d
   have hFc:=hF.cell
   have hFf:=hF.frozen
   have h9:=hf _ (List.mem_cons_of_mem _ List.mem_cons_self) (by rfl) d
   obtain ⟨u9,q9,e9,n9,o9⟩:=h9
   simp only [] at e9 n9
   simp [yieldsR,yieldsUpon,go_sem,e9]
   exact ⟨n9,Below.refl _ _⟩
  (try simp only [putL])
  refine relTold rfl rfl ?_ ?_
  ·intro F hF hf d
   have hFc:=hF.cell
   have hFf:=hF.frozen
   have h9:=hf _ (List.mem_cons_of_mem _ List.mem_cons_self) (by rfl) d
   obtain ⟨u9,q9,e9,n9,o9⟩:=h9
   simp only [] at e9 o9
   simp [yieldsR,yieldsUpon,go_sem,e9]
   exact ⟨o9,Below.refl _ _⟩
  (try simp only [putL])
  refine relQuiet rfl rfl ?_
  apply Exists.intro
  refine ⟨fun F hF hf K hK=>?_,?_⟩
  ·have hFc:=hF.cell
   have hFf:=hF.frozen
   have h9:=hf _ (List.mem_cons_of_mem _ List.mem_cons_self) (by rfl)
   obtain ⟨u9,q9,e9,_⟩:=h9 w
   simp only [] at e9
   go_big_quiet_op
   exact hK
  (try simp only [putL])
  refine relTold rfl rfl ?_ ?_
  ·intro F hF hf d
   have hFc:=hF.cell
   have hFf:=hF.frozen
   simp [yieldsR,yieldsUpon,go_sem]
   exact ⟨⟨(F d).heap.size,rfl,heap_alloc_new (F d) _,(hF.below d).size⟩,up_alloc _ _⟩
  (try simp only [putL])
  refine relEnd ?_
  exact rfl
 case pk=>
  intro x
  simp only [putsK,List.foldl_cons,List.foldl_nil,Act.put,List.setIfInBounds_toArray,List.set_cons_zero,List.set_cons_succ]
 case yt=>
  intro i0 hi o0 ho e he W x hx
  simp only [List.mem_cons,List.not_mem_nil,or_false] at hi
  rcases hi with rfl|rfl
  ·cases ho
   have he':(⟨6,88,OwnI W0.heap.size P⟩:Told)=e:=Option.some.inj he
   subst he'
   obtain ⟨u9,q9,e9,n9,o9⟩:=hx _ (List.mem_cons_of_mem _ List.mem_cons_self) (by rfl)
   simp only [] at e9
   refine ⟨q9,o9,.inl ⟨by rfl,fun w=>?_⟩⟩
   simp [execOp,Act.eval,e9,go_sem]
  ·cases he
 case yl=>
  intro i0 hi o0 ho hn x hx
  simp only [List.mem_cons,List.not_mem_nil,or_false] at hi
  rcases hi with rfl|rfl
  ·cases hn
  ·cases ho
   obtain ⟨W9,u9,q9,e9,_⟩:=hx _ (List.mem_cons_of_mem _ List.mem_cons_self) (by rfl)
   simp only [] at e9
   refine ⟨.int .i64 E,fun t ht=>?_,.inl ⟨by rfl,fun w=>?_⟩⟩
   ·cases ht
    rfl
   ·simp [execOp,Act.eval,e9,go_sem]
 intro w1 xs hB1 hf
 simp only [List.drop_succ_cons,List.drop_zero]
 have hT1:=hf _ (List.mem_cons_of_mem _ (List.mem_cons_of_mem _ List.mem_cons_self))
 have hN:=hf _ (List.mem_cons_of_mem _ (List.mem_cons_of_mem _ (List.mem_cons_of_mem _ (List.mem_cons_of_mem _ List.mem_cons_self))))
 obtain ⟨x3,e3⟩:∃ q,xs 3=q:=⟨_,rfl⟩
 obtain ⟨x4,e4⟩:∃ q,xs 4=q:=⟨_,rfl⟩
 obtain ⟨x5,e5⟩:∃ q,xs 5=q:=⟨_,rfl⟩
 obtain ⟨x8,e8⟩:∃ q,xs 8=q:=⟨_,rfl⟩
 simp only [e5] at hT1
 simp only [e8] at hN
 simp only [e3,e4,e5,e8]
 obtain ⟨x6,e6⟩:∃ q,xs 6=q:=⟨_,rfl⟩
 simp only [e6]
 obtain ⟨pa,na,ca,pb,nb,cb,rfl,hs0,ht0⟩:=hT1
 obtain ⟨g,rfl,hb1,hb2⟩:=hN
 have o6:Only [31] w1 (set2 w1 g (.slice pa na ca) (.slice pb nb cb)):=(Only.set hb1 (by simp)).trans (Only.set (heap_setat hb1) (by simp))
 have hs:=hs0.only o6 (by decide)
 have ht:=ht0.only o6 (by decide)
 have hbw:=below_set2 hB1 g hb2 (.slice pa na ca) (.slice pb nb cb)
 have cg:=(new_cel hb1).set (.slice pa na ca) (.slice pb nb cb)
 obtain ⟨c0_,c1_,c2_,c3_⟩:=new_cel hb1
 obtain ⟨t0_,t1_,_,_⟩:=cg
 have xr1:=XR.out.up hB1
 obtain ⟨q0,q1,q2,q3⟩:=xr1
 have hne:g≠w.heap.size+2:=by have:=cell_lt XR.out.1;omega
 have hne':w.heap.size+2≠g:=Ne.symm hne
 clear hs0 ht0 o6 e3 e4 e5 e6 e8 hf HC a0 a1 b0 b1 k0 k1 cw
 have HF:Hid (TRes (set2 (set2 w1 g (.slice pa na ca) (.slice pb nb cb)) (w.heap.size+2) (.slice pa na ca) (.slice pb nb cb)) w.heap.size (.agg #[.slice pa na ca,.slice pb nb cb]) D V∧Below w.heap.size w (set2 (set2 w1 g (.slice pa na ca) (.slice pb nb cb)) (w.heap.size+2) (.slice pa na ca) (.slice pb nb cb))):=
  ⟨(TRes.set hs ht (cell_lt XR.out.1)).low HB0.out.size,below_cell (bstep HB0.out hbw) _ (by omega) _ _⟩
 have xr:=XR.out.up hbw
 have cf:=xr.set (.slice pa na ca) (.slice pb nb cb)
 obtain ⟨r0,r1,r2,r3⟩:=xr
 obtain ⟨z0,z1,_,_⟩:=cf
 clear hs ht
 go_wp2
 exact bodyPost_ret (v:=.tuple #[.agg #[.slice pa na ca,.slice pb nb cb],.int .i64 E]) (by simp [results,Tryz.results59,go_sem,z0,z1]) rfl ⟨_,rfl,HF.out⟩
theorem rreckon_any (p p2 p3 p4:Option Addr) (n c n2 c2 n3 c3 n4 c4:Nat) (dd yy d' y':List Int) (op:Int) (ho1:2≤op) (ho2:op≤14) (K:Int) (hK:InR K) (hg:TnsG dd yy) (hd':RI d') (hy':RI y') (hnc:n≤c) (w:World) (h1:Nums .i64 w (.slice p n c) dd) (h2:Nums .i64 w (.slice p2 n2 c2) yy) (h3:Nums .i64 w (.slice p3 n3 c3) d') (h4:Nums .i64 w (.slice p4 n4 c4) y'):
  Calls Tryz.prog 59 #[.int .i64 op,.agg #[.slice p n c,.slice p2 n2 c2],.agg #[.slice p3 n3 c3,.slice p4 n4 c4],.int .i64 K] w fun e w'=>∃ v',e = .returned (.tuple #[v',.int .i64 (rkE op dd yy d' y' K)])∧TRes w' w.heap.size v' (rkD op dd yy d' y' K) (rkV op dd yy d' y' K)∧Below w.heap.size w w':=by
 have hall:op=2∨op=3∨op=4∨op=5∨op=6∨op=7∨op=8∨op=9∨op=10∨op=11∨op=12∨op=13∨op=14:=by omega
 rcases hall with rfl|rfl|rfl|rfl|rfl|rfl|rfl|rfl|rfl|rfl|rfl|rfl|rfl
 ·exact rk2 p p2 p3 p4 n c n2 c2 n3 c3 n4 c4 dd yy d' y' K hK hg hd' hy' hnc w h1 h2 h3 h4
 ·exact rk3 p p2 p3 p4 n c n2 c2 n3 c3 n4 c4 dd yy d' y' K hK hg hd' hy' hnc w h1 h2 h3 h4
 ·exact rk4 p p2 p3 p4 n c n2 c2 n3 c3 n4 c4 dd yy d' y' K hK hg hd' hy' hnc w h1 h2 h3 h4
 ·exact rk5 p p2 p3 p4 n c n2 c2 n3 c3 n4 c4 dd yy d' y' K hK hg hd' hy' hnc w h1 h2 h3 h4
 ·exact rk6 p p2 p3 p4 n c n2 c2 n3 c3 n4 c4 dd yy d' y' K hK hg hd' hy' hnc w h1 h2 h3 h4
 ·exact rk7 p p2 p3 p4 n c n2 c2 n3 c3 n4 c4 dd yy d' y' K hK hg hd' hy' hnc w h1 h2 h3 h4
 ·exact rk8 p p2 p3 p4 n c n2 c2 n3 c3 n4 c4 dd yy d' y' K hK hg hd' hy' hnc w h1 h2 h3 h4
 ·exact rk9 p p2 p3 p4 n c n2 c2 n3 c3 n4 c4 dd yy d' y' K hK hg hd' hy' hnc w h1 h2 h3 h4
 ·exact rk10 p p2 p3 p4 n c n2 c2 n3 c3 n4 c4 dd yy d' y' K hK hg hd' hy' hnc w h1 h2 h3 h4
 ·exact rk11 p p2 p3 p4 n c n2 c2 n3 c3 n4 c4 dd yy d' y' K hK hg hd' hy' hnc w h1 h2 h3 h4
 ·exact rk12 p p2 p3 p4 n c n2 c2 n3 c3 n4 c4 dd yy d' y' K hK hg hd' hy' hnc w h1 h2 h3 h4
 ·exact rk13 p p2 p3 p4 n c n2 c2 n3 c3 n4 c4 dd yy d' y' K hK hg hd' hy' hnc w h1 h2 h3 h4
 ·exact rk14 p p2 p3 p4 n c n2 c2 n3 c3 n4 c4 dd yy d' y' K hK hg hd' hy' hnc w h1 h2 h3 h4
theorem rdo_full (B tb:Nat) (ns:List Nd) (hG:NodesG ns) (op a b k:Int) (w:World) (hT:Tap 49 50 w B tb ns) (hfull:512≤ns.length):
  Calls Tryz.prog 32 #[.pointer (some ⟨tb,0,none⟩),.int .i64 op,.int .i64 a,.int .i64 b,.int .i64 k] w fun e w'=>e = .returned (.tuple #[.int .i64 (doR ns op a b k),.int .i64 (doE ns op a b k)])∧Tap 49 50 w' B tb (doN ns op a b k)∧Below B w w'∧Only [49,50] w w':=by
 have hTT:Hid (Tap 49 50 w B tb ns):=hT
 obtain ⟨pL,cL,xs0,hv,ho,hn0,hnc⟩:=hT.head
 obtain ⟨N,eN⟩:∃ N,ns.length=N:=⟨_,rfl⟩
 rw [eN] at hv ho hnc
 have hcell:=(head_cell hv).1
 have hz:=heap_lt hv
 have HBB:Hid (B≤w.heap.size):=Nat.le_trans hTT.out.1 (Nat.le_of_lt hz)
 have hl:512≤N:=by rw [← eN];exact hfull
 have hl':(512:Int)≤(N:Int):=by omega
 have e1:doE ns op a b k=2:=if_pos hfull
 have e2:doR ns op a b k=0:=if_neg fun h=>by have:=h.1.1;omega
 have e3:doN ns op a b k=ns:=if_neg fun h=>by have:=h.1.1;omega
 rw [e1,e2,e3]
 clear hT hv ho hn0 hnc e1 e2 e3 hfull eN
 go_enter Tryz.func32,Tryz.ntmps32
 go_wp2
 exact bodyPost_ret (v:=.tuple #[.int .i64 0,.int .i64 2]) (by simp [results,Tryz.results32,go_sem]) rfl ⟨rfl,hTT.out,Below.refl _ _,Only.refl _ _⟩
theorem rdo_bad (B tb:Nat) (ns:List Nd) (hG:NodesG ns) (op a b k:Int) (w:World) (hT:Tap 49 50 w B tb ns) (hroom:ns.length < 512) (hno:¬ okD ns op a b):
  Calls Tryz.prog 32 #[.pointer (some ⟨tb,0,none⟩),.int .i64 op,.int .i64 a,.int .i64 b,.int .i64 k] w fun e w'=>e = .returned (.tuple #[.int .i64 (doR ns op a b k),.int .i64 (doE ns op a b k)])∧Tap 49 50 w' B tb (doN ns op a b k)∧Below B w w'∧Only [49,50] w w':=by
 have hTT:Hid (Tap 49 50 w B tb ns):=hT
 obtain ⟨pL,cL,xs0,hv,ho,hn0,hnc⟩:=hT.head
 obtain ⟨N,eN⟩:∃ N,ns.length=N:=⟨_,rfl⟩
 rw [eN] at hv ho hnc
 have hcell:=(head_cell hv).1
 have hz:=heap_lt hv
 have HBB:Hid (B≤w.heap.size):=Nat.le_trans hTT.out.1 (Nat.le_of_lt hz)
 have hl:Hid (N < 512):=by show _ < _;rw [← eN];exact hroom
 have hd1:decide ((512:Int)≤(N:Int))=false:=decide_eq_false (by have:=hl.out;omega)
 have hd2:decide (512≤N)=false:=decide_eq_false (by have:=hl.out;omega)
 have e1:doE ns op a b k=1:=(if_neg (by omega)).trans (if_neg hno)
 have e2:doR ns op a b k=0:=if_neg fun h=>hno h.1.2
 have e3:doN ns op a b k=ns:=if_neg fun h=>hno h.1.2
 rw [e1,e2,e3]
 have hno:¬ ((2≤op∧op≤14)∧(0≤a∧a < (N:Int))∧(twoP op→0≤b∧b < (N:Int))):=by rw [← eN];exact hno
 clear hT hv ho hn0 hnc e1 e2 e3 hroom eN
 by_cases c1:op < 2
 ·have o1:decide (op < 2)=true:=decide_eq_true c1
  clear c1
  clear hno
  go_enter Tryz.func32,Tryz.ntmps32
  go_wp2
  exact bodyPost_ret (v:=.tuple #[.int .i64 0,.int .i64 1]) (by simp [results,Tryz.results32,go_sem]) rfl ⟨rfl,hTT.out,Below.refl _ _,Only.refl _ _⟩
 have o1:decide (op < 2)=false:=decide_eq_false c1
 by_cases c2:14 < op
 ·have o2:decide (14 < op)=true:=decide_eq_true c2
  clear c1 c2
  clear hno
  go_enter Tryz.func32,Tryz.ntmps32
  go_wp2
  exact bodyPost_ret (v:=.tuple #[.int .i64 0,.int .i64 1]) (by simp [results,Tryz.results32,go_sem]) rfl ⟨rfl,hTT.out,Below.refl _ _,Only.refl _ _⟩
 have o2:decide (14 < op)=false:=decide_eq_false c2
 by_cases c3:a < 0
 ·have a1:decide (a < 0)=true:=decide_eq_true c3
  clear c1 c2 c3
  clear hno
  go_enter Tryz.func32,Tryz.ntmps32
  go_wp2
  exact bodyPost_ret (v:=.tuple #[.int .i64 0,.int .i64 1]) (by simp [results,Tryz.results32,go_sem]) rfl ⟨rfl,hTT.out,Below.refl _ _,Only.refl _ _⟩
 have a1:decide (a < 0)=false:=decide_eq_false c3
 by_cases c4:(N:Int)≤a
 ·have a2:decide ((N:Int)≤a)=true:=decide_eq_true c4
  clear c1 c2 c3 c4
  clear hno
  go_enter Tryz.func32,Tryz.ntmps32
  go_wp2
  exact bodyPost_ret (v:=.tuple #[.int .i64 0,.int .i64 1]) (by simp [results,Tryz.results32,go_sem]) rfl ⟨rfl,hTT.out,Below.refl _ _,Only.refl _ _⟩
 have a2:decide ((N:Int)≤a)=false:=decide_eq_false c4
 have c5:twoP op∧(b < 0∨(N:Int)≤b):=by
  by_cases c5:twoP op
  ·refine ⟨c5,?_⟩
   by_cases c6:b < 0
   ·exact .inl c6
   ·by_cases c7:(N:Int)≤b
    ·exact .inr c7
    ·exact absurd ⟨⟨by omega,by omega⟩,⟨by omega,by omega⟩,fun _=>⟨by omega,by omega⟩⟩ hno
  ·exact absurd ⟨⟨by omega,by omega⟩,⟨by omega,by omega⟩,fun h=>absurd h c5⟩ hno
 have hq:decide (twoP op)=true:=decide_eq_true c5.1
 by_cases c6:b < 0
 ·have b1:decide (b < 0)=true:=decide_eq_true c6
  clear c1 c2 c3 c4 c5 c6
  clear hno
  go_enter Tryz.func32,Tryz.ntmps32
  go_wp2_with fail
  refine (rtwo_any op true hq w).mono ?_
  rintro e w9 ⟨rfl,rfl⟩
  clear hq
  go_wp2
  exact bodyPost_ret (v:=.tuple #[.int .i64 0,.int .i64 1]) (by simp [results,Tryz.results32,go_sem]) rfl ⟨rfl,hTT.out,Below.refl _ _,Only.refl _ _⟩
 ·have b1:decide (b < 0)=false:=decide_eq_false c6
  have b2:decide ((N:Int)≤b)=true:=decide_eq_true (by omega)
  clear c1 c2 c3 c4 c5 c6
  clear hno
  go_enter Tryz.func32,Tryz.ntmps32
  go_wp2_with fail
  refine (rtwo_any op true hq w).mono ?_
  rintro e w9 ⟨rfl,rfl⟩
  clear hq
  go_wp2
  exact bodyPost_ret (v:=.tuple #[.int .i64 0,.int .i64 1]) (by simp [results,Tryz.results32,go_sem]) rfl ⟨rfl,hTT.out,Below.refl _ _,Only.refl _ _⟩
theorem rdo_ok (B tb:Nat) (ns:List Nd) (op:Int) (ai:Nat) (b k:Int) (nda:Nd) (hnda:ns[ai]?=some nda) (dB_ xB_:List Int) (BV KV:Int) (h2:(twoP op∧BV=b∧∃ (bi:Nat) (ndb:Nd),b=(bi:Int)∧ns[bi]?=some ndb∧dB_=ndb.D∧xB_=ndb.X)∨(¬ twoP op∧BV = -1∧dB_ = []∧xB_ = [])) (h3:(byP op∧KV=k)∨(¬ byP op∧KV=0)) (ho1:2≤op) (ho2:op≤14) (hroom:ns.length < 512) (E:Int) (D V:List Int) (RR:Int) (NS:List Nd) (HG:Hid ((E=0→RR=(ns.length:Int)∧NS=ns++[⟨op,(ai:Int),BV,KV,D,V⟩])∧(E≠0→RR=0∧NS=ns))) (w:World) (hT:Tap 49 50 w B tb ns)
  (HR:Hid (∀ (W:World) (pA qA pB qB:Option Addr) (nA cA mA eA nB cB mB eB:Nat),Below w.heap.size w W→nA≤cA→Nums .i64 W (.slice pA nA cA) nda.D→Nums .i64 W (.slice qA mA eA) nda.X→Nums .i64 W (.slice pB nB cB) dB_→Nums .i64 W (.slice qB mB eB) xB_→Calls Tryz.prog 59 #[.int .i64 op,.agg #[.slice pA nA cA,.slice qA mA eA],.agg #[.slice pB nB cB,.slice qB mB eB],.int .i64 KV] W fun e w'=>∃ v',e = .returned (.tuple #[v',.int .i64 E])∧TRes w' W.heap.size v' D V∧Below W.heap.size W w')):
  Calls Tryz.prog 32 #[.pointer (some ⟨tb,0,none⟩),.int .i64 op,.int .i64 (ai:Int),.int .i64 b,.int .i64 k] w fun e w'=>e = .returned (.tuple #[.int .i64 RR,.int .i64 E])∧Tap 49 50 w' B tb NS∧Below B w w'∧Only [49,50] w w':=by
 have hTT:Hid (Tap 49 50 w B tb ns):=hT
 obtain ⟨pL,cL,xs0,hv,ho,hn0,hnc⟩:=hT.head
 obtain ⟨N,eN⟩:∃ N,ns.length=N:=⟨_,rfl⟩
 rw [eN] at hv ho hnc HG
 have hcell:=(head_cell hv).1
 have hz:=heap_lt hv
 have HBB:Hid (B≤w.heap.size):=Nat.le_trans hTT.out.1 (Nat.le_of_lt hz)
 have hl:Hid (N < 512):=by show _ < _;rw [← eN];exact hroom
 have hd1:decide ((512:Int)≤(N:Int))=false:=decide_eq_false (by have:=hl.out;omega)
 have hd2:decide (512≤N)=false:=decide_eq_false (by have:=hl.out;omega)
 have hai:ai < N:=by rw [← eN];exact (List.getElem?_eq_some_iff.1 hnda).1
 obtain ⟨q,nda',sA_,tA_,eq,hx,_,_,_,_,ca4,ca5,hsA,htA⟩:=node_cells ho hn0 eN ai hai
 rw [hnda] at hx
 cases hx
 obtain ⟨pA,nA,cA,rfl⟩:=hsA.form_
 obtain ⟨qA,mA,eA,rfl⟩:=htA.form_
 have o1:decide (op < 2)=false:=decide_eq_false (by omega)
 have o2:decide (14 < op)=false:=decide_eq_false (by omega)
 have a2:decide ((N:Int)≤(ai:Int))=false:=decide_eq_false (by omega)
 have a3:decide (N≤ai)=false:=decide_eq_false (by omega)
 have a4:(ai:Int) < (N:Int):=by omega
 haveI:Nonempty World:=⟨w⟩
 have HCg:Hid (∀ (W:World) (pB qB:Option Addr) (nB cB mB eB:Nat),Below w.heap.size w W→Nums .i64 W (.slice pB nB cB) dB_→Nums .i64 W (.slice qB mB eB) xB_→Calls Tryz.prog 59 #[.int .i64 op,.agg #[.slice pA nA cA,.slice qA mA eA],.agg #[.slice pB nB cB,.slice qB mB eB],.int .i64 KV] W fun e w'=>∃ v',e = .returned (.tuple #[v',.int .i64 E])∧TRes w' W.heap.size v' D V∧Below W.heap.size W w'):=fun W pB qB nB cB mB eB hW g1 g2=>HR.out W _ _ _ _ _ _ _ _ _ _ _ _ hW hsA.cap (hsA.nums.up hW) (htA.nums.up hW) g1 g2
 clear hsA htA hnda HR hroom ho1 ho2
 have HK3:Hid ((byP op∧KV=k)∨(¬ byP op∧KV=0)):=h3
 clear h3
 rcases h2 with ⟨h2,eV,bi,ndb,eb,hndb,ed,ex⟩|⟨h2,eV,ed,ex⟩
 case' inl=>
  have hbi:bi < N:=by rw [← eN];exact (List.getElem?_eq_some_iff.1 hndb).1
  obtain ⟨q',ndb',sB_,tB_,eq',hx,_,_,_,_,cb4,cb5,hsB,htB⟩:=node_cells ho hn0 eN bi hbi
  rw [hndb] at hx
  cases hx
  obtain ⟨pB,nB,cB,rfl⟩:=hsB.form_
  obtain ⟨qB,mB,eB,rfl⟩:=htB.form_
  rw [eq] at eq'
  cases eq'
  subst eq
  have HC:Hid (∀ W,Below w.heap.size w W→Calls Tryz.prog 59 #[.int .i64 op,.agg #[.slice pA nA cA,.slice qA mA eA],.agg #[.slice pB nB cB,.slice qB mB eB],.int .i64 KV] W fun e w'=>∃ v',e = .returned (.tuple #[v',.int .i64 E])∧TRes w' W.heap.size v' D V∧Below W.heap.size W w'):=fun W hW=>HCg.out W _ _ _ _ _ _ hW (by rw [ed];exact hsB.nums.up hW) (by rw [ex];exact htB.nums.up hW)
  have hq:decide (twoP op)=true:=decide_eq_true h2
  have b2:decide ((N:Int)≤(bi:Int))=false:=decide_eq_false (by omega)
  have b3:decide (N≤bi)=false:=decide_eq_false (by omega)
  have b4:(bi:Int) < (N:Int):=by omega
  have HWb:Hid (w.cell? ⟨q,bi*6+4,none⟩=some (.slice pB nB cB)∧w.cell? ⟨q,bi*6+5,none⟩=some (.slice qB mB eB)∧BV=(bi:Int)):=⟨cb4,cb5,eV.trans eb⟩
  subst eb
  clear hsB htB hndb cb4 cb5 hbi ed ex eV
 case' inr=>
  subst eq
  obtain ⟨pB,nB,cB,qB,mB,eB,eY⟩:∃ (pB:Option Addr) (nB cB:Nat) (qB:Option Addr) (mB eB:Nat),(Value.slice none 0 0 = .slice pB nB cB∧Value.slice none 0 0 = .slice qB mB eB):=⟨_,_,_,_,_,_,rfl,rfl⟩
  have HC:Hid (∀ W,Below w.heap.size w W→Calls Tryz.prog 59 #[.int .i64 op,.agg #[.slice pA nA cA,.slice qA mA eA],.agg #[.slice pB nB cB,.slice qB mB eB],.int .i64 KV] W fun e w'=>∃ v',e = .returned (.tuple #[v',.int .i64 E])∧TRes w' W.heap.size v' D V∧Below W.heap.size W w'):=fun W hW=>HCg.out W _ _ _ _ _ _ hW (by rw [ed,← eY.1];exact .inl ⟨rfl,rfl⟩) (by rw [ex,← eY.2];exact .inl ⟨rfl,rfl⟩)
  have hq:decide (twoP op)=false:=decide_eq_false h2
  have HY_:Hid (BV = -1∧(Value.slice none 0 0 = .slice pB nB cB∧Value.slice none 0 0 = .slice qB mB eB)):=⟨eV,eY⟩
  clear eY ed ex eV
 all_goals
  have hzq:=cell_lt ca4
  have HW:Hid (w.cell? ⟨tb,0,none⟩=some (.slice (some ⟨q,0,none⟩) N cL)∧w.cell? ⟨q,ai*6+4,none⟩=some (.slice pA nA cA)∧w.cell? ⟨q,ai*6+5,none⟩=some (.slice qA mA eA)):=⟨hcell,ca4,ca5⟩
  clear hT hv ho hn0 hnc ca4 ca5 h2 HCg
  go_enter Tryz.func32,Tryz.ntmps32
  go_wp2_with fail
  refine (rtwo_any op _ hq w).mono ?_
  rintro e w9 ⟨rfl,ew9⟩
  have ew:=ew9.symm
  subst ew
  clear ew9
  go_wp2_with fail
  generalize hW0:World.alloc _ _=W0
  have HB0:Hid (Below w.heap.size w W0):=by show Below _ _ _;rw [← hW0];go_grown
  have HN0:W0.heap[w.heap.size]?=some (.cells #[.int .i64 op,.int .i64 (ai:Int),.int .i64 (-1),.int .i64 0,.slice none 0 0,.slice none 0 0] 50 (0,0)):=by
   rw [← hW0,heap_alloc_old _ _ (by rw [size_alloc];omega)]
   exact heap_alloc_new _ _
  have HY0:W0.heap[w.heap.size+1]?=some (.cells #[.slice none 0 0,.slice none 0 0] 31 (0,0)):=by
   rw [← hW0,← size_alloc w (.cells #[.int .i64 op,.int .i64 (ai:Int),.int .i64 (-1),.int .i64 0,.slice none 0 0,.slice none 0 0] 50)]
   exact heap_alloc_new _ _
  clear hW0
  refine (rtwo_any op _ hq W0).mono ?_
  rintro e w9 ⟨rfl,ew9⟩
  have ew:=ew9.symm
  subst ew
  clear ew9
  clear hq
  have n1:tb≠w.heap.size:=by omega
  have n2:tb≠w.heap.size+1:=by omega
  have n3:q≠w.heap.size:=by omega
  have n4:q≠w.heap.size+1:=by omega
 all_goals first
  |have hb_:=HWb
   clear hb_
   obtain ⟨⟨_,_,k2,k3,k4,k5⟩,kf⟩:=box6 HN0
   obtain ⟨l0,l1,l2,l3⟩:=new_cel HY0
   have hc0:=cell_low HW.out.1 HB0.out
   have cb4:=cell_low HWb.out.1 HB0.out
   have cb5:=cell_low HWb.out.2.1 HB0.out
   have s1:=heap_lt HN0
   have s2:=heap_lt HY0
   go_wp2_with fail
   generalize hW1:World.setCell _ _ _=W1
   have HN1:W1.heap[w.heap.size]?=some (.cells #[.int .i64 op,.int .i64 (ai:Int),.int .i64 BV,.int .i64 0,.slice none 0 0,.slice none 0 0] 50 (0,0)):=by
    rw [HWb.out.2.2,← hW1,heap_set _ _ _ _ _ (by omega),heap_set _ _ _ _ _ (by omega),heap_setat HN0]
    rfl
   have HY1:W1.heap[w.heap.size+1]?=some (.cells #[.slice pB nB cB,.slice qB mB eB] 31 (0,0)):=by
    have h0:(W0.setCell ⟨w.heap.size,2,none⟩ (.int .i64 (bi:Int))).heap[w.heap.size+1]?=some (.cells #[.slice none 0 0,.slice none 0 0] 31 (0,0)):=by
     rw [heap_set _ _ _ _ _ (by omega)]
     exact HY0
    rw [← hW1,heap_setat (heap_setat h0)]
    rfl
   have HB1:Hid (Below w.heap.size w W1):=by
    show Below _ _ _
    rw [← hW1]
    exact ((HB0.out.setCell (p:=⟨w.heap.size,2,none⟩) (Nat.le_refl _) _).setCell (p:=⟨w.heap.size+1,0,none⟩) (Nat.le_succ _) _).setCell (p:=⟨w.heap.size+1,1,none⟩) (Nat.le_succ _) _
   clear hW1 k2 k3 k4 k5 kf l0 l1 l2 l3 hc0 cb4 cb5 s1 s2 HN0 HY0 HB0 HWb
  |go_wp2_with fail
   obtain ⟨W1,eW1⟩:∃ W1:World,W1=W0:=⟨_,rfl⟩
   rw [← eW1]
   rw [← eW1] at HN0 HY0 HB0
   have HN1:W1.heap[w.heap.size]?=some (.cells #[.int .i64 op,.int .i64 (ai:Int),.int .i64 BV,.int .i64 0,.slice none 0 0,.slice none 0 0] 50 (0,0)):=by rw [HY_.out.1];exact HN0
   have HY1:W1.heap[w.heap.size+1]?=some (.cells #[.slice pB nB cB,.slice qB mB eB] 31 (0,0)):=by
    rw [← HY_.out.2.1,← HY_.out.2.2]
    exact HY0
   have HB1:=HB0
   clear HN0 HY0 HB0 eW1 HY_
 all_goals
  rcases HK3.out with ⟨h3,eK⟩|⟨h3,eK⟩
  case' inl=>
   refine (rby_any op true (decide_eq_true h3) W1).mono ?_
   rintro e w9 ⟨rfl,ew9⟩
   have ew:=ew9.symm
   subst ew
   clear ew9
   obtain ⟨⟨_,_,_,k3,_,_⟩,kf⟩:=box6 HN1
   have s1:=heap_lt HN1
   go_wp2_with fail
   refine name_world (fun W2 hW2=>?_)
   have HN2:W2.heap[w.heap.size]?=some (.cells #[.int .i64 op,.int .i64 (ai:Int),.int .i64 BV,.int .i64 KV,.slice none 0 0,.slice none 0 0] 50 (0,0)):=by
    rw [hW2,heap_setat HN1,eK]
    rfl
   have HY2:W2.heap[w.heap.size+1]?=some (.cells #[.slice pB nB cB,.slice qB mB eB] 31 (0,0)):=by
    rw [hW2,heap_set _ _ _ _ _ (by omega)]
    exact HY1
   have HB2:Hid (Below w.heap.size w W2):=by
    show Below _ _ _
    rw [hW2]
    exact HB1.out.setCell (p:=⟨w.heap.size,3,none⟩) (Nat.le_refl _) _
   clear k3 kf s1
  case' inr=>
   refine (rby_any op false (decide_eq_false h3) W1).mono ?_
   rintro e w9 ⟨rfl,ew9⟩
   have ew:=ew9.symm
   subst ew
   clear ew9
   go_wp2_with fail
   refine name_world (fun W2 hW2=>?_)
   have HN2:W2.heap[w.heap.size]?=some (.cells #[.int .i64 op,.int .i64 (ai:Int),.int .i64 BV,.int .i64 KV,.slice none 0 0,.slice none 0 0] 50 (0,0)):=by rw [hW2,eK];exact HN1
   have HY2:W2.heap[w.heap.size+1]?=some (.cells #[.slice pB nB cB,.slice qB mB eB] 31 (0,0)):=by rw [hW2];exact HY1
   have HB2:Hid (Below w.heap.size w W2):=by show Below _ _ _;rw [hW2];exact HB1.out
  all_goals
   clear hW2 HN1 HY1 HB1 HK3 h3 eK
   have hc0:=cell_low HW.out.1 HB2.out
   have ca4:=cell_low HW.out.2.1 HB2.out
   have ca5:=cell_low HW.out.2.2 HB2.out
   obtain ⟨⟨_,_,_,k3,_,_⟩,_⟩:=box6 HN2
   obtain ⟨y0,y1,_,_⟩:=new_cel HY2
   have s0:=cell_lt hc0
   have s1:=heap_lt HN2
   have s2:=heap_lt HY2
   have s3:=cell_lt ca4
   refine relE [⟨12,91,TupP W2.heap.size D V E⟩,⟨13,78,TupP W2.heap.size D V E⟩,⟨14,92,OwnT W2.heap.size D V⟩,⟨16,14,NewC W2.heap.size⟩] 17 115 (by kernel_rfl) rfl rfl 15 _ rfl (by decide) rfl (by kernel_rfl) (by kernel_rfl) (fun _ _ _ _ h=>h) (by rfl) ?_ ?_
   ·intro e he v W W' h hb
    simp only [List.mem_cons,List.not_mem_nil,or_false] at he
    rcases he with rfl|rfl|rfl|rfl
    ·exact TupP.up h hb
    ·exact TupP.up h hb
    ·exact OwnT.up h hb
    ·exact NewC.up h hb
   apply Exists.intro
   refine ⟨?_,?_,?_,?_⟩
   rotate_left
   ·intro x
    simp only [List.take_succ_cons,List.take_zero]
    iterate 12
     refine relQuiet rfl rfl ?_
     apply Exists.intro
     refine ⟨fun F hF hf K hK=>?_,?_⟩
     ·have hFc:=hF.cell
      have hFf:=hF.frozen
      go_big_quiet_op
      exact hK
     (try simp only [putL])
    refine relTold rfl rfl ?_ ?_
    ·intro F hF hf d
     have hFc:=hF.cell
     have hFf:=hF.frozen
     simp [yieldsR,yieldsUpon,go_sem]
     refine (HC.out (F d) (bstep HB2.out (hF.below d))).mono ?_
     rintro e' w8 ⟨v8,rfl,h8,hb8⟩
     exact ⟨_,rfl,⟨v8,rfl,(h8.low (hF.below d).size).own⟩,hb8⟩
    (try simp only [putL])
    refine relTold rfl rfl ?_ ?_
    ·intro F hF hf d
     have hFc:=hF.cell
     have hFf:=hF.frozen
     have h9:=hf _ List.mem_cons_self (by rfl) d
     simp [yieldsR,yieldsUpon,go_sem]
     exact ⟨h9,Below.refl _ _⟩
    (try simp only [putL])
    refine relTold rfl rfl ?_ ?_
    ·intro F hF hf d
     have hFc:=hF.cell
     have hFf:=hF.frozen
     have h9:=hf _ (List.mem_cons_of_mem _ List.mem_cons_self) (by rfl) d
     obtain ⟨u9,e9,n9⟩:=h9
     simp only [] at e9 n9
     simp [yieldsR,yieldsUpon,go_sem,e9]
     exact ⟨n9,Below.refl _ _⟩
    (try simp only [putL])
    refine relQuiet rfl rfl ?_
    apply Exists.intro
    refine ⟨fun F hF hf K hK=>?_,?_⟩
    ·have hFc:=hF.cell
     have hFf:=hF.frozen
     have h9:=hf _ (List.mem_cons_of_mem _ List.mem_cons_self) (by rfl)
     obtain ⟨u9,e9,_⟩:=h9 w
     simp only [] at e9
     go_big_quiet_op
     exact hK
    (try simp only [putL])
    refine relTold rfl rfl ?_ ?_
    ·intro F hF hf d
     have hFc:=hF.cell
     have hFf:=hF.frozen
     simp [yieldsR,yieldsUpon,go_sem]
     exact ⟨⟨(F d).heap.size,rfl,heap_alloc_new (F d) _,(hF.below d).size⟩,up_alloc _ _⟩
    (try simp only [putL])
    refine relEnd ?_
    exact rfl
   ·intro x
    simp only [putsK,List.foldl_cons,List.foldl_nil,Act.put,List.setIfInBounds_toArray,List.set_cons_zero,List.set_cons_succ]
   rotate_left
   ·intro x hx
    obtain ⟨W9,u9,e9,_⟩:=hx _ (List.mem_cons_of_mem _ List.mem_cons_self) (by rfl)
    simp only [] at e9
    refine ⟨.int .i64 E,fun t ht=>?_,.inl ⟨by rfl,fun w=>?_⟩⟩
    ·cases ht
     rfl
    ·simp [execOp,Act.eval,e9,go_sem]
   intro w3 xs3 hB3 hf
   simp only [List.drop_succ_cons,List.drop_zero]
   have hT1:=hf _ (List.mem_cons_of_mem _ (List.mem_cons_of_mem _ List.mem_cons_self))
   have hN:=hf _ (List.mem_cons_of_mem _ (List.mem_cons_of_mem _ (List.mem_cons_of_mem _ List.mem_cons_self)))
   obtain ⟨x12,e12⟩:∃ z,xs3 12=z:=⟨_,rfl⟩
   obtain ⟨x13,e13⟩:∃ z,xs3 13=z:=⟨_,rfl⟩
   obtain ⟨x14,e14⟩:∃ z,xs3 14=z:=⟨_,rfl⟩
   obtain ⟨x16,e16⟩:∃ z,xs3 16=z:=⟨_,rfl⟩
   simp only [e14] at hT1
   simp only [e16] at hN
   simp only [e12,e13,e14,e16]
   clear e12 e13 e14 e16 hf hc0 ca4 ca5 k3 y0 y1 s0 s1 s2 s3
   obtain ⟨pa,na,ca,pb,nb,cb,rfl,hs0,ht0⟩:=hT1
   obtain ⟨g,rfl,hb1,hb2⟩:=hN
   obtain ⟨c0_,c1_,c2_,c3_⟩:=new_cel hb1
   have HB3:Hid (Below w.heap.size w w3):=bstep HB2.out hB3
   have HN3:w3.heap[w.heap.size]?=some (.cells #[.int .i64 op,.int .i64 (ai:Int),.int .i64 BV,.int .i64 KV,.slice none 0 0,.slice none 0 0] 50 (0,0)):=by rw [hB3.block _ (heap_lt HN2)];exact HN2
   have hg1:w.heap.size+1 < g:=Nat.lt_of_lt_of_le (heap_lt HY2) hb2
   by_cases hE:E=0
   case neg=>
    have hE':(E != 0)=true:=by simpa using hE
    obtain ⟨g1,g2⟩:=HG.out.2 hE
    subst g1 g2
    have HF:Hid (Below w.heap.size w (set2 w3 g (.slice pa na ca) (.slice pb nb cb))):=below_cell HB3.out g (by omega) _ _
    clear HG HC HN2 HY2 HB2 hs0 ht0 hB3 hE HN3
    go_wp2
    exact bodyPost_ret (v:=.tuple #[.int .i64 0,.int .i64 E]) (by simp [results,Tryz.results32,go_sem]) rfl ⟨rfl,hTT.out.up HF.out,HF.out.mono HBB.out,Only.of HF.out⟩
   subst hE
   obtain ⟨g1,g2⟩:=HG.out.1 rfl
   subst g1 g2
   clear HG HC
   obtain ⟨⟨_,_,_,_,k4,k5⟩,kf⟩:=box6 HN3
   have s1:=heap_lt HN3
   have m1:w.heap.size≠g:=by omega
   have m2:g≠w.heap.size:=by omega
   clear n1 n2 n3 n4
   go_wp2_with fail
   refine name_world (fun w6 hw6=>?_)
   have hA1:(set2 w3 g (.slice pa na ca) (.slice pb nb cb)).heap[w.heap.size]?=some (.cells #[.int .i64 op,.int .i64 (ai:Int),.int .i64 BV,.int .i64 KV,.slice none 0 0,.slice none 0 0] 50 (0,0)):=by
    show (World.setCell _ _ _).heap[_]?=_
    rw [heap_set _ _ _ _ _ m1,heap_set _ _ _ _ _ m1]
    exact HN3
   have ew6:w6=((set2 w3 g (.slice pa na ca) (.slice pb nb cb)).setCell ⟨w.heap.size,4,none⟩ (.slice pa na ca)).setCell ⟨w.heap.size,5,none⟩ (.slice pb nb cb):=hw6
   have HN6:w6.heap[w.heap.size]?=some (.cells #[.int .i64 op,.int .i64 (ai:Int),.int .i64 BV,.int .i64 KV,.slice pa na ca,.slice pb nb cb] 50 (0,0)):=by
    rw [ew6,heap_setat (heap_setat hA1)]
    rfl
   have HB6a:Below w.heap.size w w6:=by
    rw [ew6]
    exact ((below_cell HB3.out g (by omega) _ _).setCell (p:=⟨w.heap.size,4,none⟩) (Nat.le_refl _) _).setCell (p:=⟨w.heap.size,5,none⟩) (Nat.le_refl _) _
   have o6:Only [31,50] w3 w6:=by
    rw [ew6]
    have h2:=heap_setat (o:=0) (x:=.slice pa na ca) hb1
    exact (((Only.set hb1 (by simp)).trans (Only.set h2 (by simp))).trans (Only.set hA1 (by simp))).trans (Only.set (heap_setat hA1) (by simp))
   have HB6:Hid (Below B w w6∧B≤w6.heap.size∧Only [49,50] w w6):=⟨HB6a.mono HBB.out,Nat.le_trans HBB.out HB6a.size,Only.of HB6a⟩
   have hlow:B≤W2.heap.size:=Nat.le_trans HBB.out HB2.out.size
   have HND6:Hid (NdC w6 B ⟨op,(ai:Int),BV,KV,D,V⟩ [.int .i64 op,.int .i64 (ai:Int),.int .i64 BV,.int .i64 KV,.slice pa na ca,.slice pb nb cb]):=⟨_,_,rfl,(hs0.only o6 (by decide)).low hlow,(ht0.only o6 (by decide)).low hlow⟩
   have HT6:=hTT.out.up HB6a
   obtain ⟨pL,cL6,xs0,hv,ho,hn0,hnc⟩:=HT6.head
   rw [eN] at hv ho
   have HTP:Hid (B≤tb∧w6.heap[tb]?=some (.cells #[.slice pL N cL6] 49 (0,0))∧ns.length=N∧w6.ownsRow B 50 6 (.slice pL N cL6) N xs0∧NdsC w6 B ns xs0):=⟨hTT.out.1,hv,eN,ho,hn0⟩
   have hrow:∀ z,Value.ownBlock (.slice pL N cL6)=some z→z < w.heap.size:=fun z hz'=>by
    have h3:=hTT.out
    obtain ⟨pL',cL',xs',hv',ho',_,_⟩:=h3.head
    rw [eN] at hv' ho'
    have h4:=HB6a.block tb (heap_lt hv')
    rw [hv,hv'] at h4
    cases h4
    exact (World.ownsRow.lt ho' z hz').2
   have HX6:Hid (w6.heap[w.heap.size]?=some (.cells #[.int .i64 op,.int .i64 (ai:Int),.int .i64 BV,.int .i64 KV,.slice pa na ca,.slice pb nb cb] 50 (0,0))∧some w.heap.size≠Value.ownBlock (.slice pL N cL6)):=⟨HN6,fun h=>by have:=hrow _ h.symm;omega⟩
   have HRW:Hid (∀ z,Value.ownBlock (.slice pL N cL6)=some z→z < w6.heap.size):=fun z hz'=>Nat.lt_of_lt_of_le (hrow z hz') HB6a.size
   have HU1:Hid (∀ z∈([.int .i64 op,.int .i64 (ai:Int),.int .i64 BV,.int .i64 KV,.slice pa na ca,.slice pb nb cb]:List Value),z.oneCell'=true):=HND6.out.one
   clear hv ho hn0 hnc hrow c0_ c1_ c2_ c3_ k4 k5 kf s1 m1 m2 hA1 ew6 hw6 o6 hs0 ht0 HT6 HB6a HN6 HN3 HB3 hb1 hb2 hg1 hB3 HN2 HY2 HB2 hlow
   refine from_region (by kernel_rfl) ?_
   refine seg (fun q W=>match q with|false=>Below w6.heap.size w6 W|true=>w6.grownBy W (Value.ownBlock (.slice pL N cL6))) (fun W W'=>W.grownBy W' (Value.ownBlock (.slice pL N cL6))) 7 [⟨6,105,LitS 50 w6.heap.size [.int .i64 op,.int .i64 (ai:Int),.int .i64 BV,.int .i64 KV,.slice pa na ca,.slice pb nb cb]⟩,⟨7,106,OwnN 50 B (N+1) (xs0++[.int .i64 op,.int .i64 (ai:Int),.int .i64 BV,.int .i64 KV,.slice pa na ca,.slice pb nb cb])⟩] 0 10 115 rfl rfl (by kernel_rfl) (by rfl) ?_ ?_ ?_ ?_ ?_ ?_
   ·intro q W W' h hb
    cases q
    ·exact bstep h hb
    ·exact grown_up h hb
   ·exact ⟨rfl,rfl,rfl,Nat.le_refl _,fun _ _=>rfl⟩
   ·exact .inl ⟨_,List.mem_cons_of_mem _ List.mem_cons_self,rfl⟩
   ·intro e he v W W' h hb
    simp only [List.mem_cons,List.not_mem_nil,or_false] at he
    rcases he with rfl|rfl
    ·exact LitS.up h hb
    ·exact OwnN.up h hb
   ·intro e he hne v W W' h hc ht
    simp only [List.mem_cons,List.not_mem_nil,or_false] at he
    rcases he with rfl|rfl
    ·exact LitS.grown h ht HRW.out
    ·exact absurd rfl hne
   apply Exists.intro
   refine ⟨fun x=>?_,?_,?_⟩
   ·simp only [List.drop_succ_cons,List.drop_zero,List.take_succ_cons,List.take_zero]
    iterate 4
     refine segQuiet rfl rfl ?_
     apply Exists.intro
     refine ⟨fun b F hF hf K hK=>?_,?_⟩
     ·have hFc:=hF.cls
      go_big_quiet_op
      exact hK
     (try simp only [putL])
    refine segQuiet rfl rfl ?_
    apply Exists.intro
    refine ⟨fun b F hF hf K hK=>?_,?_⟩
    ·have hFc:=hF.cls
     have q0:∀ d,(F d).cell? ⟨tb,0,none⟩=some (.slice pL N cL6):=fun d=>by
      have hK:w6.grownBy (F d) (Value.ownBlock (.slice pL N cL6)):=by
       cases b
       ·exact below_grown _ (hFc d)
       ·exact hFc d
      exact hK.cell (head_cell HTP.out.2.1).1 (Ne.symm (owned_off ne_nt HTP.out.2.1 HTP.out.2.2.2.1))
     clear hFc
     go_big_quiet_op
     exact hK
    (try simp only [putL])
    refine segQuiet rfl rfl ?_
    apply Exists.intro
    refine ⟨fun b F hF hf K hK=>?_,?_⟩
    ·have hFc:=hF.cls
     have q0:∀ d,(F d).heap[w.heap.size]?=some (.cells #[.int .i64 op,.int .i64 (ai:Int),.int .i64 BV,.int .i64 KV,.slice pa na ca,.slice pb nb cb] 50 (0,0)):=fun d=>by
      have hK:w6.grownBy (F d) (Value.ownBlock (.slice pL N cL6)):=by
       cases b
       ·exact below_grown _ (hFc d)
       ·exact hFc d
      rw [hK.block _ (heap_lt HX6.out.1) HX6.out.2]
      exact HX6.out.1
     have q1:=fun d=>(box6 (q0 d)).1.1
     have q2:=fun d=>(box6 (q0 d)).1.2.1
     have q3:=fun d=>(box6 (q0 d)).1.2.2.1
     have q4:=fun d=>(box6 (q0 d)).1.2.2.2.1
     have q5:=fun d=>(box6 (q0 d)).1.2.2.2.2.1
     have q6:=fun d=>(box6 (q0 d)).1.2.2.2.2.2
     clear hFc q0
     go_big_quiet_op
     exact hK
    (try simp only [putL])
    refine segTold rfl (by decide) rfl ?_ ?_
    ·intro b F hF hf d
     have hFc:=hF.cls
     have hcls:w6.heap.size≤(F d).heap.size:=by
      cases b
      ·exact (hFc d).size
      ·exact (hFc d).size
     simp [yieldsR,yieldsUpon,go_sem]
     exact ⟨⟨(F d).heap.size,rfl,heap_alloc_new (F d) _,hcls⟩,up_alloc _ _⟩
    (try simp only [putL])
    refine segBusy rfl rfl rfl ?_ ?_
    ·intro W hW hf
     have h7:=hf _ List.mem_cons_self (by rfl) W
     obtain ⟨g7,e7,hg7,_⟩:=h7
     simp only [] at e7
     obtain ⟨g8,c8,w8,hr8,ho8,hgr8⟩:=appN nodeT (by decide) 47 W B (.slice pL N cL6) N xs0 (owns_only (S:=[]) HTP.out.2.2.2.1 (Only.of hW) (by simp)) g7 [.int .i64 op,.int .i64 (ai:Int),.int .i64 BV,.int .i64 KV,.slice pa na ca,.slice pb nb cb] hg7 rfl HU1.out (by have:=hl.out;omega) (Nat.le_trans HTP.out.1 (Nat.le_trans (Nat.le_of_lt (heap_lt HTP.out.2.1)) (Below.size hW)))
     simp [leavesR,leavesUpon,execOp,resolve,invoke,builtin,Act.eval,e7,hr8,Result.andThen]
     exact ⟨ho8,grown_trans (below_grown _ hW) hgr8,hgr8⟩
    iterate 2
     (try simp only [putL])
     refine segQuiet rfl rfl ?_
     apply Exists.intro
     refine ⟨fun b F hF hf K hK=>?_,?_⟩
     ·have hFc:=hF.cls
      go_big_quiet_op
      exact hK
    (try simp only [putL])
    refine segEnd ?_
    exact rfl
   ·exact fun x=>rfl
   ·intro w8 xs8 hC8 hf8
    have hC8':w6.grownBy w8 (Value.ownBlock (.slice pL N cL6)):=hC8
    refine from_list 10 (by kernel_rfl) ?_
    simp only [List.drop_succ_cons,List.drop_zero]
    have h8:=hf8 _ (List.mem_cons_of_mem _ List.mem_cons_self)
    obtain ⟨x6,e6⟩:∃ z,xs8 6=z:=⟨_,rfl⟩
    obtain ⟨x7,e7⟩:∃ z,xs8 7=z:=⟨_,rfl⟩
    simp only [e7] at h8
    simp only [e6,e7]
    obtain ⟨g8,c8,rfl,_,_⟩:=World.ownsRow.form h8 (by omega)
    obtain ⟨hTp,hOn⟩:=Tap.push (TT:=49) (NT:=50) ne_nt (by decide) (by decide) (nd:=⟨op,(ai:Int),BV,KV,D,V⟩) HTP.out.1 HTP.out.2.1 (by rw [HTP.out.2.2.1];exact HTP.out.2.2.2.1) HTP.out.2.2.2.2 HND6.out hC8' (by rw [HTP.out.2.2.1];exact h8)
    have hv8:w8.heap[tb]?=some (.cells #[.slice pL N cL6] 49 (0,0)):=by
     rw [hC8'.block tb (heap_lt HTP.out.2.1) (Ne.symm (owned_off ne_nt HTP.out.2.1 HTP.out.2.2.2.1))]
     exact HTP.out.2.1
    obtain ⟨r0,r1⟩:=head_cell hv8
    have z0:=(head_cell (v:=.slice (some ⟨g8,0,none⟩) (N+1) c8) (e:=49) (W:=w8.setCell ⟨tb,0,none⟩ (.slice (some ⟨g8,0,none⟩) (N+1) c8)) (by rw [heap_setat hv8];rfl)).1
    have HF:Hid (Tap 49 50 (w8.setCell ⟨tb,0,none⟩ (.slice (some ⟨g8,0,none⟩) (N+1) c8)) B tb (ns++[⟨op,(ai:Int),BV,KV,D,V⟩])∧Below B w (w8.setCell ⟨tb,0,none⟩ (.slice (some ⟨g8,0,none⟩) (N+1) c8))∧Only [49,50] w (w8.setCell ⟨tb,0,none⟩ (.slice (some ⟨g8,0,none⟩) (N+1) c8))):=
     ⟨hTp,(Below.grown HB6.out.1 hC8' HB6.out.2.1 (OwnN_block HTP.out.2.2.2.1)).setCell (p:=⟨tb,0,none⟩) HTP.out.1 _,HB6.out.2.2.trans hOn⟩
    clear hTp hOn hC8 hC8' h8 hf8 hv8
    have hN1:((N+1:Nat):Int) - 1=(N:Int):=by omega
    have hN2:wrap64 (N:Int)=(N:Int):=by have:=hl.out;unfold wrap64;omega
    go_wp2
    exact bodyPost_ret (v:=.tuple #[.int .i64 (N:Int),.int .i64 0]) (by simp [results,Tryz.results32,go_sem,hN1,hN2]) rfl ⟨rfl,HF.out⟩
theorem rdo_any (B tb:Nat) (ns:List Nd) (hG:NodesG ns) (op a b k:Int) (w:World) (hT:Tap 49 50 w B tb ns) (hk:InR k):
  Calls Tryz.prog 32 #[.pointer (some ⟨tb,0,none⟩),.int .i64 op,.int .i64 a,.int .i64 b,.int .i64 k] w fun e w'=>e = .returned (.tuple #[.int .i64 (doR ns op a b k),.int .i64 (doE ns op a b k)])∧Tap 49 50 w' B tb (doN ns op a b k)∧Below B w w'∧Only [49,50] w w':=by
 by_cases hf:512≤ns.length
 ·exact rdo_full B tb ns hG op a b k w hT hf
 by_cases ho:okD ns op a b
 case neg=>exact rdo_bad B tb ns hG op a b k w hT (by omega) ho
 obtain ⟨ai,rfl⟩:∃ i:Nat,a=i:=⟨a.toNat,by have:=ho.2.1;omega⟩
 have hai:ai < ns.length:=by have:=ho.2.1;omega
 obtain ⟨nda,hnda⟩:∃ nd,ns[ai]?=some nd:=⟨_,List.getElem?_eq_getElem hai⟩
 have hga:TnsG nda.D nda.X:=hG nda (nd_mem hnda)
 have ena:=nd_at hnda
 have f1:dE ns op (ai:Int) b k=rkE op nda.D nda.X (dD ns op b) (dX ns op b) (dK op k):=by unfold dE;rw [ena]
 have f2:dN ns op (ai:Int) b k=⟨op,(ai:Int),dB op b,dK op k,rkD op nda.D nda.X (dD ns op b) (dX ns op b) (dK op k),rkV op nda.D nda.X (dD ns op b) (dX ns op b) (dK op k)⟩:=by unfold dN;rw [ena]
 have g1:doE ns op (ai:Int) b k=rkE op nda.D nda.X (dD ns op b) (dX ns op b) (dK op k):=(if_neg hf).trans ((if_pos ho).trans f1)
 have hgb:RI (dD ns op b)∧RI (dX ns op b):=by
  unfold dD dX
  by_cases h2:twoP op
  ·rw [if_pos h2,if_pos h2]
   exact (hG.at (ho.2.2 h2).1 (ho.2.2 h2).2).2
  ·rw [if_neg h2,if_neg h2]
   exact ⟨fun y hy=>by simp at hy,fun y hy=>by simp at hy⟩
 have hkK:InR (dK op k):=by
  unfold dK
  split
  ·exact hk
  ·unfold InR;omega
 rw [g1]
 refine rdo_ok B tb ns op ai b k nda hnda (dD ns op b) (dX ns op b) (dB op b) (dK op k) ?_ ?_ ho.1.1 ho.1.2 (by omega) _ (rkD op nda.D nda.X (dD ns op b) (dX ns op b) (dK op k)) (rkV op nda.D nda.X (dD ns op b) (dX ns op b) (dK op k)) _ _ ⟨fun h=>?_,fun h=>?_⟩ w hT ?_
 ·by_cases h2:twoP op
  ·have hb:=ho.2.2 h2
   obtain ⟨bi,rfl⟩:∃ i:Nat,b=i:=⟨b.toNat,by omega⟩
   obtain ⟨ndb,hndb⟩:∃ nd,ns[bi]?=some nd:=⟨_,List.getElem?_eq_getElem (by omega)⟩
   have enb:=nd_at hndb
   exact .inl ⟨h2,if_pos h2,bi,ndb,rfl,hndb,(if_pos h2).trans (by rw [enb]),(if_pos h2).trans (by rw [enb])⟩
  ·exact .inr ⟨h2,if_neg h2,if_neg h2,if_neg h2⟩
 ·by_cases h3:byP op
  ·exact .inl ⟨h3,if_pos h3⟩
  ·exact .inr ⟨h3,if_neg h3⟩
 ·have hP:doP ns op (ai:Int) b k:=⟨⟨by omega,ho⟩,f1.trans h⟩
  exact ⟨if_pos hP,(if_pos hP).trans (by rw [f2])⟩
 ·have hP:¬ doP ns op (ai:Int) b k:=fun h'=>h (f1.symm.trans h'.2)
  exact ⟨if_neg hP,if_neg hP⟩
 intro W pA qA pB qB nA cA mA eA nB cB mB eB hW gc g1 g2 g4 g5
 exact rreckon_any pA qA pB qB nA cA mA eA nB cB mB eB _ _ _ _ op ho.1.1 ho.1.2 _ hkK hga hgb.1 hgb.2 gc W g1 g2 g4 g5
end Go.Proofs.YtlhpmjcdkpfjdaaGreatDoor.Wd
namespace Go.Proofs.YtlhpmjcdkpfjdaaGreatDoor.Wd
open Go.ChangeShapes Go.WideShapes Go.ChangeAt Go.RowKit Go.Joins Go.Deep
/-- The i-th call's six cells. -/
def StepAt (W:World) (q o:Nat) (op a b k:Int) (pd:Option Addr) (nd cd:Nat) (zd:Nat→Int) (pv:Option Addr) (nv cv:Nat) (zv:Nat→Int):Prop:=
 W.cell? ⟨q,o,none⟩=some (.int .i64 op)∧W.cell? ⟨q,o+1,none⟩=some (.int .i64 a)∧W.cell? ⟨q,o+2,none⟩=some (.int .i64 b)∧W.cell? ⟨q,o+3,none⟩=some (.int .i64 k)∧W.cell? ⟨q,o+4,none⟩=some (.slice pd nd cd)∧W.cell? ⟨q,o+5,none⟩=some (.slice pv nv cv)
 ∧ (Lit.int .i64 op).wf=true∧(Lit.int .i64 a).wf=true∧(Lit.int .i64 b).wf=true∧(Lit.int .i64 k).wf=true∧RowN .i64 W pd nd cd zd∧RowN .i64 W pv nv cv zv
def StepsN (W:World) (p:Option Addr) (n c:Nat):Prop:=
 n≤c∧c≤9223372036854775807∧∀ i,i < n→∃ q o op a b k pd nd cd zd pv nv cv zv,p=some ⟨q,o,none⟩∧StepAt W q (o+i*6) op a b k pd nd cd zd pv nv cv zv
theorem list6 {α:Type} {l:List α} (h:l.length=6):∃ a b c d e f,l = [a,b,c,d,e,f]:=by
 match l,h with
 | [a,b,c,d,e,f],_=>exact ⟨a,b,c,d,e,f,rfl⟩
theorem list5 {α:Type} {l:List α} (h:l.length=5):∃ a b c d e,l = [a,b,c,d,e]:=by
 match l,h with
 | [a,b,c,d,e],_=>exact ⟨a,b,c,d,e,rfl⟩
theorem open_steps {H:Type} {enc:TypeId×Value→H} {P:Program} {W:World} {t e tt e0 e1:TypeId} {f0 f1 f2 f3 f4 g0 g1:Field} {a:Option Addr} {n c:Nat} {d:DataW H} {ps:List MemPlace}
  (ht:P.underlying t=some (.slice e)) (he:P.underlying e=some (.struct #[f0,f1,f2,f3,f4])) (ce:P.cellsOf e=6)
  (o0:f0.offset=0) (o1:f1.offset=1) (o2:f2.offset=2) (o3:f3.offset=3) (o4:f4.offset=4) (c0:P.cellsOf f0.type=1) (c1:P.cellsOf f1.type=1) (c2:P.cellsOf f2.type=1) (c3:P.cellsOf f3.type=1) (c4:P.cellsOf f4.type=2)
  (u0:P.underlying f0.type=some (.int .i64)) (u1:P.underlying f1.type=some (.int .i64)) (u2:P.underlying f2.type=some (.int .i64)) (u3:P.underlying f3.type=some (.int .i64))
  (u4:P.underlying f4.type=some (.struct #[g0,g1])) (p0:g0.offset=0) (p1:g1.offset=1) (q0:P.cellsOf g0.type=1) (q1:P.cellsOf g1.type=1)
  (s0:P.underlying g0.type=some (.slice e0)) (r0:P.underlying e0=some (.int .i64)) (k0:P.cellsOf e0=1) (s1:P.underlying g1.type=some (.slice e1)) (r1:P.underlying e1=some (.int .i64)) (k1:P.cellsOf e1=1)
  (h:DataW.Trod enc P W 0 (fun _=>true) true t (.slice a n c) d ps):StepsN W a n c:=by
 obtain ⟨fuel,hf⟩:=h
 rcases open_slice ht hf with ⟨hcs,_⟩|⟨x,len,cap,m,fu,D,Pl,hcs,hb,hl,hm,hmm,_,hx⟩
 ·simp [Value.cells] at hcs
  obtain ⟨rfl,rfl,rfl⟩:=hcs
  exact ⟨Nat.le_refl _,by omega,fun i hi=>by omega⟩
 ·simp [Value.cells] at hcs
  obtain ⟨rfl,rfl,rfl⟩:=hcs
  refine ⟨hl,by unfold maxLen at hm;omega,fun i hi=>?_⟩
  have hlm:n≤m:=by rw [hmm];split <;> omega
  obtain ⟨cs',h1,h2⟩:=hx i (by omega)
  rw [ce] at h1
  obtain ⟨_,hlen,hcell⟩:=World.cells?_some h1
  obtain ⟨xs,fk,_,_,_,hxl,hfd⟩:=DataW.trod_struct he h2
  obtain ⟨y0,y1,y2,y3,y4,rfl⟩:=list5 hxl
  obtain ⟨v0,v1,v2,v3,v4,v5,rfl⟩:=list6 hlen
  have t0:=hfd 0 f0 rfl
  have t1:=hfd 1 f1 rfl
  have t2:=hfd 2 f2 rfl
  have t3:=hfd 3 f3 rfl
  have t4:=hfd 4 f4 rfl
  simp [o0,c0] at t0
  simp [o1,c1] at t1
  simp [o2,c2] at t2
  simp [o3,c3] at t3
  simp [o4,c4] at t4
  obtain ⟨z0,e0',_,w0⟩:=DataW.trod_int u0 t0
  obtain ⟨z1,e1',_,w1⟩:=DataW.trod_int u1 t1
  obtain ⟨z2,e2',_,w2⟩:=DataW.trod_int u2 t2
  obtain ⟨z3,e3',_,w3⟩:=DataW.trod_int u3 t3
  simp only [List.cons.injEq,and_true] at e0' e1' e2' e3'
  subst e0' e1' e2' e3'
  obtain ⟨y5,y6,fm,_,_,t5,t6⟩:=trod_struct2 u4 t4
  simp [p0,q0] at t5
  simp [p1,q1] at t6
  obtain ⟨pd,nd,cd,ed⟩:=slice_form s0 t5
  obtain ⟨pv,nv,cv,ev⟩:=slice_form s1 t6
  simp only [List.cons.injEq,and_true] at ed ev
  subst ed ev
  obtain ⟨zd,hzd⟩:=open_rowN (d:=y5.1) (ps:=y5.2) s0 r0 k0 ⟨fm,t5⟩
  obtain ⟨zv,hzv⟩:=open_rowN (d:=y6.1) (ps:=y6.2) s1 r1 k1 ⟨fm,t6⟩
  have g0_:=hcell 0 (by omega)
  have g1_:=hcell 1 (by omega)
  have g2_:=hcell 2 (by omega)
  have g3_:=hcell 3 (by omega)
  have g4_:=hcell 4 (by omega)
  have g5_:=hcell 5 (by omega)
  rw [add_add] at g0_ g1_ g2_ g3_ g4_ g5_
  have ex:x=⟨x.block,x.off,none⟩:=by
   obtain ⟨cs0,h10,_⟩:=hx 0 (by omega)
   rw [ce] at h10
   obtain ⟨_,hlen0,hcell0⟩:=World.cells?_some h10
   obtain ⟨w0_,w1_,w2_,w3_,w4_,w5_,rfl⟩:=list6 hlen0
   have h0:=hcell0 0 (by omega)
   rw [add_add,Nat.zero_mul] at h0
   have e0_:x.add (0+0)=x:=by simp [Addr.add]
   rw [e0_] at h0
   exact spot_none (v:=w0_) (by simpa using h0)
  have hs:∀ j v,W.cell? (x.add j)=some v→x=⟨x.block,x.off,none⟩∧W.cell? ⟨x.block,x.off+j,none⟩=some v:=fun j v hv=>by
   rw [ex,addr_plus] at hv
   exact ⟨ex,hv⟩
  have n0:=hs _ _ (by simpa using g0_)
  refine ⟨x.block,x.off,z0,z1,z2,z3,pd,nd,cd,zd,pv,nv,cv,zv,by rw [← n0.1],?_⟩
  refine ⟨n0.2,?_,?_,?_,?_,?_,w0,w1,w2,w3,hzd,hzv⟩
  ·rw [Nat.add_assoc];exact (hs _ _ (by simpa using g1_)).2
  ·rw [Nat.add_assoc];exact (hs _ _ (by simpa using g2_)).2
  ·rw [Nat.add_assoc];exact (hs _ _ (by simpa using g3_)).2
  ·rw [Nat.add_assoc];exact (hs _ _ (by simpa using g4_)).2
  ·rw [Nat.add_assoc];exact (hs _ _ (by simpa using g5_)).2
end Go.Proofs.YtlhpmjcdkpfjdaaGreatDoor.Wd
namespace Go.Proofs.YtlhpmjcdkpfjdaaGreatDoor.Wd
open Go.RowKit Fx
/-- Calls whose tensors are small. -/
def StepsS (W:World) (p:Option Addr) (n:Nat):Prop:=∀ i,i < n→∃ q o op a b k pd nd cd zd pv nv cv zv,p=some ⟨q,o,none⟩∧StepAt W q (o+i*6) op a b k pd nd cd zd pv nv cv zv∧nd≤10∧nv≤60
theorem small_any (p:Option Addr) (n c:Nat) (most:Nat) (hm:most≤1000) (w:World) (hS:StepsN w p n c):
  Calls Tryz.prog 15 #[.slice p n c,.int .i64 (most:Int)] w fun e w'=>∃ q:Bool,e = .returned (.bool q)∧(q=true→n≤most∧StepsS w p n)∧w'=w:=by
 have HS:Hid (StepsN w p n c):=hS
 have hc:(n:Int)≤9223372036854775807:=by have:=hS.1;have:=hS.2.1;omega
 clear hS
 by_cases hn:most < n
 ·have d1:decide ((most:Int) < (n:Int))=true:=decide_eq_true (by omega)
  have d2:decide (most < n)=true:=decide_eq_true hn
  go_enter Tryz.func15,Tryz.ntmps15
  go_wp2
  go_ret
  exact ⟨false,rfl,(fun h=>by cases h),rfl⟩
 have d1:decide ((most:Int) < (n:Int))=false:=decide_eq_false (by omega)
 have d2:decide (most < n)=false:=decide_eq_false hn
 go_enter Tryz.func15,Tryz.ntmps15
 go_wp2_with fail
 go_loopg [5] n (fun gg i wr=>∃ (k:Nat),k≤n∧gg=n - k∧i = .int .i64 (k:Int)∧wr=w∧Hid (StepsS w p k))
 case atStart=>exact ⟨0,by omega,by omega,by first|rfl|simp,rfl,fun i hi=>by omega⟩
 case round=>
  obtain ⟨k,hk,hg,rfl,rfl,HK⟩:=hrel
  by_cases hkn:k < n
  ·have hk':(k:Int) < (n:Int):=by omega
   have hk2:decide (k < n)=true:=decide_eq_true hkn
   obtain ⟨q,o,op,a,b,kk,pd,nd,cd,zd,pv,nv,cv,zv,ep,hst⟩:=HS.out.2.2 k hkn
   have hA:=hst
   obtain ⟨_,_,_,_,h4,h5,_⟩:=hst
   subst ep
   have hnd:(nd:Int)≤9223372036854775807:=by have:=hA.2.2.2.2.2.2.2.2.2.2.1.few;unfold Few at this;rw [nlst_len] at this;omega
   have hnv:(nv:Int)≤9223372036854775807:=by have:=hA.2.2.2.2.2.2.2.2.2.2.2.few;unfold Few at this;rw [nlst_len] at this;omega
   by_cases h10:10 < nd
   ·have g1:decide ((10:Int) < (nd:Int))=true:=decide_eq_true (by omega)
    have g2:decide (10 < nd)=true:=decide_eq_true h10
    clear hA h10
    go_wp2
    go_ret
    exact ⟨false,rfl,(fun h=>by cases h),rfl⟩
   ·have g1:decide ((10:Int) < (nd:Int))=false:=decide_eq_false (by omega)
    have g2:decide (10 < nd)=false:=decide_eq_false h10
    by_cases h60:60 < nv
    ·have g3:decide ((60:Int) < (nv:Int))=true:=decide_eq_true (by omega)
     have g4:decide (60 < nv)=true:=decide_eq_true h60
     clear hA h10 h60
     go_wp2
     go_ret
     exact ⟨false,rfl,(fun h=>by cases h),rfl⟩
    ·have g3:decide ((60:Int) < (nv:Int))=false:=decide_eq_false (by omega)
     have g4:decide (60 < nv)=false:=decide_eq_false h60
     have HK1:Hid (StepsS wr (some ⟨q,o,none⟩) (k+1)):=fun i hi=>by
      by_cases c:i < k
      ·exact HK.out i c
      ·obtain rfl:i=k:=by omega
       exact ⟨q,o,op,a,b,kk,pd,nd,cd,zd,pv,nv,cv,zv,rfl,hA,by omega,by omega⟩
     clear hA h10 h60 hnd hnv
     go_wp2
     go_roundg (n - (k+1))
     case measure=>omega
     case rel=>exact ⟨k+1,by omega,rfl,by first|rfl|simp,rfl,HK1⟩
  ·obtain rfl:n=k:=by omega
   go_wp2
   go_ret
   exact ⟨true,rfl,fun _=>⟨by omega,HK.out⟩,rfl⟩
def totN (ns:List Nd) (k:Nat):Nat:=((ns.take k).map fun nd=>nd.X.length).sum
theorem totN_succ {ns:List Nd} {k:Nat} {nd:Nd} (h:ns[k]?=some nd):totN ns (k+1)=totN ns k+nd.X.length:=by
 unfold totN
 rw [List.take_add_one,h]
 simp
theorem totN_le {ns:List Nd} (hG:NodesG ns) (k:Nat):totN ns k≤k*4096:=by
 induction k with
 | zero=>simp [totN]
 | succ k ih=>
  cases h:ns[k]? with
  | none=>
   have:totN ns (k+1)=totN ns k:=by
    unfold totN
    rw [List.take_add_one,h]
    simp
   omega
  | some nd=>
   rw [totN_succ h]
   have:=(hG nd (nd_mem h)).1.len.2
   omega
theorem total_any_ (B tb:Nat) (ns:List Nd) (hG:NodesG ns) (hl:ns.length≤512) (w:World) (hT:Tap 49 50 w B tb ns):
  Calls Tryz.prog 33 #[.pointer (some ⟨tb,0,none⟩)] w fun e w'=>e = .returned (.int .i64 ((totN ns ns.length:Nat):Int))∧w'=w:=by
 obtain ⟨pL,cL,xs0,hv,ho,hn0,hnc⟩:=hT.head
 obtain ⟨N,eN⟩:∃ N,ns.length=N:=⟨_,rfl⟩
 rw [eN] at hv ho hl ⊢
 have hcell:=(head_cell hv).1
 have HT:Hid (w.ownsRow B 50 6 (.slice pL N cL) N xs0∧NdsC w B ns xs0∧ns.length=N∧NodesG ns):=⟨ho,hn0,eN,hG⟩
 have hN:Hid (N≤512):=hl
 have hN':(N:Int)≤9223372036854775807:=by omega
 clear hv ho hn0 hnc hT hG hl eN
 go_enter Tryz.func33,Tryz.ntmps33
 go_wp2_with fail
 go_loopg [3,4] N (fun gg s i wr=>∃ (k:Nat),k≤N∧gg=N - k∧s = .int .i64 ((totN ns k:Nat):Int)∧i = .int .i64 (k:Int)∧wr=w)
 case atStart=>exact ⟨0,by omega,by omega,by first|rfl|simp [totN],by first|rfl|simp,rfl⟩
 case round=>
  obtain ⟨k,hk,hg,rfl,rfl,rfl⟩:=hrel
  by_cases hkn:k < N
  ·have hk':(k:Int) < (N:Int):=by omega
   have hk2:decide (k < N)=true:=decide_eq_true hkn
   obtain ⟨q,nd,s,t,eq,hnd,_,_,_,_,c4,c5,hs,ht⟩:=node_cells HT.out.1 HT.out.2.1 HT.out.2.2.1 k hkn
   obtain ⟨pt,nt,ct,rfl,HX⟩:=ht.nums.lst
   subst eq
   have hs1:=totN_succ hnd
   have hle:=totN_le HT.out.2.2.2 (k+1)
   have hle0:=totN_le HT.out.2.2.2 k
   have hN2:=hN.out
   rw [HX.out.1] at hs1
   obtain ⟨a,ea⟩:∃ a,totN ns k=a:=⟨_,rfl⟩
   obtain ⟨b,eb⟩:∃ b,totN ns (k+1)=b:=⟨_,rfl⟩
   rw [ea,eb] at hs1
   rw [eb] at hle
   rw [ea] at hle0
   have hb:(b:Int)≤4611686018427387904:=by omega
   have ha:(a:Int)≤4611686018427387904:=by omega
   have hsum:(a:Int)+(nt:Int)=(b:Int):=by omega
   have hnt:(nt:Int)≤4611686018427387904:=by omega
   have HE:Hid (totN ns (k+1)=b):=eb
   rw [ea]
   clear hs ht HX hs1 hle hle0 eb ea hnd hN2
   go_wp2
   go_roundg (N - (k+1))
   case measure=>omega
   case rel=>exact ⟨k+1,by omega,rfl,by rw [HE.out],by first|rfl|simp,rfl⟩
  ·obtain rfl:N=k:=by omega
   go_wp2
   go_ret
   exact ⟨rfl,rfl⟩
theorem played_any (p:Option Addr) (n c:Nat) (hn40:n≤1000) (w:World) (hT:Hid (Tz w)) (hS:StepsS w p n):
  Calls Tryz.prog 16 #[.slice p n c] w fun e w'=>∃ tb tc ns,e = .returned (.tuple #[.pointer (some ⟨tb,0,none⟩),.pointer (some ⟨tc,0,none⟩),.bool true])∧TapC w' w.heap.size tb ns∧Tap 49 50 w' w.heap.size tc ns∧NodesG ns∧ns.length≤512∧Below w.heap.size w w':=by
 have HS:Hid (StepsS w p n):=hS
 have hn:(n:Int)≤1000:=by omega
 clear hS
 go_enter Tryz.func16,Tryz.ntmps16
 go_wp2_with fail
 refine (cnew_any w).mono ?_
 rintro e w1 ⟨tb,rfl,hT1,hB1⟩
 have HT1:Hid (TapC w1 w.heap.size tb []∧Below w.heap.size w w1):=⟨hT1,hB1⟩
 clear hT1 hB1
 go_wp2_with fail
 generalize hW1:World.alloc _ _=W1
 obtain ⟨tc,htc⟩:∃ z,w1.heap.size=z:=⟨_,rfl⟩
 have HI1:Hid ((TapC W1 w.heap.size tb []∧Tap 49 50 W1 w.heap.size tc []∧NodesG []∧([]:List Nd).length≤512)∧Below w.heap.size w W1):=by
  rw [← hW1,← htc]
  exact ⟨⟨HT1.out.1.up (up_alloc w1 _),Tap.new HT1.out.2.size,NodesG.nil,by simp⟩,bstep HT1.out.2 (up_alloc w1 _)⟩
 rw [htc]
 clear hW1 HT1 htc
 go_loopg [7] n (fun gg i wr=>∃ (k:Nat) (ns:List Nd),k≤n∧gg=n - k∧i = .int .i64 (k:Int)∧Hid (TapC wr w.heap.size tb ns∧Tap 49 50 wr w.heap.size tc ns∧NodesG ns∧ns.length≤512)∧Hid (Below w.heap.size w wr))
 case atStart=>exact ⟨0,[],by omega,by omega,by first|rfl|simp,HI1.out.1,HI1.out.2⟩
 case round=>
  obtain ⟨k,ns,hk,hg,rfl,HI,HB⟩:=hrel
  obtain ⟨R1,hR1⟩:∃ R1:World,R1=wr:=⟨_,rfl⟩
  subst hR1
  by_cases hkn:k < n
  ·have hk':(k:Int) < (n:Int):=by omega
   have hk2:decide (k < n)=true:=decide_eq_true hkn
   obtain ⟨q,o,op,a,b,kk,pd,nd,cd,zd,pv,nv,cv,zv,ep,hst,h10,h60⟩:=HS.out k hkn
   obtain ⟨x0,x1,x2,x3,x4,x5,wf0,wf1,wf2,wf3,rd,rv⟩:=hst
   subst ep
   have HK:Hid (InR op∧InR a∧InR b∧InR kk):=⟨bounds_i64 wf0,bounds_i64 wf1,bounds_i64 wf2,bounds_i64 wf3⟩
   obtain ⟨dd,edd⟩:∃ z,nlst nd zd=z:=⟨_,rfl⟩
   obtain ⟨yy,eyy⟩:∃ z,nlst nv zv=z:=⟨_,rfl⟩
   have HD:Hid (RI dd∧RI yy∧nd≤10∧nv≤60):=by rw [← edd,← eyy];exact ⟨rd.riI,rv.riI,h10,h60⟩
   have HD2:Hid (∀ W,Below w.heap.size w W→Nums .i64 W (.slice pd nd cd) dd∧Nums .i64 W (.slice pv nv cv) yy):=fun W hW=>by rw [← edd,← eyy];exact ⟨rd.nums.up hW,rv.nums.up hW⟩
   have y0:=cell_low x0 HB.out
   have y1:=cell_low x1 HB.out
   have y2:=cell_low x2 HB.out
   have y3:=cell_low x3 HB.out
   have y4:=cell_low x4 HB.out
   have y5:=cell_low x5 HB.out
   have hzz:=cell_lt y0
   clear x0 x1 x2 x3 x4 x5 wf0 wf1 wf2 wf3 rd rv edd eyy h10 h60
   by_cases hop:op=1
   ·subst hop
    go_wp2_with fail
    generalize hW2:World.alloc _ _=W2
    have HX2:Hid (W2.heap[R1.heap.size]?=some (.cells #[.int .i64 1,.int .i64 a,.int .i64 b,.int .i64 kk,.slice pd nd cd,.slice pv nv cv] 70 (0,0))):=by
     show _=_
     rw [← hW2]
     exact heap_alloc_new _ _
    have hL2:Below R1.heap.size R1 W2:=by rw [← hW2];exact up_alloc R1 _
    have HB2:Hid (Below w.heap.size w W2):=bstep HB.out hL2
    have HI2:Hid (TapC W2 w.heap.size tb ns∧Tap 49 50 W2 w.heap.size tc ns):=⟨HI.out.1.up hL2,HI.out.2.1.up hL2⟩
    obtain ⟨⟨bx0,bx1,bx2,bx3,bx4,bx5⟩,_⟩:=box6 HX2.out
    clear hW2 hL2 y0 y1 y2 y3 y4 y5 hzz
    obtain ⟨ns2,e2⟩:∃ z,leafN ns dd yy=z:=⟨_,rfl⟩
    obtain ⟨rr,er⟩:∃ z,leafR ns dd yy=z:=⟨_,rfl⟩
    obtain ⟨ee,ee_⟩:∃ z,leafE ns dd yy=z:=⟨_,rfl⟩
    have hg2:NodesG ns2:=by rw [← e2];exact HI.out.2.2.1.leaf HD.out.2.1
    have hl2:ns2.length≤512:=by rw [← e2];exact leaf_len ns dd yy HI.out.2.2.2
    have cc:=cleaf_any w.heap.size tb ns HI.out.2.2.1 pd pv nd cd nv cv dd yy HD.out.1 HD.out.2.1 W2 (HI2.out.1) (HD2.out W2 HB2.out).1 (HD2.out W2 HB2.out).2
    rw [er,ee_,e2] at cc
    refine cc.mono ?_
    rintro e w3 ⟨rfl,hT3,hB3,hO3⟩
    clear cc
    have HB3:Hid (Below w.heap.size w w3):=HB2.out.trans hB3
    have HT3:Hid (TapC w3 w.heap.size tb ns2):=hT3
    have HR3:Hid (Tap 49 50 w3 w.heap.size tc ns):=HI2.out.2.only hO3 (by decide) (by decide) (by decide) (by decide)
    have hX3:=hO3.keep HX2.out (by decide)
    clear hT3 hB3 hO3 bx0 bx1 bx2 bx3 bx4 bx5
    obtain ⟨⟨bx0,bx1,bx2,bx3,bx4,bx5⟩,_⟩:=box6 hX3
    go_wp2_with fail
    have cc:=rleaf_any w.heap.size tc ns pd pv nd cd nv cv dd yy HD.out.1 w3 HR3.out (HD2.out w3 HB3.out).1 (HD2.out w3 HB3.out).2
    rw [er,ee_,e2] at cc
    refine cc.mono ?_
    rintro e w4 ⟨rfl,hT4,hB4,hO4⟩
    clear cc
    have HB4:Hid (Below w.heap.size w w4):=HB3.out.trans hB4
    have HT4:Hid (TapC w4 w.heap.size tb ns2∧Tap 49 50 w4 w.heap.size tc ns2∧NodesG ns2∧ns2.length≤512):=⟨HT3.out.ref hO4,hT4,hg2,hl2⟩
    clear hT4 hB4 hO4 bx0 bx1 bx2 bx3 bx4 bx5 e2 er ee_ hg2 hl2 hX3
    have hne1:(rr != rr)=false:=by simp
    have hne2:(ee != ee)=false:=by simp
    go_wp2_with fail
    obtain ⟨tt,ett⟩:∃ z,totN ns2 ns2.length=z:=⟨_,rfl⟩
    have cc:=total_any_ w.heap.size tc ns2 HT4.out.2.2.1 HT4.out.2.2.2 w4 HT4.out.2.1
    rw [ett] at cc
    refine cc.mono ?_
    rintro e w5 ⟨rfl,ew5⟩
    subst ew5
    clear cc ett
    by_cases ht:4000 < tt
    ·have g1:decide ((4000:Int) < (tt:Int))=true:=decide_eq_true (by omega)
     have g2:decide (4000 < tt)=true:=decide_eq_true ht
     clear ht
     go_wp2
     exact bodyPost_ret (v:=.tuple #[.pointer (some ⟨tb,0,none⟩),.pointer (some ⟨tc,0,none⟩),.bool true]) (by simp [results,Tryz.results16,go_sem]) rfl ⟨tb,tc,_,rfl,HT4.out.1,HT4.out.2.1,HT4.out.2.2.1,HT4.out.2.2.2,HB4.out⟩
    ·have g1:decide ((4000:Int) < (tt:Int))=false:=decide_eq_false (by omega)
     have g2:decide (4000 < tt)=false:=decide_eq_false ht
     clear ht
     go_wp2
     go_roundg (n - (k+1))
     case measure=>omega
     case rel=>exact ⟨k+1,ns2,by omega,rfl,by first|rfl|simp,HT4.out,HB4.out⟩
   ·have hop1:(op==1)=false:=by simpa using hop
    clear hop
    go_wp2_with fail
    generalize hW2:World.alloc _ _=W2
    have HX2:Hid (W2.heap[R1.heap.size]?=some (.cells #[.int .i64 op,.int .i64 a,.int .i64 b,.int .i64 kk,.slice pd nd cd,.slice pv nv cv] 70 (0,0))):=by
     show _=_
     rw [← hW2]
     exact heap_alloc_new _ _
    have hL2:Below R1.heap.size R1 W2:=by rw [← hW2];exact up_alloc R1 _
    have HB2:Hid (Below w.heap.size w W2):=bstep HB.out hL2
    have HI2:Hid (TapC W2 w.heap.size tb ns∧Tap 49 50 W2 w.heap.size tc ns):=⟨HI.out.1.up hL2,HI.out.2.1.up hL2⟩
    obtain ⟨⟨bx0,bx1,bx2,bx3,bx4,bx5⟩,_⟩:=box6 HX2.out
    clear hW2 hL2 y0 y1 y2 y3 y4 y5 hzz
    obtain ⟨ns2,e2⟩:∃ z,doN ns op a b kk=z:=⟨_,rfl⟩
    obtain ⟨rr,er⟩:∃ z,doR ns op a b kk=z:=⟨_,rfl⟩
    obtain ⟨ee,ee_⟩:∃ z,doE ns op a b kk=z:=⟨_,rfl⟩
    have hg2:NodesG ns2:=by rw [← e2];exact HI.out.2.2.1.do
    have hl2:ns2.length≤512:=by rw [← e2];exact do_len ns op a b kk HI.out.2.2.2
    have cc:=cdo_any w.heap.size tb ns HI.out.2.2.1 op a b kk HK.out W2 (HI2.out.1) (Hid.up_tz hT HB2.out)
    rw [er,ee_,e2] at cc
    refine cc.mono ?_
    rintro e w3 ⟨rfl,hT3,hB3,hO3⟩
    clear cc
    have HB3:Hid (Below w.heap.size w w3):=HB2.out.trans hB3
    have HT3:Hid (TapC w3 w.heap.size tb ns2):=hT3
    have HR3:Hid (Tap 49 50 w3 w.heap.size tc ns):=HI2.out.2.only hO3 (by decide) (by decide) (by decide) (by decide)
    have hX3:=hO3.keep HX2.out (by decide)
    clear hT3 hB3 hO3 bx0 bx1 bx2 bx3 bx4 bx5
    obtain ⟨⟨bx0,bx1,bx2,bx3,bx4,bx5⟩,_⟩:=box6 hX3
    go_wp2_with fail
    have cc:=rdo_any w.heap.size tc ns HI.out.2.2.1 op a b kk w3 HR3.out HK.out.2.2.2
    rw [er,ee_,e2] at cc
    refine cc.mono ?_
    rintro e w4 ⟨rfl,hT4,hB4,hO4⟩
    clear cc
    have HB4:Hid (Below w.heap.size w w4):=HB3.out.trans hB4
    have HT4:Hid (TapC w4 w.heap.size tb ns2∧Tap 49 50 w4 w.heap.size tc ns2∧NodesG ns2∧ns2.length≤512):=⟨HT3.out.ref hO4,hT4,hg2,hl2⟩
    clear hT4 hB4 hO4 bx0 bx1 bx2 bx3 bx4 bx5 e2 er ee_ hg2 hl2 hX3
    have hne1:(rr != rr)=false:=by simp
    have hne2:(ee != ee)=false:=by simp
    go_wp2_with fail
    obtain ⟨tt,ett⟩:∃ z,totN ns2 ns2.length=z:=⟨_,rfl⟩
    have cc:=total_any_ w.heap.size tc ns2 HT4.out.2.2.1 HT4.out.2.2.2 w4 HT4.out.2.1
    rw [ett] at cc
    refine cc.mono ?_
    rintro e w5 ⟨rfl,ew5⟩
    subst ew5
    clear cc ett
    by_cases ht:4000 < tt
    ·have g1:decide ((4000:Int) < (tt:Int))=true:=decide_eq_true (by omega)
     have g2:decide (4000 < tt)=true:=decide_eq_true ht
     clear ht
     go_wp2
     exact bodyPost_ret (v:=.tuple #[.pointer (some ⟨tb,0,none⟩),.pointer (some ⟨tc,0,none⟩),.bool true]) (by simp [results,Tryz.results16,go_sem]) rfl ⟨tb,tc,_,rfl,HT4.out.1,HT4.out.2.1,HT4.out.2.2.1,HT4.out.2.2.2,HB4.out⟩
    ·have g1:decide ((4000:Int) < (tt:Int))=false:=decide_eq_false (by omega)
     have g2:decide (4000 < tt)=false:=decide_eq_false ht
     clear ht
     go_wp2
     go_roundg (n - (k+1))
     case measure=>omega
     case rel=>exact ⟨k+1,ns2,by omega,rfl,by first|rfl|simp,HT4.out,HB4.out⟩
  ·obtain rfl:n=k:=by omega
   go_wp2
   exact bodyPost_ret (v:=.tuple #[.pointer (some ⟨tb,0,none⟩),.pointer (some ⟨tc,0,none⟩),.bool true]) (by simp [results,Tryz.results16,go_sem]) rfl ⟨tb,tc,_,rfl,HI.out.1,HI.out.2.1,HI.out.2.2.1,HI.out.2.2.2,HB.out⟩
theorem row10_any (p:Option Addr) (n c:Nat) (x:List Int) (w:World) (h:Nums .i64 w (.slice p n c) x) (hn:n≤4096):
  Calls Tryz.prog 12 #[.slice p n c] w fun e w'=>∃ g,e = .returned (.agg #[.slice (some ⟨g,0,none⟩) 1 1,.slice p n c])∧Nums .i64 w' (.slice (some ⟨g,0,none⟩) 1 1) [(n:Int)]∧Nums .i64 w' (.slice p n c) x∧w.heap.size≤g∧OwnK .i64 3 w' w.heap.size (.slice (some ⟨g,0,none⟩) 1 1) [(n:Int)]∧Below w.heap.size w w':=by
 have H:Hid (Nums .i64 w (.slice p n c) x):=h
 have hn':(n:Int)≤4096:=by omega
 clear h
 go_enter Tryz.func12,Tryz.ntmps12
 go_wp2
 have hB:Below w.heap.size w ((w.alloc (.cells #[.slice (some ⟨w.heap.size+1,0,none⟩) 1 1,.slice p n c] 31)).alloc (.cells #[.int .i64 (n:Int)] 3)):=by go_grown
 have hO:OwnK .i64 3 ((w.alloc (.cells #[.slice (some ⟨w.heap.size+1,0,none⟩) 1 1,.slice p n c] 31)).alloc (.cells #[.int .i64 (n:Int)] 3)) w.heap.size (.slice (some ⟨w.heap.size+1,0,none⟩) 1 1) [(n:Int)]:=by
  have h0:=own_lit (k:=.i64) (e:=3) (w.alloc (.cells #[.slice (some ⟨w.heap.size+1,0,none⟩) 1 1,.slice p n c] 31)) [(n:Int)] 1 rfl (by decide)
  rw [size_alloc] at h0
  exact h0.low (Nat.le_succ _)
 refine bodyPost_ret (v:=.agg #[.slice (some ⟨w.heap.size+1,0,none⟩) 1 1,.slice p n c]) (by simp [results,Tryz.results12,go_sem]) rfl ⟨_,rfl,?_,?_,Nat.le_succ _,hO,hB⟩
 ·exact hO.nums
 ·exact H.out.up hB
theorem aw1:leafR [] [1] [8589934592]=0∧leafE [] [1] [8589934592]=0∧leafN [] [1] [8589934592] = [⟨1,-1,-1,0,[1],[8589934592]⟩]:=⟨by decide +kernel,by decide +kernel,if_pos ⟨by decide +kernel,by decide +kernel⟩⟩
theorem aw2:leafR ([⟨1,-1,-1,0,[1],[8589934592]⟩]:List Nd) [1] [12884901888]=1∧leafE ([⟨1,-1,-1,0,[1],[8589934592]⟩]:List Nd) [1] [12884901888]=0∧leafN ([⟨1,-1,-1,0,[1],[8589934592]⟩]:List Nd) [1] [12884901888]=([⟨1,-1,-1,0,[1],[8589934592]⟩,⟨1,-1,-1,0,[1],[12884901888]⟩]:List Nd):=⟨by decide +kernel,by decide +kernel,if_pos ⟨by decide +kernel,by decide +kernel⟩⟩
theorem aw3:doR ([⟨1,-1,-1,0,[1],[8589934592]⟩,⟨1,-1,-1,0,[1],[12884901888]⟩]:List Nd) 4 0 1 0=2∧doE ([⟨1,-1,-1,0,[1],[8589934592]⟩,⟨1,-1,-1,0,[1],[12884901888]⟩]:List Nd) 4 0 1 0=0∧doN ([⟨1,-1,-1,0,[1],[8589934592]⟩,⟨1,-1,-1,0,[1],[12884901888]⟩]:List Nd) 4 0 1 0 = [⟨1,-1,-1,0,[1],[8589934592]⟩,⟨1,-1,-1,0,[1],[12884901888]⟩,⟨4,0,1,0,[1],[25769803776]⟩]:=by
 have h0:doP ([⟨1,-1,-1,0,[1],[8589934592]⟩,⟨1,-1,-1,0,[1],[12884901888]⟩]:List Nd) 4 0 1 0:=by decide +kernel
 refine ⟨if_pos h0,by decide +kernel,(if_pos h0).trans ?_⟩
 have h1:rkD 4 [1] [8589934592] [1] [12884901888] 0 = [1]:=by decide +kernel
 have h2:rkV 4 [1] [8589934592] [1] [12884901888] 0 = [25769803776]:=by decide +kernel
 show ([⟨1,-1,-1,0,[1],[8589934592]⟩,⟨1,-1,-1,0,[1],[12884901888]⟩]:List Nd)++[⟨4,0,1,0,rkD 4 [1] [8589934592] [1] [12884901888] 0,rkV 4 [1] [8589934592] [1] [12884901888] 0⟩]=_
 rw [h1,h2]
 rfl
theorem ng1:NodesG [⟨1,-1,-1,0,[1],[8589934592]⟩]:=by
 have:=NodesG.leaf (d:=[1]) (x:=[8589934592]) NodesG.nil (RI_kern (by decide +kernel))
 rwa [aw1.2.2] at this
theorem ng2:NodesG [⟨1,-1,-1,0,[1],[8589934592]⟩,⟨1,-1,-1,0,[1],[12884901888]⟩]:=by
 have:=NodesG.leaf (d:=[1]) (x:=[12884901888]) ng1 (RI_kern (by decide +kernel))
 rwa [aw2.2.2] at this
theorem ng3:NodesG [⟨1,-1,-1,0,[1],[8589934592]⟩,⟨1,-1,-1,0,[1],[12884901888]⟩,⟨4,0,1,0,[1],[25769803776]⟩]:=by
 have:=NodesG.do (op:=4) (a:=0) (b:=1) (k:=0) ng2
 rwa [aw3.2.2] at this
theorem awake10_any (w:World) (hT:Hid (Tz w)):
  Calls Tryz.prog 8 #[] w fun e w'=>e = .returned (.bool true)∧Below w.heap.size w w':=by
 haveI:Nonempty World:=⟨w⟩
 go_enter Tryz.func8,Tryz.ntmps8
 go_wp2_with fail
 refine (cnew_any w).mono ?_
 rintro e w1 ⟨tb,rfl,hT1,hB1⟩
 have HT1:Hid (TapC w1 w.heap.size tb []∧Below w.heap.size w w1):=⟨hT1,hB1⟩
 clear hT1 hB1
 go_wp2_with fail
 generalize hK2:World.alloc _ _=K2
 have hL2:Below w1.heap.size w1 K2:=by rw [← hK2];exact up_alloc w1 _
 have l2:Nums .i64 K2 (.slice (some ⟨w1.heap.size,0,none⟩) 1 1) [8589934592]:=by rw [← hK2];exact nums_lit (k:=.i64) w1 [8589934592] 1 (0,0) rfl
 clear hK2
 refine (row10_any _ 1 1 [8589934592] K2 l2 (by decide)).mono ?_
 rintro e r2 ⟨g2,rfl,ha2,hb2,_,_,hB2⟩
 go_wp2_with fail
 have cc:=cleaf_any w.heap.size tb [] NodesG.nil _ _ 1 1 1 1 [1] [8589934592] (RI_kern (by decide +kernel)) (RI_kern (by decide +kernel)) r2 (HT1.out.1.up (bstep hL2 hB2)) ha2 hb2
 rw [aw1.1,aw1.2.1,aw1.2.2] at cc
 refine cc.mono ?_
 rintro e w2 ⟨rfl,hT2,hC2,_⟩
 have HT2:Hid (TapC w2 w.heap.size tb [⟨1,-1,-1,0,[1],[8589934592]⟩]∧Below w.heap.size w w2):=⟨hT2,(bstep HT1.out.2 (bstep hL2 hB2)).trans hC2⟩
 clear cc hT2 hC2 hB2 hL2 l2 ha2 hb2 HT1
 go_wp2_with fail
 generalize hK3:World.alloc _ _=K3
 have hL3:Below w2.heap.size w2 K3:=by rw [← hK3];exact up_alloc w2 _
 have l3:Nums .i64 K3 (.slice (some ⟨w2.heap.size,0,none⟩) 1 1) [12884901888]:=by rw [← hK3];exact nums_lit (k:=.i64) w2 [12884901888] 1 (0,0) rfl
 clear hK3
 refine (row10_any _ 1 1 [12884901888] K3 l3 (by decide)).mono ?_
 rintro e r3 ⟨g3,rfl,ha3,hb3,_,_,hB3⟩
 go_wp2_with fail
 have cc:=cleaf_any w.heap.size tb [⟨1,-1,-1,0,[1],[8589934592]⟩] ng1 _ _ 1 1 1 1 [1] [12884901888] (RI_kern (by decide +kernel)) (RI_kern (by decide +kernel)) r3 (HT2.out.1.up (bstep hL3 hB3)) ha3 hb3
 rw [aw2.1,aw2.2.1,aw2.2.2] at cc
 refine cc.mono ?_
 rintro e w3 ⟨rfl,hT3,hC3,_⟩
 have HT3:Hid (TapC w3 w.heap.size tb [⟨1,-1,-1,0,[1],[8589934592]⟩,⟨1,-1,-1,0,[1],[12884901888]⟩]∧Below w.heap.size w w3):=⟨hT3,(bstep HT2.out.2 (bstep hL3 hB3)).trans hC3⟩
 clear cc hT3 hC3 hB3 hL3 l3 ha3 hb3 HT2
 go_wp2_with fail
 have cc:=cdo_any w.heap.size tb [⟨1,-1,-1,0,[1],[8589934592]⟩,⟨1,-1,-1,0,[1],[12884901888]⟩] ng2 4 0 1 0 (by unfold InR;omega) w3 HT3.out.1 (Hid.up_tz hT HT3.out.2)
 rw [aw3.1,aw3.2.1,aw3.2.2] at cc
 refine cc.mono ?_
 rintro e w4 ⟨rfl,hT4,hC4,_⟩
 have HT4:Hid (TapC w4 w.heap.size tb [⟨1,-1,-1,0,[1],[8589934592]⟩,⟨1,-1,-1,0,[1],[12884901888]⟩,⟨4,0,1,0,[1],[25769803776]⟩]∧Below w.heap.size w w4):=⟨hT4,HT3.out.2.trans hC4⟩
 clear cc hT4 hC4 HT3
 go_wp2_with fail
 refine (cvalue_any w.heap.size tb [⟨1,-1,-1,0,[1],[8589934592]⟩,⟨1,-1,-1,0,[1],[12884901888]⟩,⟨4,0,1,0,[1],[25769803776]⟩] ng3 2 _ rfl w4 HT4.out.1).mono ?_
 rintro e w5 ⟨v5,rfl,⟨s5,t5,rfl,hs5,ht5⟩,hB5⟩
 obtain ⟨ps5,ns5,cs5,rfl⟩:=hs5.form_
 obtain ⟨pt5,nt5,ct5,rfl⟩:=ht5.form_
 go_wp2_with fail
 generalize hW5:World.alloc _ _=W5
 have hL5:Below w5.heap.size w5 W5:=by rw [← hW5];exact up_alloc w5 _
 have X5:Hid (Cel W5 w5.heap.size (.slice ps5 ns5 cs5) (.slice pt5 nt5 ct5)):=by show Cel _ _ _ _;unfold Cel;rw [← hW5];simp [go_sem]
 have HT5:Hid (TapC W5 w.heap.size tb [⟨1,-1,-1,0,[1],[8589934592]⟩,⟨1,-1,-1,0,[1],[12884901888]⟩,⟨4,0,1,0,[1],[25769803776]⟩]∧Below w.heap.size w W5):=⟨(HT4.out.1.up hB5).up hL5,bstep HT4.out.2 (bstep hB5 hL5)⟩
 have HV5:Hid (Tn [1] [25769803776] (.agg #[.slice ps5 ns5 cs5,.slice pt5 nt5 ct5]) W5):=⟨_,_,_,_,_,_,rfl,hs5.nums.up hL5,ht5.nums.up hL5⟩
 clear hs5 ht5 hB5 hW5 hL5 HT4
 have cl:Hid (∀ W,Below W5.heap.size W5 W→Calls Tryz.prog 17 #[.pointer (some ⟨tb,0,none⟩)] W fun e w'=>e = .returned (.int .i64 3)∧w'=W):=fun W hW=>clen_any w.heap.size tb [⟨1,-1,-1,0,[1],[8589934592]⟩,⟨1,-1,-1,0,[1],[12884901888]⟩,⟨4,0,1,0,[1],[25769803776]⟩] W (HT5.out.1.up hW)
 have ck:Hid (∀ W v,Below W5.heap.size W5 W→Tn [1] [25769803776] v W→Calls Tryz.prog 18 #[.agg #[.slice ps5 ns5 cs5,.slice pt5 nt5 ct5],v] W fun e w'=>e = .returned (.bool true)∧Below W.heap.size W w'):=fun W v hW hv=>by
  have ca:=alike_tn (HV5.out.up hW) hv (by unfold Few;simp) (by unfold Few;simp)
  rw [decide_eq_true ⟨rfl,rfl⟩] at ca
  exact ca
 obtain ⟨x50,x51,_,_⟩:=X5.out
 have x5z:=cell_lt x50
 refine rel [⟨27,67,LitN [25769803776]⟩,⟨28,68,Tn [1] [25769803776]⟩] 36 76 (by kernel_rfl) rfl rfl (by kernel_rfl) (by rfl) ?_ ?_
 ·intro e he v W W' h hb
  simp only [List.mem_cons,List.not_mem_nil,or_false] at he
  rcases he with rfl|rfl
  ·exact LitN.up h hb
  ·exact Tn.up h hb
 apply Exists.intro
 refine ⟨fun x=>?_,?_,?_⟩
 ·simp only [List.take_succ_cons,List.take_zero]
  iterate 27
   refine relQuiet rfl rfl ?_
   apply Exists.intro
   refine ⟨fun F hF hf K hK=>?_,?_⟩
   ·have hFc:=hF.cell
    have hFf:=hF.frozen
    go_big_quiet_op
    exact hK
   (try simp only [putL])
  refine relTold rfl rfl ?_ ?_
  ·intro F hF hf d
   have hFc:=hF.cell
   have hFf:=hF.frozen
   simp [yieldsR,yieldsUpon,go_sem]
   exact ⟨⟨(F d).heap.size,rfl,nums_lit (k:=.i64) (F d) [25769803776] 1 (0,0) rfl⟩,up_alloc _ _⟩
  (try simp only [putL])
  refine relTold rfl rfl ?_ ?_
  ·intro F hF hf d
   have hFc:=hF.cell
   have hFf:=hF.frozen
   have h9:=hf _ List.mem_cons_self (by rfl) d
   obtain ⟨g9,e9,n9⟩:=h9
   simp only [] at e9 n9
   rw [e9] at n9
   simp [yieldsR,yieldsUpon,go_sem,e9]
   refine (row10_any _ 1 1 [25769803776] (F d) n9 (by decide)).mono ?_
   rintro e' w8 ⟨g8,rfl,ha8,hb8,_,_,hB8⟩
   exact ⟨_,rfl,⟨_,_,_,_,_,_,rfl,ha8,hb8⟩,hB8⟩
  (try simp only [putL])
  refine relQuiet rfl rfl ?_
  apply Exists.intro
  refine ⟨fun F hF hf K hK=>?_,?_⟩
  ·have hFc:=hF.cell
   have hFf:=hF.frozen
   go_big_quiet_op
   first|exact hK|(apply Exists.intro;refine ⟨fun _=>?_,?_⟩;(· exact hF.call (ck.out _ _ (hF.below _) (hf _ (List.mem_cons_of_mem _ List.mem_cons_self) (by rfl) _)));exact hK)
  iterate 3
   (try simp only [putL])
   refine relQuiet rfl rfl ?_
   apply Exists.intro
   refine ⟨fun F hF hf K hK=>?_,?_⟩
   ·have hFc:=hF.cell
    have hFf:=hF.frozen
    go_big_quiet_op
    exact hK
  (try simp only [putL])
  refine relQuiet rfl rfl ?_
  apply Exists.intro
  refine ⟨fun F hF hf K hK=>?_,?_⟩
  ·have hFc:=hF.cell
   have hFf:=hF.frozen
   go_big_quiet_op
   first|exact hK|(apply Exists.intro;refine ⟨fun _=>?_,?_⟩;(· exact hF.same (cl.out _ (hF.below _)));exact hK)
  iterate 2
   (try simp only [putL])
   refine relQuiet rfl rfl ?_
   apply Exists.intro
   refine ⟨fun F hF hf K hK=>?_,?_⟩
   ·have hFc:=hF.cell
    have hFf:=hF.frozen
    go_big_quiet_op
    exact hK
  (try simp only [putL])
  refine relEnd ?_
  exact rfl
 ·intro x
  simp only [putsK,List.foldl_cons,List.foldl_nil,Act.put,List.setIfInBounds_toArray,List.set_cons_zero,List.set_cons_succ]
 ·intro w9 xs hB9 hf
  simp only [List.drop_succ_cons,List.drop_zero]
  have HB9:Hid (Below w.heap.size w w9):=bstep HT5.out.2 hB9
  clear hf hB9 x50 x51 x5z
  go_wp2
  go_ret
  exact ⟨rfl,HB9.out⟩
end Go.Proofs.YtlhpmjcdkpfjdaaGreatDoor.Wd
