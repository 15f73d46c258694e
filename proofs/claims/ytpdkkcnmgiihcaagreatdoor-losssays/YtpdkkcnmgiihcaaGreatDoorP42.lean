/- LossSays: each loss, its nodes, its gradient, are as the document says. -/
import Derived.Test.YtpdkkcnmgiihcaaGreatDoorP39
import Derived.Test.YtpdkkcnmgiihcaaGreatDoorP40
import Derived.Test.YtpdkkcnmgiihcaaGreatDoorP41
import Derived.Test.YtpdkkcnmgiihcaaGreatDoorP02
import Derived.BigQuiet
import Derived.Deep.CutBlock
set_option linter.unusedVariables false
set_option linter.unusedSimpArgs false
set_option maxHeartbeats 16000000
set_option maxRecDepth 16000
namespace Go.Proofs.YtpdkkcnmgiihcaaGreatDoor.Wd
open Go.RowKit Fx
theorem lsays_walk (w:World) (hT:Hid (Tz w)) (za:Nat→Int) (n c:Nat) (p:Option Addr) (zb:Nat→Int) (n2 c2:Nat) (p2:Option Addr) (cl kind:Int) (r1:RowN .i64 w p n c za) (r2:RowN .i64 w p2 n2 c2 zb) (hcl:-9223372036854775808≤cl∧cl≤9223372036854775807) (hkd:-9223372036854775808≤kind∧kind≤9223372036854775807):
  Calls Tryz.prog 4 #[.slice p n c,.slice p2 n2 c2,.int .i64 cl,.int .i64 kind] w fun e w'=>e = .returned (.bool true)∧Below w.heap.size w w':=by
 have HA:Hid (Nums .i64 w (.slice p n c) (nlst n za)∧Nums .i64 w (.slice p2 n2 c2) (nlst n2 zb)∧RI (nlst n za)∧RI (nlst n2 zb)∧(nlst n za).length=n∧(nlst n2 zb).length=n2):=⟨r1.nums,r2.nums,fun y hy=>bounds_i64 (r1.wf y hy),fun y hy=>bounds_i64 (r2.wf y hy),nlst_len _ _,nlst_len _ _⟩
 have hf1:(n:Int)≤9223372036854775807:=by have h1:=r1.1.1;have h2:=r1.1.2.1;omega
 have hf2:(n2:Int)≤9223372036854775807:=by have h1:=r2.1.1;have h2:=r2.1.2.1;omega
 obtain ⟨x,ex⟩:∃ x,nlst n za=x:=⟨_,rfl⟩
 obtain ⟨y,ey⟩:∃ y,nlst n2 zb=y:=⟨_,rfl⟩
 rw [ex,ey] at HA
 clear ex ey r1 r2
 haveI:Nonempty World:=⟨w⟩
 go_enter Tryz.func4,Tryz.ntmps4
 go_wp2_with fail
 refine (awake13_any w hT).mono ?_
 rintro e wa ⟨rfl,hBa⟩
 have HBa:Hid (Below w.heap.size w wa):=hBa
 clear hBa
 by_cases hn1:n < 1
 ·have:(n:Int) < 1:=by omega
  go_wp2
  go_ret
  exact ⟨rfl,HBa.out⟩
 have hn1':1≤(n:Int):=by omega
 by_cases hn2:60 < n
 ·have:(60:Int) < (n:Int):=by omega
  go_wp2
  go_ret
  exact ⟨rfl,HBa.out⟩
 have hn2':(n:Int)≤60:=by omega
 by_cases hn3:80 < n2
 ·have:(80:Int) < (n2:Int):=by omega
  go_wp2
  go_ret
  exact ⟨rfl,HBa.out⟩
 have hn3':(n2:Int)≤80:=by omega
 by_cases hk1:kind < 1
 ·go_wp2
  go_ret
  exact ⟨rfl,HBa.out⟩
 by_cases hk3:3 < kind
 ·go_wp2
  go_ret
  exact ⟨rfl,HBa.out⟩
 have HM:Hid (RwP n x∧RI x):=⟨⟨HA.out.2.2.2.2.1,by omega,by omega⟩,HA.out.2.2.1⟩
 obtain ⟨RR,E,NS,hS⟩:=says_out (c2:=c2) (p2:=p2) (cl:=cl) HM.out.1 HM.out.2 HA.out.2.2.2.2.2 HA.out.2.2.2.1 (kind:=kind) (by omega)
 have HS:Hid (Says n x n2 c2 p2 y kind cl RR E NS):=hS
 have hk4:n≤4096:=by omega
 have hkk:kind=1∨kind=2∨kind=3:=by omega
 have HKK:Hid (kind=1∨kind=2∨kind=3):=hkk
 have hq1:1≤kind:=by omega
 have hq3:kind≤3:=by omega
 clear hS hkk hk1 hk3
 go_wp2_with fail
 refine (cnew_any wa).mono ?_
 rintro e w1 ⟨tb,rfl,hT1,hB1⟩
 have H1:Hid (TapC w1 wa.heap.size tb []∧Below wa.heap.size wa w1):=⟨hT1,hB1⟩
 clear hT1 hB1
 go_wp2_with fail
 generalize hW2:World.alloc _ _=W2
 have hL2:Below w1.heap.size w1 W2:=by rw [← hW2];exact up_alloc w1 _
 obtain ⟨rb,erb⟩:∃ z,w1.heap.size=z:=⟨_,rfl⟩
 have H2:Hid (Duo w W2 wa.heap.size tb [] w1.heap.size rb []):=by
  refine ⟨H1.out.1.up hL2,?_,bstep HBa.out (bstep H1.out.2 hL2),HBa.out.size,Nat.le_trans HBa.out.size H1.out.2.size⟩
  rw [← hW2,← erb]
  exact Tap.new (Nat.le_refl _)
 (try rw [erb])
 clear hW2 hL2 erb H1
 refine (row13_any p n c x W2 (HA.out.1.up H2.out.b) hk4).mono ?_
 rintro e r3 ⟨g3,rfl,ha3,hb3,_,_,hB3⟩
 have Q3:=H2.out.up hB3
 go_wp2_with fail
 have cc:=cleaf_any wa.heap.size tb [] NodesG.nil _ _ 1 1 n c [(n:Int)] x (fun z hz=>by simp at hz;subst hz;omega) HM.out.2 r3 Q3.t ha3 hb3
 rw [(one_ok HM.out.1).1,(one_ok HM.out.1).2.1,(one_ok HM.out.1).2.2] at cc
 refine cc.mono ?_
 rintro e w3 ⟨rfl,hT',hC',hO'⟩
 have H3:Hid (Duo w w3 wa.heap.size tb (one1 n x) w1.heap.size rb []):=Q3.st hT' hC' hO'
 clear cc hT' hC' hO' Q3 ha3 hb3 hB3 H2
 go_wp2_with fail
 refine (row13_any p n c x w3 (HA.out.1.up H3.out.b) hk4).mono ?_
 rintro e r4 ⟨g4,rfl,ha4,hb4,_,_,hB4⟩
 have Q4:=H3.out.up hB4
 go_wp2_with fail
 have cc:=rleaf_any w1.heap.size rb [] _ _ 1 1 n c [(n:Int)] x (fun z hz=>by simp at hz;subst hz;omega) r4 Q4.r ha4 hb4
 rw [(one_ok HM.out.1).1,(one_ok HM.out.1).2.1,(one_ok HM.out.1).2.2] at cc
 refine cc.mono ?_
 rintro e w4 ⟨rfl,hT',hC',hO'⟩
 have H4:Hid (Duo w w4 wa.heap.size tb (one1 n x) w1.heap.size rb (one1 n x)):=Q4.sr hT' hC' hO'
 clear cc hT' hC' hO' Q4 ha4 hb4 hB4 H3
 go_upto_block 0 with fail
 have hd1:decide (kind < 1)=false:=decide_eq_false (by omega)
 have hd3:decide (3 < kind)=false:=decide_eq_false (by omega)
 try simp only [hd1,hd3,Bool.or_false]
 clear hd1 hd3
 go_cut [13,14] from 62 to 86 (fun v13 v14 wx=>v13 = .int .i64 (RR:Int)∧v14 = .int .i64 E∧Hid (Duo w wx wa.heap.size tb NS w1.heap.size rb (one1 n x)))
 case first=>
  rcases HKK.out with hk|hk|hk
  ·have cS:=HS.out.h1 hk wa.heap.size tb w4 H4.out.t (fun W hW=>hT.out.up (H4.out.b.trans (hW.mono H4.out.lt))) (KeptL.arg HA.out.2.1 H4.out.lt H4.out.b)
   have hk1:(kind==1)=true:=by simp [hk]
   subst hk
   go_wp2_with fail
   refine cS.mono ?_
   rintro e w5 ⟨rfl,hT',hC',hO'⟩
   have H5:Hid (Duo w w5 wa.heap.size tb NS w1.heap.size rb (one1 n x)):=H4.out.st hT' hC' hO'
   clear cS hT' hC' hO'
   go_wp2
   go_meet
   case rel=>exact ⟨rfl,rfl,H5⟩
  ·have cS:=HS.out.h2 hk wa.heap.size tb w4 H4.out.t (fun W hW=>hT.out.up (H4.out.b.trans (hW.mono H4.out.lt))) (KeptL.arg HA.out.2.1 H4.out.lt H4.out.b)
   subst hk
   go_wp2_with fail
   refine cS.mono ?_
   rintro e w5 ⟨rfl,hT',hC',hO'⟩
   have H5:Hid (Duo w w5 wa.heap.size tb NS w1.heap.size rb (one1 n x)):=H4.out.st hT' hC' hO'
   clear cS hT' hC' hO'
   go_wp2
   go_meet
   case rel=>exact ⟨rfl,rfl,H5⟩
  ·have cS:=HS.out.h3 hk wa.heap.size tb w4 H4.out.t (fun W hW=>hT.out.up (H4.out.b.trans (hW.mono H4.out.lt))) (KeptL.arg HA.out.2.1 H4.out.lt H4.out.b)
   subst hk
   go_wp2_with fail
   refine cS.mono ?_
   rintro e w5 ⟨rfl,hT',hC',hO'⟩
   have H5:Hid (Duo w w5 wa.heap.size tb NS w1.heap.size rb (one1 n x)):=H4.out.st hT' hC' hO'
   clear cS hT' hC' hO'
   go_wp2
   go_meet
   case rel=>exact ⟨rfl,rfl,H5⟩
 case rest=>
  obtain ⟨rfl,rfl,H5⟩:=hcut
  clear H4
  have cR:=HS.out.hr w1.heap.size rb wc H5.out.r (HA.out.2.1.up H5.out.b)
  have HE:Hid (E=0→Both NS RR):=HS.out.he
  clear HS
  go_wp2_with fail
  refine cR.mono ?_
  rintro e w6 ⟨rfl,hT',hC',hO'⟩
  have H6:Hid (Duo w w6 wa.heap.size tb NS w1.heap.size rb NS):=H5.out.sr hT' hC' hO'
  clear cR hT' hC' hO' H5
  by_cases hE:E=0
  case neg=>
   have hE1:(E != 0)=true:=by simpa using hE
   clear hE
   go_wp2
   go_ret
   exact ⟨rfl,H6.out.b⟩
  have hb:=HE.out hE
  subst hE
  have HBo:Hid (Both NS RR):=hb
  clear HE hb
  obtain ⟨pL,cL,xs0,hv,ho,hn0,hnc⟩:=H6.out.r.head
  obtain ⟨N,eN⟩:∃ N,NS.length=N:=⟨_,rfl⟩
  rw [eN] at hv ho hnc
  have hN1:N=RR+1:=by rw [← eN];exact HBo.out.l
  have hNf:=HBo.out.f
  obtain ⟨q,nd0,s0,t0,eq,_⟩:=node_cells ho hn0 eN 0 (by omega)
  subst eq
  have HCE:Hid (w6.cell? ⟨rb,0,none⟩=some (.slice (some ⟨q,0,none⟩) N cL)):=(head_cell hv).1
  have HND:Hid (∀ i,i < N→∃ nd sp sn sc tp tn tc,NS[i]?=some nd∧w6.cell? ⟨q,i*6,none⟩=some (.int .i64 nd.op)∧w6.cell? ⟨q,i*6+1,none⟩=some (.int .i64 nd.a)∧w6.cell? ⟨q,i*6+2,none⟩=some (.int .i64 nd.b)∧w6.cell? ⟨q,i*6+4,none⟩=some (.slice sp sn sc)∧w6.cell? ⟨q,i*6+5,none⟩=some (.slice tp tn tc)∧Nums .i64 w6 (.slice sp sn sc) nd.D∧Nums .i64 w6 (.slice tp tn tc) nd.X):=fun i hi=>by
   obtain ⟨q',nd',s',t',eq',hx',c0,c1,c2,c3,c4,c5,hs',ht'⟩:=node_cells ho hn0 eN i hi
   cases eq'
   obtain ⟨sp,sn,sc,rfl⟩:=hs'.form_
   obtain ⟨tp,tn,tc,rfl⟩:=ht'.form_
   exact ⟨nd',_,_,_,_,_,_,hx',c0,c1,c2,c4,c5,hs'.nums,ht'.nums⟩
  have hN5:(N:Int)≤512:=by omega
  have HNN:Hid (NS.length=N∧N=RR+1):=⟨eN,hN1⟩
  clear hv ho hn0 hnc eN hN1
  go_wp2_with fail
  go_loopg [17] N (fun gg i wr=>∃ (k:Nat),k≤N∧gg=N - k∧i = .int .i64 (k:Int)∧Hid (Below w6.heap.size w6 wr))
  case atStart=>exact ⟨0,by omega,by omega,by first|rfl|simp,Below.refl _ _⟩
  case round=>
   obtain ⟨k,hk,hg,rfl,HBk⟩:=hrel
   obtain ⟨R1,hR1⟩:∃ R1:World,R1=wr:=⟨_,rfl⟩
   subst hR1
   have t0:=cell_low HCE.out HBk.out
   have kt:=cell_lt t0
   by_cases hkn:k < N
   ·have hk':(k:Int) < (N:Int):=by omega
    obtain ⟨nd,sp,sn,sc,tp,tn,tc,hnd,d0,d1,d2,d4,d5,hD,hX⟩:=HND.out k hkn
    have ca:=cat_any wa.heap.size tb NS HBo.out.g k nd hnd R1 (H6.out.t.up HBk.out)
    have gnd:TnsG nd.D nd.X:=HBo.out.g nd (nd_mem hnd)
    have HFw:Hid (Few nd.D∧Few nd.X∧Nums .i64 w6 (.slice sp sn sc) nd.D∧Nums .i64 w6 (.slice tp tn tc) nd.X):=by
     have a:=gnd.1.1.1
     have b:=gnd.1.2
     have c:=gnd.1.1.2.2
     rw [ntl_len] at a
     exact ⟨by unfold Few;omega,by unfold Few;omega,hD,hX⟩
    have HC:Hid (w6.cell? ⟨q,k*6,none⟩=some (.int .i64 nd.op)∧w6.cell? ⟨q,k*6+1,none⟩=some (.int .i64 nd.a)∧w6.cell? ⟨q,k*6+2,none⟩=some (.int .i64 nd.b)∧w6.cell? ⟨q,k*6+4,none⟩=some (.slice sp sn sc)∧w6.cell? ⟨q,k*6+5,none⟩=some (.slice tp tn tc)):=⟨d0,d1,d2,d4,d5⟩
    obtain ⟨op,a,b,kk,D,X⟩:=nd
    simp only [] at ca HFw HC
    clear d0 d1 d2 d4 d5 hD hX gnd hnd
    go_wp2_with fail
    refine ca.mono ?_
    rintro e w7 ⟨s7,t7,rfl,hs7,ht7,hB7⟩
    obtain ⟨ps,ns_,cs,rfl⟩:=hs7.form_
    obtain ⟨pt,nt,ct,rfl⟩:=ht7.form_
    have HO7:Hid (Nums .i64 w7 (.slice ps ns_ cs) D∧Nums .i64 w7 (.slice pt nt ct) X∧Below w6.heap.size w6 w7):=⟨hs7.nums,ht7.nums,bstep HBk.out hB7⟩
    clear hs7 ht7 hB7 ca t0 kt
    go_wp2_with fail
    generalize hW8:World.alloc _ _=W8
    have hL8:Below w7.heap.size w7 W8:=by rw [← hW8];exact up_alloc _ _
    obtain ⟨nb,enb⟩:∃ z,w7.heap.size=z:=⟨_,rfl⟩
    have hx8:W8.heap[nb]?=some (.cells #[.int .i64 op,.int .i64 a,.int .i64 b,.int .i64 kk,.slice ps ns_ cs,.slice pt nt ct] 44 (0,0)):=by
     rw [← hW8,← enb]
     exact heap_alloc_new _ _
    have HB8:Hid (Below w6.heap.size w6 W8):=bstep HO7.out.2.2 hL8
    have HV:Hid (Tn D X (.agg #[.slice ps ns_ cs,.slice pt nt ct]) W8∧Tn D X (.agg #[.slice sp sn sc,.slice tp tn tc]) W8):=⟨⟨_,_,_,_,_,_,rfl,HO7.out.1.up hL8,HO7.out.2.1.up hL8⟩,⟨_,_,_,_,_,_,rfl,HFw.out.2.2.1.up HB8.out,HFw.out.2.2.2.up HB8.out⟩⟩
    (try rw [enb])
    obtain ⟨⟨k0,k1,k2,_,k4,k5⟩,_⟩:=box6 hx8
    have t0:=cell_low HCE.out HB8.out
    have d0:=cell_low HC.out.1 HB8.out
    have d1:=cell_low HC.out.2.1 HB8.out
    have d2:=cell_low HC.out.2.2.1 HB8.out
    have d4:=cell_low HC.out.2.2.2.1 HB8.out
    have d5:=cell_low HC.out.2.2.2.2 HB8.out
    have kt:=cell_lt t0
    have kd:=cell_lt d0
    have kb:=cell_lt k0
    have ck:Hid (∀ W,Below W8.heap.size W8 W→Calls Tryz.prog 19 #[.agg #[.slice ps ns_ cs,.slice pt nt ct],.agg #[.slice sp sn sc,.slice tp tn tc]] W fun e w'=>e = .returned (.bool true)∧Below W.heap.size W w'):=fun W hW=>by
     have ca:=alike_tn (HV.out.1.up hW) (HV.out.2.up hW) HFw.out.1 HFw.out.2.1
     rw [decide_eq_true ⟨rfl,rfl⟩] at ca
     exact ca
    clear hW8 hL8 hx8 HO7 HC HFw HV enb
    refine rel [] 55 222 (by kernel_rfl) rfl rfl (by kernel_rfl) (by rfl) ?_ ?_
    ·intro e he;simp at he
    apply Exists.intro
    refine ⟨fun x=>?_,?_,?_⟩
    ·simp only [List.take_succ_cons,List.take_zero]
     iterate 52
      refine relQuiet rfl rfl ?_
      apply Exists.intro
      refine ⟨fun F hF hf K hK=>?_,?_⟩
      ·have hFc:=hF.cell
       have hFf:=hF.frozen
       go_big_quiet_op
       first|exact hK|(apply Exists.intro;refine ⟨fun _=>?_,?_⟩;(· fail);exact hK)
      (try simp only [Act.put,List.setIfInBounds_toArray,List.set_cons_zero,List.set_cons_succ])
     refine relQuiet rfl rfl ?_
     apply Exists.intro
     refine ⟨fun F hF hf K hK=>?_,?_⟩
     ·have hFc:=hF.cell
      have hFf:=hF.frozen
      go_big_quiet_op
      first|exact hK|(apply Exists.intro;refine ⟨fun _=>?_,?_⟩;(· exact hF.call (ck.out _ (hF.below _)));exact hK)
     iterate 2
      (try simp only [Act.put,List.setIfInBounds_toArray,List.set_cons_zero,List.set_cons_succ])
      refine relQuiet rfl rfl ?_
      apply Exists.intro
      refine ⟨fun F hF hf K hK=>?_,?_⟩
      ·have hFc:=hF.cell
       have hFf:=hF.frozen
       go_big_quiet_op
       first|exact hK|(apply Exists.intro;refine ⟨fun _=>?_,?_⟩;(· fail);exact hK)
     (try simp only [Act.put,List.setIfInBounds_toArray,List.set_cons_zero,List.set_cons_succ])
     refine relEnd ?_
     exact rfl
    ·intro x
     simp only [putsK,List.foldl_nil]
    ·intro w9 xs hB9 hf
     simp only [List.drop_succ_cons,List.drop_zero]
     have HB9:Hid (Below w6.heap.size w6 w9):=bstep HB8.out hB9
     clear hf hB9 t0 d0 d1 d2 d4 d5 kt kd kb k0 k1 k2 k4 k5 ck
     go_wp2
     go_roundg (N - (k+1))
     case measure=>omega
     case rel=>exact ⟨k+1,by omega,rfl,by first|rfl|simp,HB9⟩
   obtain rfl:k=N:=by omega
   have HD:Hid (Duo w R1 wa.heap.size tb NS w1.heap.size rb NS):=H6.out.up HBk.out
   have HSW:Hid (∃ t,(swL NS (RR:Int))[0]?=some t∧TenG t):=HBo.out.grad
   have hlen:=HBo.out.len
   have hNf:NS.length≤512:=by have:=HNN.out;omega
   have cc:=csweep_any wa.heap.size tb NS HBo.out.g HBo.out.v HBo.out.k hNf (RR:Int) R1 HD.out.t (Hid.up_tz hT HD.out.b)
   rw [HBo.out.swe] at cc
   have HNF:Hid (NS.length≤512):=hNf
   obtain ⟨L,eL⟩:∃ L,swL NS (RR:Int)=L:=⟨_,rfl⟩
   rw [eL] at cc HSW hlen
   have HLL:Hid (swL NS (RR:Int)=L∧L.length=k):=⟨eL,by have:=HNN.out;omega⟩
   clear eL hlen hNf
   go_wp2_with fail
   refine cc.mono ?_
   rintro e w7 ⟨v7,rfl,hO7,hB7⟩
   obtain ⟨p7,c7,rfl,hc7⟩:=hO7.form
   rw [HLL.out.2] at hO7 hc7 ⊢
   have HD7:Hid (Duo w w7 wa.heap.size tb NS w1.heap.size rb NS):=HD.out.up hB7
   have HO7:Hid (OwnTs w7 R1.heap.size (.slice p7 k c7) L∧Below R1.heap.size R1 w7):=⟨hO7,hB7⟩
   clear cc hO7 hB7 HD t0 kt
   have cc:=rsweep_any w1.heap.size rb NS HBo.out.g HBo.out.v HBo.out.r HNF.out (RR:Int) w7 HD7.out.r
   rw [HBo.out.swe,HLL.out.1] at cc
   go_wp2_with fail
   refine cc.mono ?_
   rintro e w8 ⟨v8,rfl,hO8,hB8⟩
   obtain ⟨p8,c8,rfl,hc8⟩:=hO8.form
   rw [HLL.out.2] at hO8 hc8 ⊢
   have HD8:Hid (Duo w w8 wa.heap.size tb NS w1.heap.size rb NS):=HD7.out.up hB8
   obtain ⟨T,hT0,gT0⟩:=HSW.out
   obtain ⟨q7,s0,u0,ep,x00,x01,hs0,hu0⟩:=(HO7.out.1.up hB8).at 0 T hT0
   obtain ⟨q8,s1,u1,ep',x10,x11,hs1,hu1⟩:=hO8.at 0 T hT0
   subst ep ep'
   obtain ⟨ps0,ns0,cs0,rfl⟩:=hs0.form_
   obtain ⟨pu0,nu0,cu0,rfl⟩:=hu0.form_
   obtain ⟨ps1,ns1,cs1,rfl⟩:=hs1.form_
   obtain ⟨pu1,nu1,cu1,rfl⟩:=hu1.form_
   have HV:Hid (Tn T.1 T.2 (.agg #[.slice ps0 ns0 cs0,.slice pu0 nu0 cu0]) w8∧Tn T.1 T.2 (.agg #[.slice ps1 ns1 cs1,.slice pu1 nu1 cu1]) w8∧Few T.1∧Few T.2):=by
    have a:=gT0.1.1.1
    have b:=gT0.1.2
    have c:=gT0.1.1.2.2
    rw [ntl_len] at a
    exact ⟨⟨_,_,_,_,_,_,rfl,hs0.nums,hu0.nums⟩,⟨_,_,_,_,_,_,rfl,hs1.nums,hu1.nums⟩,by unfold Few;omega,by unfold Few;omega⟩
   have ck:Hid (∀ W,Below w8.heap.size w8 W→Calls Tryz.prog 19 #[.agg #[.slice ps0 ns0 cs0,.slice pu0 nu0 cu0],.agg #[.slice ps1 ns1 cs1,.slice pu1 nu1 cu1]] W fun e w'=>e = .returned (.bool true)∧Below W.heap.size W w'):=fun W hW=>by
    have ca:=alike_tn (HV.out.1.up hW) (HV.out.2.1.up hW) HV.out.2.2.1 HV.out.2.2.2
    rw [decide_eq_true ⟨rfl,rfl⟩] at ca
    exact ca
   have cl_:Hid (∀ W,Below w8.heap.size w8 W→Calls Tryz.prog 22 #[.pointer (some ⟨tb,0,none⟩)] W fun e w'=>e = .returned (.int .i64 (k:Int))∧Below W.heap.size W w'):=fun W hW=>by
    refine (clen_any wa.heap.size tb NS W (HD8.out.t.up hW)).mono ?_
    rintro e w' ⟨rfl,rfl⟩
    exact ⟨by rw [HNN.out.1],Below.refl _ _⟩
   have t0:=cell_low HCE.out (bstep (bstep HBk.out HO7.out.2) hB8)
   have kt:=cell_lt t0
   have kx:=cell_lt x00
   have ky:=cell_lt x10
   have hk1:1≤(k:Int):=by have:=HNN.out.2;omega
   clear cc hO8 hB8 HD7 HO7 hs0 hu0 hs1 hu1 HV hT0 gT0 HSW HLL HNF HND HCE H6 HBk
   go_wp2_with fail
   refine rel [] 34 222 (by kernel_rfl) rfl rfl (by kernel_rfl) (by rfl) ?_ ?_
   ·intro e he;simp at he
   apply Exists.intro
   refine ⟨fun x=>?_,?_,?_⟩
   ·simp only [List.take_succ_cons,List.take_zero]
    iterate 15
     refine relQuiet rfl rfl ?_
     apply Exists.intro
     refine ⟨fun F hF hf K hK=>?_,?_⟩
     ·have hFc:=hF.cell
      have hFf:=hF.frozen
      go_big_quiet_op
      first|exact hK|(apply Exists.intro;refine ⟨fun _=>?_,?_⟩;(· fail);exact hK)
     (try simp only [Act.put,List.setIfInBounds_toArray,List.set_cons_zero,List.set_cons_succ])
    refine relQuiet rfl rfl ?_
    apply Exists.intro
    refine ⟨fun F hF hf K hK=>?_,?_⟩
    ·have hFc:=hF.cell
     have hFf:=hF.frozen
     go_big_quiet_op
     first|exact hK|(apply Exists.intro;refine ⟨fun _=>?_,?_⟩;(· exact hF.call (cl_.out _ (hF.below _)));exact hK)
    iterate 16
     (try simp only [Act.put,List.setIfInBounds_toArray,List.set_cons_zero,List.set_cons_succ])
     refine relQuiet rfl rfl ?_
     apply Exists.intro
     refine ⟨fun F hF hf K hK=>?_,?_⟩
     ·have hFc:=hF.cell
      have hFf:=hF.frozen
      go_big_quiet_op
      first|exact hK|(apply Exists.intro;refine ⟨fun _=>?_,?_⟩;(· fail);exact hK)
    (try simp only [Act.put,List.setIfInBounds_toArray,List.set_cons_zero,List.set_cons_succ])
    refine relQuiet rfl rfl ?_
    apply Exists.intro
    refine ⟨fun F hF hf K hK=>?_,?_⟩
    ·have hFc:=hF.cell
     have hFf:=hF.frozen
     go_big_quiet_op
     first|exact hK|(apply Exists.intro;refine ⟨fun _=>?_,?_⟩;(· exact hF.call (ck.out _ (hF.below _)));exact hK)
    (try simp only [Act.put,List.setIfInBounds_toArray,List.set_cons_zero,List.set_cons_succ])
    refine relQuiet rfl rfl ?_
    apply Exists.intro
    refine ⟨fun F hF hf K hK=>?_,?_⟩
    ·have hFc:=hF.cell
     have hFf:=hF.frozen
     go_big_quiet_op
     first|exact hK|(apply Exists.intro;refine ⟨fun _=>?_,?_⟩;(· fail);exact hK)
    (try simp only [Act.put,List.setIfInBounds_toArray,List.set_cons_zero,List.set_cons_succ])
    refine relEnd ?_
    exact rfl
   ·intro x
    simp only [putsK,List.foldl_nil]
   ·intro w9 xs hB9 hf
    simp only [List.drop_succ_cons,List.drop_zero]
    have HB9:Hid (Below w.heap.size w w9):=bstep HD8.out.b hB9
    clear hf hB9 t0 kt kx ky x00 x01 x10 x11 ck cl_
    go_wp2
    go_ret
    exact ⟨rfl,HB9.out⟩
end Go.Proofs.YtpdkkcnmgiihcaaGreatDoor.Wd
