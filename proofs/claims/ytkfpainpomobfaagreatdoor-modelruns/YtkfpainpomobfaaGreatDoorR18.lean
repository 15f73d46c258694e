/- The reference's Run. -/
import Derived.Test.YtkfpainpomobfaaGreatDoorR17
set_option linter.unusedVariables false
set_option linter.unusedSimpArgs false
set_option maxHeartbeats 16000000
set_option maxRecDepth 16000
namespace Go.Proofs.YtkfpainpomobfaaGreatDoor.Wd
open Go.RowKit Fx List World Nat
theorem p_E (cS:r_F) (cP:r_G) (cL:RLfC) (cD:RDoC) (B tb:Nat) (d:List Int) (ls:List Ly) (P X:List Int) (hP:RI P) (hX:RI X) (p p2 pp px:Option Addr) (n c V c2 np cp nx cx:Nat) (bQ:V<=1073741823) (bB:P.length<=1073741824) (w:World) (bF:B<=w.heap.size) (hT:d_o w B tb []) (bD:∀ W,Rr B w W->Nums .i64 W (.slice p n c) d) (bO:∀ W,Rr B w W->LyR 0 W p2 V ls) (hp:∀ W,Rr B w W->Nums .i64 W (.slice pp np cp) P) (bw:np<=cp) (hx:∀ W,Rr B w W->Nums .i64 W (.slice px nx cx) X):
  Calls Tryz.prog 11 #[.pointer (some ⟨tb,0,none⟩),.agg #[.slice p n c,.slice p2 V c2],.slice pp np cp,.slice px nx cx] w fun e w'=>∃ v,e = .returned (.tuple #[.int .i64 (rnF d ls [] P X).2.2.1,v,.int .i64 (rnF d ls [] P X).1])/\OwnK .i64 3 w' w.heap.size v (rnF d ls [] P X).2.2.2/\d_o w' B tb (rnF d ls [] P X).2.1/\Rr B w w':=by
 haveI:Nonempty World:=⟨w⟩
 have bZ:P.length=np:=by
  obtain ⟨_,_,_,e,h⟩:=(hp w ⟨Below.refl _ _,Only.refl _ _⟩).lst;cases e;exact h.1
 have bt:X.length=nx:=by
  obtain ⟨_,_,_,e,h⟩:=(hx w ⟨Below.refl _ _,Only.refl _ _⟩).lst;cases e;exact h.1
 obtain ⟨RR,bq⟩:∃ R,rnF d ls [] P X=R:=⟨_,rfl⟩
 obtain ⟨E,eE⟩:∃ E,nE d ls=E:=⟨_,rfl⟩
 obtain ⟨M,eM⟩:∃ M,nP d ls=M:=⟨_,rfl⟩
 have HR:Hid (rnF d ls [] P X=RR/\nE d ls=E/\nP d ls=M/\P.length=np/\X.length=nx):=⟨bq,eE,eM,bZ,bt⟩
 have HK:Hid (B<=w.heap.size/\RI P/\RI X/\P.length<=1073741824/\np<=cp/\V<=1073741823):=⟨bF,hP,hX,bB,bw,bQ⟩
 have HW:Hid ((∀ W,Rr B w W->Nums .i64 W (.slice p n c) d)/\(∀ W,Rr B w W->LyR 0 W p2 V ls)/\(∀ W,Rr B w W->Nums .i64 W (.slice pp np cp) P)/\(∀ W,Rr B w W->Nums .i64 W (.slice px nx cx) X)):=⟨bD,bO,hp,hx⟩
 have HC:Hid (r_F/\r_G/\RLfC/\RDoC):=⟨cS,cP,cL,cD⟩
 have HT:Hid (d_o w B tb []):=hT;have cG:np<=1073741824:=by omega
 rw [bq];clear bq eE eM bZ bt bD bO hp bw hx bB hP hX hT bF cS cP cL cD;go_enter Tryz.func11,Tryz.ntmps11;go_wp2_with fail
 generalize bg:alloc _ _=W0
 have aB:Hid (Bw w W0/\Rr B w W0):=by
  have h:Bw w W0:=by rw [<- bg];exact a_a w _
  exact ⟨h,Rr.of HK.1 h⟩
 have a5:Hid (W0.heap[w.heap.size]?=some (.cells #[.slice p n c,.slice p2 V c2] 34 (0,0))):=by
  show _=_;rw [<- bg];exact heap_alloc_new w _
 clear bg;have cS:=HC.1 p p2 n c V c2 d ls HK.2.2.2.2.2 W0 (HW.1 W0 aB.2) (HW.2.1 W0 aB.2);rw [HR.2.1,HR.2.2.1] at cS;refine cS.mono ?_;rintro e w1 ⟨⟨vS,rfl⟩,hB⟩;have aj:Hid (Bw w w1/\Rr B w w1):=⟨a_c aB.1 hB,Rr.of HK.1 (a_c aB.1 hB)⟩
 have bS:Hid (w1.heap[w.heap.size]?=some (.cells #[.slice p n c,.slice p2 V c2] 34 (0,0))):=(hB.block _ (a_k a5.out)).trans a5.out;have a8:Hid (d_o w1 B tb []):=HT.out.up aj.1;obtain ⟨⟨g0,_⟩,⟨g1,_⟩⟩:=b_4 bS.out;have kg:=a_h g0;clear hB aB a5 cS;by_cases h0:E=0
 case neg=>
  have cQ:(E != 0)=true:=by simpa using h0
  have ap:Hid (∃ v,Ending.returned (.tuple #[.int .i64 0,.slice none 0 0,.int .i64 E]) = .returned (.tuple #[.int .i64 RR.2.2.1,v,.int .i64 RR.1])/\OwnK .i64 3 w1 w.heap.size v RR.2.2.2/\d_o w1 B tb RR.2.1/\Rr B w w1):=by
   have h5:RR=(E,[],0,[]):=by
    rw [<- HR.1];unfold rnF;rw [if_neg (by rw [HR.2.1];exact h0),HR.2.1]
   rw [h5];exact ⟨_,rfl,OwnK.nil _ _ _ _,a8.out,aj.2⟩
  go_wp2;exact bodyPost_ret (v:=.tuple #[.int .i64 0,.slice none 0 0,.int .i64 E]) (by simp [results,Tryz.results11,go_sem]) rfl ap.out
 subst h0
 have hM:M=b_Q ls (nS d ls) ls.length:=by
  rw [<- HR.2.2.1];unfold nP nS;rw [if_pos HR.2.1,if_pos HR.2.1]
 have HM:Hid (M=b_Q ls (nS d ls) ls.length):=hM;clear hM
 have ai:¬ ((np:Int)=M/\(nx:Int)=a_o d)->Hid (∃ v,Ending.returned (.tuple #[.int .i64 0,.slice none 0 0,.int .i64 1]) = .returned (.tuple #[.int .i64 RR.2.2.1,v,.int .i64 RR.1])/\OwnK .i64 3 w1 w.heap.size v RR.2.2.2/\d_o w1 B tb RR.2.1/\Rr B w w1):=fun hn=>by
  have h5:RR=(1,[],0,[]):=by
   rw [<- HR.1];unfold rnF;rw [if_pos HR.2.1,if_neg];rw [<- HM.out,HR.2.2.2.1,HR.2.2.2.2];exact hn
  rw [h5];exact ⟨_,rfl,OwnK.nil _ _ _ _,a8.out,aj.2⟩
 by_cases L:(np:Int)=M
 case neg=>
  have cJ:((np:Int) != M)=true:=by simpa using L
  have ap:=ai fun c=>L c.1;clear ai;go_wp2;exact bodyPost_ret (v:=.tuple #[.int .i64 0,.slice none 0 0,.int .i64 1]) (by simp [results,Tryz.results11,go_sem]) rfl ap.out
 obtain ⟨S,hf,hS,ht⟩:=c_H HR.2.1;have bL:InOk d:=((b_a d ls).1 hf).1;have HN:Hid (b_O d ls=true/\shN d ls ls.length=some S/\d_7 ls S=false/\nS d ls=S/\InOk d):=⟨hf,hS,ht,(h_O hf hS ht).2.1,bL⟩
 clear hf hS ht bL;have cP:=HC.2.1 (.slice p n c) d HN.2.2.2.2.smal w1 (HW.1 w1 aj.2);obtain ⟨pd,aZ⟩:∃ x,a_o d=x:=⟨_,rfl⟩
 rw [aZ] at cP ai;have cw:Hid (a_o d=pd):=aZ;clear aZ;subst L;go_wp2_with fail
 refine cP.mono ?_;rintro e w2 ⟨rfl,e⟩;subst e;clear cP;by_cases h2:(nx:Int)=pd
 case neg=>
  have cN:((nx:Int) != pd)=true:=by simpa using h2
  have ap:=ai fun c=>h2 c.2;clear ai;go_wp2;exact bodyPost_ret (v:=.tuple #[.int .i64 0,.slice none 0 0,.int .i64 1]) (by simp [results,Tryz.results11,go_sem]) rfl ap.out
 subst h2;clear ai;have bu:(P.length:Int)=b_Q ls S ls.length:=by rw [HR.2.2.2.1,HM.out,HN.2.2.2.1]
 have br:(X.length:Int)=a_o d:=by rw [HR.2.2.2.2,cw.out]
 have aS:Hid ((P.length:Int)=b_Q ls S ls.length/\(X.length:Int)=a_o d):=⟨bu,br⟩
 obtain ⟨m1,n1⟩:=g_n (ns:=[]) (fun nd h=>by simp at h) (by simp) false (i_B HN.2.2.2.2.good br) HK.2.2.1;have cL:=HC.2.2.1.nx n1 HN.2.2.2.2.ri w2 a8.out (HW.1 w2 aj.2) (HW.2.2.2 w2 aj.2)
 have e0:shA S 0=d:=by
  obtain ⟨S0,h0,k0⟩:=e_m HN.2.1 (zero_le _);cases h0;exact k0 0 (by omega)
 have az:NtF d ls S P X 0 m1:=by
  refine ⟨Py.go n1 rfl,n1.g,n1.l,by rw [n1.l];simp,?_,?_,fun h=>absurd h (by omega)⟩
  ·rw [n1.l];rfl
  ·rw [e0];exact n1.d
 have cc:Hid (NtF d ls S P X 0 m1):=az;clear az n1 bu br e0;go_wp2_with fail
 refine cL.mono ?_;rintro e w3 ⟨rfl,bR,a3,bm,cn⟩;have b3:Hid (Rr B w w3/\w.heap.size<=w3.heap.size):=⟨aj.2.trans ⟨a3,bm⟩,Nat.le_trans aj.1.size a3.size⟩
 have ci:Hid (d_o w3 B tb m1):=bR;have bG:Hid (w3.heap[w.heap.size]?=some (.cells #[.slice p n c,.slice p2 V c2] 34 (0,0))):=bm.keep bS.out (by decide);clear bR a3 bm cn cL g0 g1 kg;obtain ⟨⟨g0,_⟩,⟨g1,_⟩⟩:=b_4 bG.out;have kg:=a_h g0;go_wp2_with fail
 obtain ⟨F,eF⟩:∃ F,plF d ls S P X=F:=⟨_,rfl⟩
 have aw:Hid (plF d ls S P X=F):=eF
 have az:(F 0).2.2.1=0/\(F 0).2.2.2=0/\pnL 0 (F 0).1 = []:=by
  rw [<- eF];exact ⟨rfl,rfl,rfl⟩
 have bT:Hid (∀ I v wr,NtF d ls S P X V I->PrG 43 w B tb (pnL 0 (F V).1) v wr->d_o wr B tb I->Rr B w wr->∃ u,Ending.returned (.tuple #[.int .i64 (F V).2.2.2,v,.int .i64 0]) = .returned (.tuple #[.int .i64 RR.2.2.1,u,.int .i64 RR.1])/\OwnK .i64 3 wr w.heap.size u RR.2.2.2/\d_o wr B tb RR.2.1/\Rr B w wr):=by
  intro I v wr hN hP hT hR;have cm:ls.length=V:=(HW.2.1 w ⟨Below.refl _ _,Only.refl _ _⟩).1;obtain ⟨co,L,h2⟩:=q_j HR.2.1 HK.2.1 (by rw [HN.2.2.2.1];exact aS.1) HK.2.2.1 aS.2;rw [HN.2.2.2.1,cm] at L h2;obtain rfl:I=co:=hN.py.eq.symm.trans L.py.eq;rw [aw.out] at h2;have h3:RR=(0,I,(F V).2.2.2,pnL 0 (F V).1):=HR.1.symm.trans h2;rw [h3];exact ⟨v,rfl,hP.own,hT,hR⟩
 clear eF
 go_loopg [13,15,16,17,18,19] V (fun gg cr bl ct cj ce cE wr=>∃ (k:Nat) (I:List Nd),k<=V/\gg=V - k/\cr = .int .i64 0/\ct = .int .i64 (F k).2.2.1/\cj = .int .i64 (F k).2.2.2/\ce = .int .i64 (b_Q ls S k)/\cE = .int .i64 (k:Int)/\Hid (NtF d ls S P X k I)/\Hid (d_o wr B tb I/\Rr B w wr/\w.heap.size<=wr.heap.size)/\Hid (PrG 43 w B tb (pnL 0 (F k).1) bl wr)/\Hid (wr.heap[w.heap.size]?=some (.cells #[.slice p n c,.slice p2 V c2] 34 (0,0))))
 case atStart=>exact ⟨0,m1,by omega,by omega,rfl,by rw [az.1],by rw [az.2.1],rfl,rfl,cc,⟨ci.out,b3⟩,by rw [az.2.2];exact PrG.nil _ _ _ _ _,bG⟩
 case round=>
  obtain ⟨k,I,hk,hg,rfl,rfl,rfl,rfl,rfl,HI,HO,a7,HX⟩:=hrel;obtain ⟨⟨g0,_⟩,⟨g1,_⟩⟩:=b_4 HX.out;have kg:=a_h g0;by_cases cl:k < V
  ·have cT:(k:Int) < (V:Int):=by omega
   have cI:ls.length=V:=(HW.2.1 w ⟨Below.refl _ _,Only.refl _ _⟩).1;have ar:k < ls.length:=by omega
   obtain ⟨q,o,rfl,c0,c1,bX⟩:=(HW.2.1 wr HO.2.1).2 k cl;obtain ⟨ks,aQ,bE⟩:=k_z HN.1 HN.2.1 HN.2.2.1 HK.2.1 aS.1 HK.2.2.1 ar HI.out;have hl:=(NetOk.of HN.1 HN.2.1).lay k ar;have bi:=(NetOk.of HN.1 HN.2.1).inn k ar;have a2:=HI.out.ra;have cg:=HI.out.p1;have aH:=HI.out.dd;have af:=(f_D (X:=X) (NetOk.of HN.1 HN.2.1) aS.1 k (by omega))
   have bW:=HI.out.bf;rw [aw.out] at aQ a2 aH af bW;obtain ⟨li,aG⟩:∃ i:Nat,(F k).2.2.2=(i:Int):=⟨(F k).2.2.2.toNat,by omega⟩
   have bo:F (k+1)=((F k).1++b_X (lyA ls k) (shA S k) (F k).1.length (F k).2.1 (F k).2.2.1 (F k).2.2.2,g_X (lyA ls k) (shA S k) (F k).2.1,(F k).2.2.2,(c_F (lyA ls k) (shA S k) (F k).1.length:Int)):=by rw [<- aw.out];rfl
   obtain ⟨l,el⟩:∃ l,lyA ls k=l:=⟨_,rfl⟩
   obtain ⟨dd,ed⟩:∃ dd,shA S k=dd:=⟨_,rfl⟩
   obtain ⟨u,eu⟩:∃ u:Int,b_Q ls S k=u:=⟨_,rfl⟩
   obtain ⟨bf,aU⟩:∃ u:Int,(F k).2.2.1=u:=⟨_,rfl⟩
   obtain ⟨ps,aP⟩:∃ u,pnL 0 (F k).1=u:=⟨_,rfl⟩
   have bk:(F k).1.length=I.length:=by rw [HI.out.l,aw.out]
   have a1:=h_A (F k).1 (b_X (lyA ls k) (shA S k) (F k).1.length (F k).2.1 (F k).2.2.1 (F k).2.2.2) 0;rw [aP,el,ed,bk,aU,aG,Nat.zero_add] at a1;rw [el,ed,bk,aU,aG] at bo aQ;have aW:b_Q ls S (k+1)=u+psz l dd:=by rw [<- eu,<- el,<- ed];rfl
   rw [el] at c0 c1 bX hl;rw [ed] at bi aH;rw [aG] at a2 aH;rw [el,ed,eu] at af;rw [aP] at a7;rw [aG,eu,aU]
   have cy:0<=u:=by
    rw [<- eu];exact (e_z (i:=k) (fun j hj=>(NetOk.of HN.1 HN.2.1).inn j (by omega)) (fun j hj=>(NetOk.of HN.1 HN.2.1).lay j (by omega))).1
   have aI:=k_B (P:=P) (X:=X) (NetOk.of HN.1 HN.2.1) k (by omega);rw [aw.out,eu] at aI;obtain ⟨ui,rfl⟩:∃ i:Nat,u=(i:Int):=⟨u.toNat,by omega⟩
   have aF:Hid ((F k).2.1=P.drop ui):=by
    show _=_;rw [aI]
    congr 1
   have aX:Hid (ps.length<=100000):=by
    show _<=_
    have cM:ls.length<=16:=by
     have ht:=HN.2.2.1;unfold d_7 at ht;simp only [Bool.or_eq_false_iff,decide_eq_false_iff_not] at ht;omega
    have cb:=d_J d ls S P X k;rw [aw.out] at cb;have h2:=j_t (F k).1 0;rw [<- aP];omega
   have HJ:Hid (Py I (b_X l dd I.length (F k).2.1 bf (li:Int)) ks/\NtF d ls S P X (k+1) ks):=⟨aQ,bE⟩
   have HL:Hid (a_L l/\InOk dd/\(ndN I (li:Int)).D=dd/\NodesG I):=⟨hl,bi,aH,HI.out.g⟩
   have HQ:Hid (b_Q ls S (k+1)=(ui:Int)+psz l dd/\F (k+1)=((F k).1++b_X l dd I.length (F k).2.1 bf (li:Int),g_X l dd (F k).2.1,(li:Int),(c_F l dd I.length:Int))/\pnL 0 ((F k).1++b_X l dd I.length (F k).2.1 bf (li:Int))=ps++pnL I.length (b_X l dd I.length (F k).2.1 bf (li:Int))/\((F k).2.1.length:Int)=(P.length:Int) - (ui:Int)/\psz l dd<=((F k).2.1.length:Int)):=⟨aW,bo,a1,af.1,af.2 (by omega)⟩
   obtain ⟨pL,cL,xs,hv,bU,bK,cC⟩:=HO.1.head;have aL:=(a_P hv).1;have hz:=a_k hv;have bM:li < I.length:=by omega
   obtain ⟨qq,nd,s_,t_,eq,bv,_,_,_,_,d4,d5,hs,ht⟩:=b_x bU bK rfl li bM;subst eq;have aY:=l_n bv;have eD:nd.D=dd:=by rw [<- aY];exact HL.2.2.1
   rw [eD] at hs;obtain ⟨dp,dn,dc,rfl,HD⟩:=hs.nums.lst;have aJ:Hid (OwnK .i64 3 wr 0 (.slice dp dn dc) dd):=hs.low (zero_le _);have bJ:Hid (Nums .i64 wr (.slice dp dn dc) dd):=hs.nums;have kd:=a_b d4;have cv:=a_h c0;have bC:(li:Int) < (I.length:Int):=by omega
   obtain ⟨ml,ba⟩:∃ ml,I.length=ml:=⟨_,rfl⟩
   rw [ba] at aL bM bC a2 cg;have ab:Hid (I.length=ml):=ba;obtain ⟨s,x,y⟩:=l;clear aQ bE hl bi aH af bW bo el ed eu aU aP aG bk a1 aW ar hv bU bK cC bv aY eD hs ht ba;go_upto_block 2 with fail
   generalize aV:alloc _ _=W2;have am:Hid (Bw wr W2):=by rw [<- aV];exact a_a wr _
   obtain ⟨e0,e1,e2⟩:W2.cell? ⟨wr.heap.size,0,none⟩=some (.string s)/\W2.cell? ⟨wr.heap.size,1,none⟩=some (.int .i64 x)/\W2.cell? ⟨wr.heap.size,2,none⟩=some (.int .i64 y):=by rw [<- aV];simp [go_sem]
   have ke:=a_h e0;have cq:Hid (∃ t,W2.heap[wr.heap.size]?=some (.cells #[.string s,.int .i64 x,.int .i64 y] t (0,0))/\t=68):=⟨_,by rw [<- aV];exact Array.getElem?_push_size,rfl⟩
   have ac:Hid (d_o W2 B tb I/\Rr B w W2/\w.heap.size<=W2.heap.size):=⟨HO.1.up am,HO.2.1.trans (Rr.of (Nat.le_trans HK.1 HO.2.2) am),Nat.le_trans HO.2.2 am.size⟩
   have ay:=a7.out.up am;have ay:Hid (PrG 43 w B tb ps u15 W2):=ay;have aM:Hid (W2.heap[w.heap.size]?=some (.cells #[.slice p n c,.slice (some ⟨q,o,none⟩) V c2] 34 (0,0))):=(am.block _ (a_k HX.out)).trans HX.out;have cK:Hid (Nums .i64 W2 (.slice dp dn dc) dd):=bJ.out.up am
   have a0:Hid (StR w B tb I ps u15 #[.slice p n c,.slice (some ⟨q,o,none⟩) V c2] wr.heap.size #[.string s,.int .i64 x,.int .i64 y] (.slice dp dn dc) dd W2):=by
    obtain ⟨t_,an,b7⟩:=cq.out;subst b7;exact ⟨ac.1,ac.2.1,ac.2.2,HK.1,ay.out,aM.out,an,aJ.out.up am⟩
   have bA:Hid (OwnK .i64 3 W2 0 (.slice dp dn dc) dd):=aJ.out.up am;clear aI cy;clear aV c0 c1 bX d4 d5 aL g0 g1 kg cv kd hz bJ HD
   go_cut [13,15,17,18,23,24,25,26,27] from 87 to 264 (fun ca ck cR cd cW cV b0 cU cX wx=>ca = .int .i64 0/\cd = .int .i64 ((ui:Int)+psz (s,x,y) dd)/\b0 = .int .i64 (c_F (s,x,y) dd I.length:Int)/\Hid (PrG 43 w B tb (pnL 0 ((F k).1++b_X (s,x,y) dd I.length (F k).2.1 bf (li:Int))) ck wx)/\Hid (d_o wx B tb ks/\Rr B w wx/\w.heap.size<=wx.heap.size)/\Hid (wx.heap[w.heap.size]?=some (.cells #[.slice p n c,.slice (some ⟨q,o,none⟩) V c2] 34 (0,0))))
   case first=>
    obtain ⟨k0,k1,k2,k3,k4⟩:=kts s;have ar:=g_5 s;obtain ⟨z,ez⟩:∃ z,a_m s=z:=⟨_,rfl⟩
    have HZ:Hid (a_m s=z):=ez;rw [ez] at k0 k1 k2 k3 k4 ar;have cO:z < 5:=by rw [<- ez];exact HL.1.1
    clear ez;rcases (show z=0∨z=1∨z=2∨z=3∨z=4 by omega) with rfl|rfl|rfl|rfl|rfl
    ·simp only [decide_true,decide_false,nn5] at k0 k1 k2 k3 k4;obtain ⟨q1,q2,q3,-⟩:=s_W (l:=(s,x,y)) HZ.out dd I.length (F k).2.1 bf (li:Int);have hJ:=HJ.1;have J:=HQ.2.2.1;rw [u_Y HL.1 HZ.out] at J;rw [q1,ab.out] at hJ;obtain ⟨ae,O1,O,aT,O2,av,bP⟩:=hJ
     have ax:1<=x/\x<=256:=by
      rcases a_s HL.1 with ⟨-,h,L,-⟩|⟨-,h,L,-⟩|⟨-,h,L,-⟩|⟨-,h,L,-⟩|⟨-,h,L,-⟩ <;> simp only [HZ.out] at h <;> first|exact L|omega
     have bs:=HL.2.1.prod
     have aO:dn=dd.length:=by
      obtain ⟨_,_,e,_⟩:=aJ.out.nums.view;cases e;rfl
     have b4:Hid (dn=dd.length):=aO;obtain ⟨PK,aE⟩:∃ z,a_o dd=z:=⟨_,rfl⟩
     rw [aE] at bs O av;have aR:0<=x*PK/\x*PK<=256*4096:=⟨Int.mul_nonneg (by omega) (by omega),Int.mul_le_mul ax.2 bs.2 (by omega) (by omega)⟩
     obtain ⟨mi,ag⟩:∃ i:Nat,x*PK=(i:Int):=⟨(x*PK).toNat,by omega⟩
     obtain ⟨xi,bI⟩:∃ i:Nat,x=(i:Int):=⟨x.toNat,by omega⟩
     have ao:ui+mi+xi<=np:=by
      have L:=HQ.2.2.2.1;have h2:=HQ.2.2.2.2;rw [q3,aE,ag] at h2;dsimp only at h2;rw [HR.2.2.2.1] at L;omega
     obtain ⟨j2,aC⟩:∃ j:Nat,ui+mi=j:=⟨_,rfl⟩
     obtain ⟨j3,b6⟩:∃ j:Nat,j2+xi=j:=⟨_,rfl⟩
     obtain ⟨M1,aq⟩:∃ j:Nat,ml+1=j:=⟨_,rfl⟩
     have aN:Hid (ml+1=M1):=aq;obtain ⟨ZA,nA,cA,kA,hcut⟩:=n_F HW.2.2.1 HR.2.2.2.1 HK.2.2.2.2.1 (i:=ui) (j:=j2) (by omega) (by omega);obtain ⟨ZB,nB,cB,kB,aD⟩:=n_F HW.2.2.1 HR.2.2.2.1 HK.2.2.2.2.1 (i:=j2) (j:=j3) (by omega) (by omega)
     have cf:Hid (∀ W,Rr B w W->Nums .i64 W (.slice ZA nA cA) ((F k).2.1.take (x*PK).toNat)):=fun W hW=>by
      have:=hcut W hW;rw [show j2 - ui=mi by omega] at this;rw [aF.out,ag];exact this
     have b8:Hid (∀ W,Rr B w W->Nums .i64 W (.slice ZB nB cB) (((F k).2.1.drop (x*PK).toNat).take x.toNat)):=fun W hW=>by
      have:=aD W hW;rw [show j3 - j2=xi by omega,<- aC] at this;rw [aF.out,ag,drop_drop,bI];exact this
     have bn:Hid (∀ W,Sem.run Tryz.prog (Instr.slice 26 (.slice pp np cp) (some (.int .i64 (ui:Int))) (some (.int .i64 (j2:Int))) none) W = .ok (.slice ZA nA cA) W):=kA;have b5:Hid (∀ W,Sem.run Tryz.prog (Instr.slice 26 (.slice pp np cp) (some (.int .i64 (j2:Int))) (some (.int .i64 (j3:Int))) none) W = .ok (.slice ZB nB cB) W):=kB
     have bz:RI [x,PK]:=fun z hz=>by
      simp only [mem_cons,not_mem_nil,or_false] at hz;rcases hz with rfl|rfl <;> constructor <;> omega
     have bV:RI [x]:=fun z hz=>by
      simp only [mem_cons,not_mem_nil,or_false] at hz;subst hz;constructor <;> omega
     have bc:Hid (Nx I (spL [x,PK] ((F k).2.1.take (x*PK).toNat)) ae O1/\RI [x,PK]):=⟨O,bz⟩
     have bb:Hid (Nx ae (spL [x] (((F k).2.1.drop (x*PK).toNat).take x.toNat)) aT O2/\RI [x]):=⟨av,bV⟩
     have b1:Hid (Py aT (l_r (decide (dd.length=2)) (ml+2) (ml:Int) ((ml+1:Nat):Int) (li:Int)) ks):=bP;have bj:Hid (pnL 0 ((F k).1++b_X (s,x,y) dd I.length (F k).2.1 bf (li:Int))=ps++[(ml:Int),((ml+1:Nat):Int)]/\c_F (s,x,y) dd I.length=l_s (decide (dd.length=2)) (ml+2)/\(ui:Int)+psz (s,x,y) dd=(j3:Int)):=⟨by rw [J,ab.out],by rw [q2,ab.out],by rw [q3,aE,ag];dsimp only;omega⟩
     have be:IntKind.i64.wrap (x*PK)=(mi:Int):=by rw [IntKind.wrap_i64];omega
     have bp:IntKind.i64.wrap ((ui:Int)+(mi:Int))=(j2:Int):=by rw [IntKind.wrap_i64];omega
     have a4:IntKind.i64.wrap ((j2:Int)+x)=(j3:Int):=by rw [IntKind.wrap_i64];omega
     have bH:=HC.2.1 (.slice dp dn dc) dd HL.2.1.smal W2 bA.out.nums;rw [aE] at bH;clear q1 q2 q3 J O av bP hcut kA aD kB bz bV ao ag bI aO aE aC b6 aq bs aR;refine p_D HC ab a0 k0 k1 k2 k3 k4 e1 bH bc bb cf bn b8 b5 be bp a4 aN.out b1 b4 aX rfl rfl rfl (fun wx bl M hM hF=>?_);rintro l_ bd ⟨_,_,_,_,_,an⟩ aA;obtain ⟨u_,rfl⟩:=mid an aA (by decide) (by omega);clear bd an aA;simp only [lay,fs,reduceAdd,reduceSub,take_succ_cons,take_zero,drop_succ_cons,drop_zero,set_cons_succ,set_cons_zero,cons_append,nil_append];go_wp2;go_meet
     case rel=>exact ⟨rfl,by rw [bj.2.2],by rw [bj.2.1,hM],by show PrG _ _ _ _ _ _ _;rw [bj.1,aN.out];exact hF.1,hF.2.1,hF.2.2⟩
    ·simp only [decide_true,decide_false,nn5] at k0 k1 k2 k3 k4;obtain ⟨q1,q2,q3,-⟩:=s_X (l:=(s,x,y)) HZ.out dd I.length (F k).2.1 bf (li:Int);have hJ:=HJ.1;have J:=HQ.2.2.1;rw [u_Z HL.1 HZ.out] at J;rw [q1] at hJ;obtain ⟨ae,O1,O,aT,O2,av,Z⟩:=hJ;obtain rfl:ks=aT:=Z
     have ax:(1<=x/\x<=16)/\1<=y/\y<=16:=by
      rcases a_s HL.1 with ⟨-,h,L,-⟩|⟨-,h,L,h2⟩|⟨-,h,L,-⟩|⟨-,h,L,-⟩|⟨-,h,L,-⟩ <;> simp only [HZ.out] at h <;> first|exact ⟨L,h2⟩|omega
     have a6:(1<=dd.getD 0 0/\dd.getD 0 0<=1024)/\0 < dd.length/\dd.length<=2:=by
      rcases HL.2.1 with ⟨z,e,h⟩|⟨z,z2,e,h,h2⟩ <;> rw [e] <;> simp <;> omega
     have aO:dn=dd.length:=by
      obtain ⟨_,_,e,_⟩:=aJ.out.nums.view;cases e;rfl
     obtain ⟨dq,bN,rfl,a9⟩:∃ q0 o0,dp=some ⟨q0,o0,none⟩/\∀ W M_,StR w B tb M_ ps u15 #[.slice p n c,.slice (some ⟨q,o,none⟩) V c2] wr.heap.size #[.string s,.int .i64 x,.int .i64 y] (.slice dp dn dc) dd W->W.cell? ⟨q0,o0,none⟩=some (.int .i64 (dd.getD 0 0)):=by
      obtain ⟨p_,c_,e,h2⟩:=aJ.out.nums.view;cases e;obtain ⟨q',o',e',_⟩:=h2 0 a6.2.1;exact ⟨q',o',e',fun W M_ hS=>by subst e';exact hS.dm a6.2.1⟩
     have bh:=a9 W2 _ a0.out;obtain ⟨D0,au⟩:∃ z,dd.getD 0 0=z:=⟨_,rfl⟩
     have aR:0<=x*D0/\x*D0<=16*1024:=by rw [<- au];exact ⟨Int.mul_nonneg (by omega) (by omega),Int.mul_le_mul ax.1.2 a6.1.2 (by omega) (by omega)⟩
     have b2:0<=x*D0*y/\x*D0*y<=16*1024*16:=⟨Int.mul_nonneg aR.1 (by omega),Int.mul_le_mul aR.2 ax.2.2 (by omega) (by omega)⟩
     obtain ⟨mi,ag⟩:∃ i:Nat,x*D0*y=(i:Int):=⟨(x*D0*y).toNat,by omega⟩
     have ao:ui+mi<=np:=by
      have L:=HQ.2.2.2.1;have h2:=HQ.2.2.2.2;rw [q3,au,ag] at h2;rw [HR.2.2.2.1] at L;omega
     obtain ⟨j2,aC⟩:∃ j:Nat,ui+mi=j:=⟨_,rfl⟩
     obtain ⟨M1,aq⟩:∃ j:Nat,ml+1=j:=⟨_,rfl⟩
     have aN:Hid (ui+mi=j2/\ml+1=M1):=⟨aC,aq⟩
     obtain ⟨ZA,nA,cA,kA,hcut⟩:=n_F HW.2.2.1 HR.2.2.2.1 HK.2.2.2.2.1 (i:=ui) (j:=j2) (by omega) (by omega)
     have cz:Hid (∀ W,Rr B w W->Nums .i64 W (.slice ZA nA cA) ((F k).2.1.take (x*D0*y).toNat)):=fun W hW=>by
      have:=hcut W hW;rw [show j2 - ui=mi by omega] at this;rw [aF.out,ag];exact this
     have bn:Hid (∀ W,Sem.run Tryz.prog (Instr.slice 26 (.slice pp np cp) (some (.int .i64 (ui:Int))) (some (.int .i64 (j2:Int))) none) W = .ok (.slice ZA nA cA) W):=kA
     have bY:RI [x,D0,y]:=fun z hz=>by
      rw [<- au] at hz;simp only [mem_cons,not_mem_nil,or_false] at hz;rcases hz with rfl|rfl|rfl <;> constructor <;> omega
     rw [au] at O bh;have bc:Hid (Nx I (spL [x,D0,y] ((F k).2.1.take (x*D0*y).toNat)) ae O1/\RI [x,D0,y]):=⟨O,bY⟩
     have bb:Hid (Nx ae (spD 12 (li:Int) (I.length:Int) 1) ks O2):=av;have HY:Hid (pnL 0 ((F k).1++b_X (s,x,y) dd I.length (F k).2.1 bf (li:Int))=ps++[(ml:Int)]/\c_F (s,x,y) dd I.length=M1/\(ui:Int)+psz (s,x,y) dd=(j2:Int)):=⟨by rw [J,ab.out],by rw [q2,ab.out];exact aq,by rw [q3,au,ag];omega⟩
     have b9:Hid (∀ W M_,StR w B tb M_ ps u15 #[.slice p n c,.slice (some ⟨q,o,none⟩) V c2] wr.heap.size #[.string s,.int .i64 x,.int .i64 y] (.slice (some ⟨dq,bN,none⟩) dn dc) dd W->W.cell? ⟨dq,bN,none⟩=some (.int .i64 D0)):=by
      show ∀ _ _,_;rw [<- au];exact a9
     have be:IntKind.i64.wrap (x*D0)=x*D0:=by rw [IntKind.wrap_i64];omega
     have bp:IntKind.i64.wrap (x*D0*y)=(mi:Int):=by rw [IntKind.wrap_i64,ag];omega
     have a4:IntKind.i64.wrap ((ui:Int)+(mi:Int))=(j2:Int):=by rw [IntKind.wrap_i64];omega
     have bx:(0:Int) < (dn:Int):=by omega
     have cH:=a_h bh;clear q1 q2 q3 J O av hcut kA bY a9 ao ag b2 aC aq aO;refine r_H HC ab a0 k0 k1 k2 k3 k4 e1 e2 bh bc bb cz bn b9 be bp a4 bx aN.2 aX rfl rfl rfl (fun wx bl hF=>?_);rintro l_ bd ⟨_,_,_,_,_,an⟩ aA;obtain ⟨u_,rfl⟩:=mid an aA (by decide) (by omega);clear bd an aA;simp only [lay,fs,reduceAdd,reduceSub,take_succ_cons,take_zero,drop_succ_cons,drop_zero,set_cons_succ,set_cons_zero,cons_append,nil_append];go_wp2;go_meet
     case rel=>exact ⟨rfl,by rw [HY.2.2],by rw [HY.2.1],by show PrG _ _ _ _ _ _ _;rw [HY.1];exact hF.1,hF.2.1,hF.2.2⟩
    ·simp only [decide_true,decide_false,nn5] at k0 k1 k2 k3 k4;obtain ⟨q1,q2,q3⟩:=t_2 (l:=(s,x,y)) HZ.out dd I.length (F k).2.1 bf (li:Int);have hJ:=HJ.1;have J:=HQ.2.2.1;rw [q1] at hJ;rw [q1,n_D,append_nil] at J;obtain ⟨ae,O1,O,Z⟩:=hJ;obtain rfl:ks=ae:=Z
     have ax:1<=x/\x<=16:=by
      rcases a_s HL.1 with ⟨-,h,L,-⟩|⟨-,h,L,-⟩|⟨-,h,L,-⟩|⟨-,h,L,-⟩|⟨-,h,L,-⟩ <;> simp only [HZ.out] at h <;> first|exact L|omega
     have cD:=HC.2.2.2.nx (b:=-1) O HL.2.2.2 (by omega) (fun h=>absurd h (by unfold d_H;omega)) W2 ac.1 (by show InR _;unfold InR;(try simp only []);omega);rw [ab.out] at cD;have HY:Hid (pnL 0 ((F k).1++b_X (s,x,y) dd I.length (F k).2.1 bf (li:Int))=ps/\c_F (s,x,y) dd I.length=ml/\psz (s,x,y) dd=0):=⟨by rw [q1];exact J,by rw [q2,ab.out],q3⟩
     clear q1 q2 q3 J O;go_wp2_with fail
     refine cD.mono ?_;rintro e w4 ⟨rfl,al,ah,aa,ak⟩;have H4:Hid (d_o w4 B tb ks/\Rr B w w4/\w.heap.size<=w4.heap.size):=⟨al,ac.2.1.trans ⟨ah,aa⟩,Nat.le_trans ac.2.2 ah.size⟩
     have P4:Hid (PrG 43 w B tb (pnL 0 ((F k).1++b_X (s,x,y) dd I.length (F k).2.1 bf (li:Int))) u15 w4):=by
      show PrG _ _ _ _ _ _ _;rw [HY.1];exact ay.out.tape aa (by decide) ak
     have X4:Hid (w4.heap[w.heap.size]?=some (.cells #[.slice p n c,.slice (some ⟨q,o,none⟩) V c2] 34 (0,0))):=aa.keep aM.out (by decide);clear al ah aa ak cD;go_wp2;go_meet
     case rel=>exact ⟨rfl,by rw [HY.2.2,Int.add_zero],by rw [HY.2.1],P4,H4,X4⟩
    ·simp only [decide_true,decide_false,nn5] at k0 k1 k2 k3 k4;obtain ⟨q1,q2,q3⟩:=t_3 (l:=(s,x,y)) HZ.out dd I.length (F k).2.1 bf (li:Int);have hJ:=HJ.1;have J:=HQ.2.2.1;rw [q1] at hJ;rw [q1,n_D,append_nil] at J;obtain ⟨ae,O1,O,Z⟩:=hJ;obtain rfl:ks=ae:=Z
     have ax:1<=x/\x<=5:=by
      rcases a_s HL.1 with ⟨-,h,L,-⟩|⟨-,h,L,-⟩|⟨-,h,L,-⟩|⟨-,h,L,-⟩|⟨-,h,L,-⟩ <;> simp only [HZ.out] at h <;> first|exact L|omega
     have cD:=HC.2.2.2.nx (b:=-1) O HL.2.2.2 (by omega) (fun h=>absurd h (by unfold d_H;omega)) W2 ac.1 (by show InR _;unfold InR;(try simp only []);omega);rw [ab.out] at cD;have HY:Hid (pnL 0 ((F k).1++b_X (s,x,y) dd I.length (F k).2.1 bf (li:Int))=ps/\c_F (s,x,y) dd I.length=ml/\psz (s,x,y) dd=0):=⟨by rw [q1];exact J,by rw [q2,ab.out],q3⟩
     clear q1 q2 q3 J O;go_wp2_with fail
     refine cD.mono ?_;rintro e w4 ⟨rfl,al,ah,aa,ak⟩;have H4:Hid (d_o w4 B tb ks/\Rr B w w4/\w.heap.size<=w4.heap.size):=⟨al,ac.2.1.trans ⟨ah,aa⟩,Nat.le_trans ac.2.2 ah.size⟩
     have P4:Hid (PrG 43 w B tb (pnL 0 ((F k).1++b_X (s,x,y) dd I.length (F k).2.1 bf (li:Int))) u15 w4):=by
      show PrG _ _ _ _ _ _ _;rw [HY.1];exact ay.out.tape aa (by decide) ak
     have X4:Hid (w4.heap[w.heap.size]?=some (.cells #[.slice p n c,.slice (some ⟨q,o,none⟩) V c2] 34 (0,0))):=aa.keep aM.out (by decide);clear al ah aa ak cD;go_wp2;go_meet
     case rel=>exact ⟨rfl,by rw [HY.2.2,Int.add_zero],by rw [HY.2.1],P4,H4,X4⟩
    ·simp only [decide_true,decide_false,nn5] at k0 k1 k2 k3 k4;obtain ⟨q1,q2,q3⟩:=t_4 (l:=(s,x,y)) HZ.out dd I.length (F k).2.1 bf (li:Int);have hJ:=HJ.1;have J:=HQ.2.2.1;rw [q1] at hJ;rw [q1,n_D,append_nil] at J;obtain ⟨ae,O1,O,Z⟩:=hJ;obtain rfl:ks=ae:=Z;have cD:=HC.2.2.2.nx (b:=(li:Int)) O HL.2.2.2 (by omega) (fun _=>rfl) W2 ac.1 (by show InR _;unfold InR;(try simp only []);omega);rw [ab.out] at cD;have HY:Hid (pnL 0 ((F k).1++b_X (s,x,y) dd I.length (F k).2.1 bf (li:Int))=ps/\c_F (s,x,y) dd I.length=ml/\psz (s,x,y) dd=0):=⟨by rw [q1];exact J,by rw [q2,ab.out],q3⟩
     clear q1 q2 q3 J O;go_wp2_with fail
     refine cD.mono ?_;rintro e w4 ⟨rfl,al,ah,aa,ak⟩;have H4:Hid (d_o w4 B tb ks/\Rr B w w4/\w.heap.size<=w4.heap.size):=⟨al,ac.2.1.trans ⟨ah,aa⟩,Nat.le_trans ac.2.2 ah.size⟩
     have P4:Hid (PrG 43 w B tb (pnL 0 ((F k).1++b_X (s,x,y) dd I.length (F k).2.1 bf (li:Int))) u15 w4):=by
      show PrG _ _ _ _ _ _ _;rw [HY.1];exact ay.out.tape aa (by decide) ak
     have X4:Hid (w4.heap[w.heap.size]?=some (.cells #[.slice p n c,.slice (some ⟨q,o,none⟩) V c2] 34 (0,0))):=aa.keep aM.out (by decide);clear al ah aa ak cD;go_wp2;go_meet
     case rel=>exact ⟨rfl,by rw [HY.2.2,Int.add_zero],by rw [HY.2.1],P4,H4,X4⟩
   case rest=>
    obtain ⟨rfl,rfl,rfl,cs,cF,ch⟩:=hcut
    have cu:Hid (PrG 43 w B tb (pnL 0 (F (k+1)).1) u15 wc):=by
     show PrG _ _ _ _ _ _ _;rw [HQ.2.1];exact cs.out
    have HV:Hid ((F (k+1)).2.2.1=(li:Int)/\(F (k+1)).2.2.2=(c_F (s,x,y) dd I.length:Int)/\b_Q ls S (k+1)=(ui:Int)+psz (s,x,y) dd):=⟨by rw [HQ.2.1],by rw [HQ.2.1],HQ.1⟩
    go_wp2;go_roundg (V - (k+1))
    case measure=>omega
    case rel=>exact ⟨k+1,ks,by omega,rfl,rfl,by rw [HV.1],by rw [HV.2.1],by rw [HV.2.2],by first|rfl|simp,HJ.2,cF,cu,ch⟩
  ·obtain rfl:k=V:=by omega
   have ap:=bT.out _ _ _ HI.out a7.out HO.1 HO.2.1;go_wp2;exact bodyPost_ret (v:=.tuple #[.int .i64 (F k).2.2.2,_,.int .i64 0]) (by simp [results,Tryz.results11,go_sem]) rfl ap
end Go.Proofs.YtkfpainpomobfaaGreatDoor.Wd
