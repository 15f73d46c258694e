/- TapePlays: any calls: each node, what it is of, its tensor, or why there is none, is as the document says. -/
import Derived.Test.YtlhpmjcdkpfjdaaGreatDoorY34
set_option linter.unusedVariables false
set_option linter.unusedSimpArgs false
set_option maxHeartbeats 16000000
set_option maxRecDepth 16000
namespace Go.Proofs.YtlhpmjcdkpfjdaaGreatDoor.Wd
open Go.RowKit Fx
theorem RowN.up {k:IntKind} {W W':World} {p:Option Addr} {n c:Nat} {z:Nat→Int} (h:RowN k W p n c z) (hB:Below W.heap.size W W'):RowN k W' p n c z:=⟨⟨h.1.1,h.1.2.1,h.1.2.2.1,fun hn=>by
 obtain ⟨b,o,e,hb,hc⟩:=h.1.2.2.2 hn
 exact ⟨b,o,e,Nat.lt_of_lt_of_le hb hB.size,fun i hi=>cell_low (hc i hi) hB⟩⟩,h.2⟩
theorem StepAt.up {W W':World} {q o:Nat} {op a b k:Int} {pd:Option Addr} {nd cd:Nat} {zd:Nat→Int} {pv:Option Addr} {nv cv:Nat} {zv:Nat→Int} (h:StepAt W q o op a b k pd nd cd zd pv nv cv zv) (hB:Below W.heap.size W W'):StepAt W' q o op a b k pd nd cd zd pv nv cv zv:=by
 obtain ⟨h0,h1,h2,h3,h4,h5,w0,w1,w2,w3,r0,r1⟩:=h
 exact ⟨cell_low h0 hB,cell_low h1 hB,cell_low h2 hB,cell_low h3 hB,cell_low h4 hB,cell_low h5 hB,w0,w1,w2,w3,r0.up hB,r1.up hB⟩
theorem StepsN.up {W W':World} {p:Option Addr} {n c:Nat} (h:StepsN W p n c) (hB:Below W.heap.size W W'):StepsN W' p n c:=⟨h.1,h.2.1,fun i hi=>by
 obtain ⟨q,o,op,a,b,k,pd,nd,cd,zd,pv,nv,cv,zv,e,hs⟩:=h.2.2 i hi
 exact ⟨q,o,op,a,b,k,pd,nd,cd,zd,pv,nv,cv,zv,e,hs.up hB⟩⟩
theorem few_nd {ns:List Nd} (hG:NodesG ns) {i:Nat} {nd:Nd} (h:ns[i]?=some nd):Few nd.D∧Few nd.X:=by
 have hg:=(hG nd (nd_mem h)).1
 have h1:=hg.1.1
 have h2:=hg.len.2
 rw [ntl_len] at h1
 unfold Few
 omega
theorem tplays_walk (w:World) (hT:Hid (Tz w)) (n c:Nat) (p:Option Addr) (r:StepsN w p n c):
  Calls Tryz.prog 4 #[.slice p n c] w fun e w'=>e = .returned (.bool true)∧Below w.heap.size w w':=by
 have HS:Hid (StepsN w p n c):=r
 haveI:Nonempty World:=⟨w⟩
 clear r
 go_enter Tryz.func4,Tryz.ntmps4
 go_wp2_with fail
 refine (awake10_any w hT).mono ?_
 rintro e wa ⟨rfl,hBa⟩
 have HBa:Hid (Below w.heap.size w wa):=hBa
 clear hBa
 go_wp2_with fail
 refine (small_any p n c 40 (by decide) wa (HS.out.up HBa.out)).mono ?_
 rintro e w1 ⟨q1,rfl,hq1,ew1⟩
 subst ew1
 cases q1
 ·go_wp2
  go_ret
  exact ⟨rfl,HBa.out⟩
 have HQ:Hid (n≤40∧StepsS w1 p n):=hq1 rfl
 clear hq1
 go_wp2_with fail
 refine (played_any p n c (by have:=HQ.out.1;omega) w1 (Hid.up_tz hT HBa.out) HQ.out.2).mono ?_
 rintro e wb ⟨tb,tc,ns,rfl,hTb,hTc,hG,hl,hBb⟩
 have HI:Hid (TapC wb w1.heap.size tb ns∧Tap 49 50 wb w1.heap.size tc ns∧NodesG ns∧ns.length≤512):=⟨hTb,hTc,hG,hl⟩
 have HBb:Hid (Below w.heap.size w wb):=bstep HBa.out hBb
 obtain ⟨N,eN⟩:∃ N,ns.length=N:=⟨_,rfl⟩
 have HN:Hid (ns.length=N∧N≤512):=⟨eN,by rw [← eN];exact hl⟩
 have hN':(N:Int)≤9223372036854775807:=by have:=HN.out.2;omega
 clear hTb hTc hG hl hBb HQ
 obtain ⟨pL,cL,xs0,hv,_,_,_⟩:=HI.out.2.1.head
 rw [eN] at hv
 have hcell:=(head_cell hv).1
 have hzc:=cell_lt hcell
 have cz:∀ m,Calls Tryz.prog 17 #[.pointer (some ⟨tb,0,none⟩)] (wb.drewN m) fun e w'=>e = .returned (.int .i64 (N:Int))∧w'=wb.drewN m:=fun m=>by
  rw [← eN]
  exact clen_any w1.heap.size tb ns (wb.drewN m) (HI.out.1.up (bdrew _ _))
 have hnn:((N:Int) != (N:Int))=false:=by simp
 have hnn2:(N != N)=false:=by simp
 clear eN hv
 go_wp2_with fail
 go_quiet (exact Calls.quiet_of_same (cz _))
 generalize hwc:World.drewN wb nq=wc
 have HBc:Hid (Below wb.heap.size wb wc):=by show Below _ _ _;rw [← hwc];exact bdrew _ _
 clear hwc cz hcell hzc
 have HI2:Hid (TapC wc w1.heap.size tb ns∧Tap 49 50 wc w1.heap.size tc ns∧NodesG ns):=⟨HI.out.1.up HBc.out,HI.out.2.1.up HBc.out,HI.out.2.2.1⟩
 have HBw:Hid (Below w.heap.size w wc):=bstep HBb.out HBc.out
 clear HI HBc HBb
 obtain ⟨pM,cM,xs1,hv,ho,hn0,_⟩:=HI2.out.2.1.head
 rw [HN.out.1] at hv ho
 have HTP:Hid (wc.ownsRow w1.heap.size 50 6 (.slice pM N cM) N xs1∧NdsC wc w1.heap.size ns xs1∧wc.cell? ⟨tc,0,none⟩=some (.slice pM N cM)):=⟨ho,hn0,(head_cell hv).1⟩
 clear hv ho hn0
 go_wp2_with fail
 go_loopg [6] N (fun gg i wr=>∃ (k:Nat),k≤N∧gg=N - k∧i = .int .i64 (k:Int)∧Hid (Below wc.heap.size wc wr))
 case atStart=>exact ⟨0,by omega,by omega,by first|rfl|simp,Below.refl _ _⟩
 case round=>
  obtain ⟨k,hk,hg,rfl,HR⟩:=hrel
  obtain ⟨R1,hR1⟩:∃ R1:World,R1=wr:=⟨_,rfl⟩
  subst hR1
  have hc0:=cell_low HTP.out.2.2 HR.out
  by_cases hkn:k < N
  ·have hk':(k:Int) < (N:Int):=by omega
   have hk2:decide (k < N)=true:=decide_eq_true hkn
   obtain ⟨q,nd,sx,tx,eq,hnd,x0,x1,x2,x3,x4,x5,hsx,htx⟩:=node_cells HTP.out.1 HTP.out.2.1 HN.out.1 k hkn
   obtain ⟨pX,nX,cX,rfl⟩:=hsx.form_
   obtain ⟨qX,mX,eX,rfl⟩:=htx.form_
   subst eq
   have HXX:Hid ((wc.cell? ⟨q,k*6,none⟩=some (.int .i64 nd.op)∧wc.cell? ⟨q,k*6+1,none⟩=some (.int .i64 nd.a)∧wc.cell? ⟨q,k*6+2,none⟩=some (.int .i64 nd.b)∧wc.cell? ⟨q,k*6+3,none⟩=some (.int .i64 nd.k)∧wc.cell? ⟨q,k*6+4,none⟩=some (.slice pX nX cX)∧wc.cell? ⟨q,k*6+5,none⟩=some (.slice qX mX eX))∧Tn nd.D nd.X (.agg #[.slice pX nX cX,.slice qX mX eX]) wc):=⟨⟨x0,x1,x2,x3,x4,x5⟩,_,_,_,_,_,_,rfl,hsx.nums,htx.nums⟩
   have HFw:Hid (Few nd.D∧Few nd.X):=few_nd HI2.out.2.2 hnd
   have cA:Hid (∀ W,Below wc.heap.size wc W→Calls Tryz.prog 13 #[.pointer (some ⟨tb,0,none⟩),.int .i64 (k:Int)] W fun e w'=>∃ s t,e = .returned (.tuple #[.agg #[.int .i64 nd.op,.int .i64 nd.a,.int .i64 nd.b,.int .i64 nd.k,s,t],.bool true])∧OwnK .i64 3 w' W.heap.size s nd.D∧OwnK .i64 33 w' W.heap.size t nd.X∧Below W.heap.size W w'):=fun W hW=>cat_any _ _ ns HI2.out.2.2 k nd hnd W (HI2.out.1.up hW)
   have cV:Hid (∀ W,Below wc.heap.size wc W→Calls Tryz.prog 14 #[.pointer (some ⟨tb,0,none⟩),.int .i64 (k:Int)] W fun e w'=>∃ v,e = .returned (.tuple #[v,.bool true])∧TRes w' W.heap.size v nd.D nd.X∧Below W.heap.size W w'):=fun W hW=>cvalue_any _ _ ns HI2.out.2.2 k nd hnd W (HI2.out.1.up hW)
   obtain ⟨fo,efo⟩:∃ z,nd.op=z:=⟨_,rfl⟩
   obtain ⟨fa,efa⟩:∃ z,nd.a=z:=⟨_,rfl⟩
   obtain ⟨fb,efb⟩:∃ z,nd.b=z:=⟨_,rfl⟩
   obtain ⟨fk,efk⟩:∃ z,nd.k=z:=⟨_,rfl⟩
   obtain ⟨fD,efD⟩:∃ z,nd.D=z:=⟨_,rfl⟩
   obtain ⟨fX,efX⟩:∃ z,nd.X=z:=⟨_,rfl⟩
   rw [efo,efa,efb,efk,efD,efX] at HXX
   rw [efD,efX] at HFw cV
   rw [efo,efa,efb,efk,efD,efX] at cA
   clear efo efa efb efk efD efX hsx htx x0 x1 x2 x3 x4 x5 hnd
   go_wp2_with fail
   refine (cA.out R1 HR.out).mono ?_
   rintro e w2 ⟨s2,t2,rfl,hs2,ht2,hB2⟩
   obtain ⟨ps2,ns2,cs2,rfl⟩:=hs2.form_
   obtain ⟨pt2,nt2,ct2,rfl⟩:=ht2.form_
   have HB2:Hid (Below wc.heap.size wc w2):=bstep HR.out hB2
   have HT2:Hid (Tn fD fX (.agg #[.slice ps2 ns2 cs2,.slice pt2 nt2 ct2]) w2):=⟨_,_,_,_,_,_,rfl,hs2.nums,ht2.nums⟩
   clear hs2 ht2 hB2 cA
   go_wp2_with fail
   generalize hW2:World.alloc _ _=W2
   have hL2:Below w2.heap.size w2 W2:=by rw [← hW2];exact up_alloc w2 _
   have HX2:Hid (W2.heap[w2.heap.size]?=some (.cells #[.int .i64 fo,.int .i64 fa,.int .i64 fb,.int .i64 fk,.slice ps2 ns2 cs2,.slice pt2 nt2 ct2] 36 (0,0))):=by
    show _=_
    rw [← hW2]
    exact heap_alloc_new _ _
   have HB2':Hid (Below wc.heap.size wc W2):=bstep HB2.out hL2
   have HT2':Hid (Tn fD fX (.agg #[.slice ps2 ns2 cs2,.slice pt2 nt2 ct2]) W2):=HT2.out.up hL2
   obtain ⟨g2,hg2⟩:∃ z,w2.heap.size=z:=⟨_,rfl⟩
   rw [hg2] at HX2 ⊢
   clear hW2 hL2 HB2 HT2 hg2
   refine (cV.out W2 HB2'.out).mono ?_
   rintro e w3 ⟨v3,rfl,⟨s3,t3,rfl,hs3,ht3⟩,hB3⟩
   obtain ⟨ps3,ns3,cs3,rfl⟩:=hs3.form_
   obtain ⟨pt3,nt3,ct3,rfl⟩:=ht3.form_
   have HB3:Hid (Below wc.heap.size wc w3):=bstep HB2'.out hB3
   have HT3:Hid (Tn fD fX (.agg #[.slice ps2 ns2 cs2,.slice pt2 nt2 ct2]) w3∧Tn fD fX (.agg #[.slice ps3 ns3 cs3,.slice pt3 nt3 ct3]) w3∧Tn fD fX (.agg #[.slice pX nX cX,.slice qX mX eX]) w3):=⟨HT2'.out.up hB3,⟨_,_,_,_,_,_,rfl,hs3.nums,ht3.nums⟩,HXX.out.2.up HB3.out⟩
   have hX3:w3.heap[g2]?=some (.cells #[.int .i64 fo,.int .i64 fa,.int .i64 fb,.int .i64 fk,.slice ps2 ns2 cs2,.slice pt2 nt2 ct2] 36 (0,0)):=by rw [hB3.block _ (heap_lt HX2.out)];exact HX2.out
   obtain ⟨⟨b0,b1,b2,b3,b4,b5⟩,_⟩:=box6 hX3
   have zb:=heap_lt hX3
   have hc3:=cell_low HTP.out.2.2 HB3.out
   have x0:=cell_low HXX.out.1.1 HB3.out
   have x1:=cell_low HXX.out.1.2.1 HB3.out
   have x2:=cell_low HXX.out.1.2.2.1 HB3.out
   have x3:=cell_low HXX.out.1.2.2.2.1 HB3.out
   have x4:=cell_low HXX.out.1.2.2.2.2.1 HB3.out
   have x5:=cell_low HXX.out.1.2.2.2.2.2 HB3.out
   have zc:=cell_lt hc3
   have zq:=cell_lt x0
   have m1:(fo != fo)=false:=by simp
   have m2:(fa != fa)=false:=by simp
   have m3:(fb != fb)=false:=by simp
   have m4:(fk != fk)=false:=by simp
   clear hs3 ht3 cV HB2' HT2' HX2 hc0
   go_wp2_with fail
   generalize hW4:World.alloc _ _=W4
   have hL4:Below w3.heap.size w3 W4:=by rw [← hW4];go_grown
   have HV4:W4.heap[w3.heap.size]?=some (.cells #[.slice ps3 ns3 cs3,.slice pt3 nt3 ct3] 31 (0,0)):=by
    rw [← hW4,heap_alloc_old _ _ (by rw [size_alloc];omega)]
    exact heap_alloc_new _ _
   have HX4:W4.heap[w3.heap.size+1]?=some (.cells #[.int .i64 fo,.int .i64 fa,.int .i64 fb,.int .i64 fk,.slice pX nX cX,.slice qX mX eX] 50 (0,0)):=by
    rw [← hW4,← size_alloc w3 (.cells #[.slice ps3 ns3 cs3,.slice pt3 nt3 ct3] 31)]
    exact heap_alloc_new _ _
   have HB4:Hid (Below wc.heap.size wc W4):=bstep HB3.out hL4
   have ca:=alike_tn (HT3.out.1.up hL4) (HT3.out.2.2.up hL4) HFw.out.1 HFw.out.2
   rw [decide_eq_true ⟨rfl,rfl⟩] at ca
   have HT4:Hid (Tn fD fX (.agg #[.slice ps3 ns3 cs3,.slice pt3 nt3 ct3]) W4∧Tn fD fX (.agg #[.slice pX nX cX,.slice qX mX eX]) W4):=⟨HT3.out.2.1.up hL4,HT3.out.2.2.up hL4⟩
   clear hW4 hL4 b0 b1 b2 b3 b4 b5 zb hc3 x0 x1 x2 x3 x4 x5 zc zq hX3 HT3 HB3 hB3
   refine ca.mono ?_
   rintro e w5 ⟨rfl,hB5⟩
   have HB5:Hid (Below wc.heap.size wc w5):=bstep HB4.out hB5
   have ca:=alike_tn (HT4.out.1.up hB5) (HT4.out.2.up hB5) HFw.out.1 HFw.out.2
   rw [decide_eq_true ⟨rfl,rfl⟩] at ca
   have hV5:w5.heap[w3.heap.size]?=some (.cells #[.slice ps3 ns3 cs3,.slice pt3 nt3 ct3] 31 (0,0)):=by rw [hB5.block _ (heap_lt HV4)];exact HV4
   have hX5:w5.heap[w3.heap.size+1]?=some (.cells #[.int .i64 fo,.int .i64 fa,.int .i64 fb,.int .i64 fk,.slice pX nX cX,.slice qX mX eX] 50 (0,0)):=by rw [hB5.block _ (heap_lt HX4)];exact HX4
   obtain ⟨v0_,v1_,_,_⟩:=new_cel hV5
   obtain ⟨⟨_,_,_,_,x4,x5⟩,_⟩:=box6 hX5
   have z1:=heap_lt hV5
   have z2:=heap_lt hX5
   clear hB5 HB4 HT4 HV4 HX4 hV5 hX5
   go_wp2_with fail
   refine ca.mono ?_
   rintro e w6 ⟨rfl,hB6⟩
   have HB6:Hid (Below wc.heap.size wc w6):=bstep HB5.out hB6
   clear ca hB6 v0_ v1_ x4 x5 z1 z2
   go_wp2
   go_roundg (N - (k+1))
   case measure=>omega
   case rel=>exact ⟨k+1,by omega,rfl,by first|rfl|simp,HB6⟩
  ·obtain rfl:N=k:=by omega
   go_wp2_with fail
   refine (catno_any w1.heap.size tb ns (N:Int) (.inr (by rw [HN.out.1];exact Int.le_refl _)) R1 (HI2.out.1.up HR.out)).mono ?_
   rintro e w2 ⟨rfl,hB2⟩
   have HB2:Hid (Below w.heap.size w w2):=bstep HBw.out (bstep HR.out hB2)
   clear hB2 hc0
   go_wp2
   go_ret
   exact ⟨rfl,bstep HB2.out (by go_grown)⟩
end Go.Proofs.YtlhpmjcdkpfjdaaGreatDoor.Wd
