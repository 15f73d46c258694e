/- The reference's Sweep. -/
import Derived.Test.YtpdkkcnmgiihcaaGreatDoorP40
import Derived.Test.YtpdkkcnmgiihcaaGreatDoorP25
import Derived.Test.YtpdkkcnmgiihcaaGreatDoorP31
import Derived.Deep.CutBlock
set_option linter.unusedVariables false
set_option linter.unusedSimpArgs false
set_option maxHeartbeats 16000000
set_option maxRecDepth 16000
namespace Go.Proofs.YtpdkkcnmgiihcaaGreatDoor.Wd
open Go.RowKit Fx
theorem infoT:∃ i0,Tryz.prog.info? 31=some i0∧i0.zero=some (.agg #[.slice none 0 0,.slice none 0 0])∧i0.size=2∧i0.bytes=48:=by
 have h:(Tryz.prog.info? 31).map (fun i=>(i.zero,i.size,i.bytes))=some (some (.agg #[.slice none 0 0,.slice none 0 0]),2,48):=by kernel_rfl
 cases h0:Tryz.prog.info? 31 with
 | none=>rw [h0] at h;cases h
 | some i=>
  rw [h0] at h
  simp only [Option.map_some,Option.some.injEq,Prod.mk.injEq] at h
  exact ⟨i,rfl,h.1,h.2.1,h.2.2⟩
theorem infoO:∃ i0,Tryz.prog.info? 4=some i0∧i0.zero=some (.bool false)∧i0.size=1∧i0.bytes=1:=by
 have h:(Tryz.prog.info? 4).map (fun i=>(i.zero,i.size,i.bytes))=some (some (.bool false),1,1):=by kernel_rfl
 cases h0:Tryz.prog.info? 4 with
 | none=>rw [h0] at h;cases h
 | some i=>
  rw [h0] at h
  simp only [Option.map_some,Option.some.injEq,Prod.mk.injEq] at h
  exact ⟨i,rfl,h.1,h.2.1,h.2.2⟩
theorem own_full {W:World} {B s g n:Nat} {e:TypeId} {xs:List Value} (h:W.ownsRow B e s (.slice (some ⟨g,0,none⟩) n n) n xs):W.heap[g]?=some (.cells xs.toArray e (0,0)):=by
 rcases h.2 with ⟨h0,_⟩|⟨g',cap,cur,hv,hb,hg,h1,h2,h3,h4⟩
 ·cases h0
 ·cases hv
  have:cur.toList=xs:=by rw [← h4,List.take_of_length_le (by simp;omega)]
  rw [hg,← this]
theorem made_ten {n:Nat}:madeCells (Value.agg #[.slice none 0 0,.slice none 0 0]).cells n=(List.replicate n (.slice none 0 0)).toArray:=mk_cells (by decide) (fun i hi=>by
 have hi2:i < 2:=hi
 match i,hi2 with
 | 0,_=>rfl
 | 1,_=>rfl) n
theorem made_bool {n:Nat}:madeCells (Value.bool false).cells n=(List.replicate n (.bool false)).toArray:=mk_cells (by decide) (fun i hi=>by
 have hi2:i < 1:=hi
 match i,hi2 with
 | 0,_=>rfl) n
theorem rsw_no (B tb:Nat) (ns:List Nd) (root:Int) (w:World) (hT:Tap 41 47 w B tb ns) (hn:¬ (0≤root∧root < (ns.length:Int))):
  Calls Tryz.prog 21 #[.pointer (some ⟨tb,0,none⟩),.int .i64 root] w fun e w'=>e = .returned (.tuple #[.slice none 0 0,.int .i64 1])∧w'=w:=by
 obtain ⟨pL,cL,xs0,hv,ho,hn0,hnc⟩:=hT.head
 obtain ⟨N,eN⟩:∃ N,ns.length=N:=⟨_,rfl⟩
 rw [eN] at hv ho hnc hn
 have hcell:=(head_cell hv).1
 have hz:=heap_lt hv
 clear hT hv ho hn0 hnc eN
 by_cases h0:root < 0
 ·clear hn
  go_enter Tryz.func21,Tryz.ntmps21
  go_wp2
  go_ret2
  exact ⟨rfl,rfl⟩
 ·have h1:(N:Int)≤root:=by omega
  clear hn
  go_enter Tryz.func21,Tryz.ntmps21
  go_wp2
  go_ret2
  exact ⟨rfl,rfl⟩
theorem rsweep_any (B tb:Nat) (ns:List Nd) (hG:NodesG ns) (hV:NodesV ns) (hR:NodesR ns) (hl:ns.length≤512) (root:Int) (w:World) (hT:Tap 41 47 w B tb ns):
  Calls Tryz.prog 21 #[.pointer (some ⟨tb,0,none⟩),.int .i64 root] w fun e w'=>∃ v,e = .returned (.tuple #[v,.int .i64 (swE ns root)])∧OwnTs w' w.heap.size v (swL ns root)∧Below w.heap.size w w':=by
 by_cases hn:0≤root∧root < (ns.length:Int)
 rotate_left
 ·have eE:swE ns root=1:=if_neg hn
  have eL:swL ns root = []:=if_neg (by rw [eE];omega)
  rw [eE,eL]
  refine (rsw_no B tb ns root w hT hn).mono ?_
  rintro e w' ⟨rfl,rfl⟩
  exact ⟨_,rfl,OwnTs.nil _ _,Below.refl _ _⟩
 obtain ⟨r,rfl⟩:∃ r:Nat,root=(r:Int):=⟨root.toNat,by omega⟩
 have hTT:Hid (Tap 41 47 w B tb ns):=hT
 obtain ⟨pL,cL,xs0,hv,ho,hn0,hnc⟩:=hT.head
 obtain ⟨N,eN⟩:∃ N,ns.length=N:=⟨_,rfl⟩
 rw [eN] at hv ho hnc hn hl
 have hcell:=(head_cell hv).1
 have hz:=heap_lt hv
 have hrN:r < N:=by omega
 obtain ⟨q,ndr,sr,tr,eq,hndr,_,_,_,_,r4,r5,hsr,htr⟩:=node_cells ho hn0 eN r hrN
 subst eq
 have HND:Hid (∀ i,i < N→∃ sp sn sc tp tn tc,w.cell? ⟨q,i*6,none⟩=some (.int .i64 (ndN ns (i:Int)).op)∧w.cell? ⟨q,i*6+1,none⟩=some (.int .i64 (ndN ns (i:Int)).a)∧w.cell? ⟨q,i*6+2,none⟩=some (.int .i64 (ndN ns (i:Int)).b)∧w.cell? ⟨q,i*6+3,none⟩=some (.int .i64 (ndN ns (i:Int)).k)∧w.cell? ⟨q,i*6+4,none⟩=some (.slice sp sn sc)∧w.cell? ⟨q,i*6+5,none⟩=some (.slice tp tn tc)∧Nums .i64 w (.slice sp sn sc) (ndN ns (i:Int)).D):=fun i hi=>by
  obtain ⟨q',nd',s',t',eq',hx',c0,c1,c2,c3,c4,c5,hs',ht'⟩:=node_cells ho hn0 eN i hi
  cases eq'
  have:=nd_at hx'
  rw [this]
  obtain ⟨sp,sn,sc,rfl⟩:=hs'.form_
  obtain ⟨tp,tn,tc,rfl⟩:=ht'.form_
  exact ⟨_,_,_,_,_,_,c0,c1,c2,c3,c4,c5,hs'.nums⟩
 have endr:=nd_at hndr
 obtain ⟨xp,xn,xc,rfl,HXr⟩:=htr.nums.lst
 have hxl:(ndN ns (r:Int)).X.length=xn:=by rw [endr];exact HXr.out.1
 have HCE:Hid (w.cell? ⟨tb,0,none⟩=some (.slice (some ⟨q,0,none⟩) N cL)∧w.cell? ⟨q,r*6+5,none⟩=some (.slice xp xn xc)):=⟨hcell,r5⟩
 have hrN':(r:Int) < (N:Int):=by omega
 have hN5:(N:Int)≤512:=by omega
 by_cases hx1:xn=1
 rotate_left
 ·have eE:swE ns (r:Int)=4:=(if_pos (by rw [eN];exact hn)).trans (if_neg (by rw [hxl];exact hx1))
  have eL:swL ns (r:Int) = []:=if_neg (by rw [eE];omega)
  rw [eE,eL]
  have hx2:((xn:Int) != 1)=true:=by simp;omega
  have kz:=cell_lt r5
  clear hTT hT hv ho hn0 hnc hn hl hG hV hR HND HCE r4 hsr htr HXr hndr endr hxl eE eL hx1 eN
  go_enter Tryz.func21,Tryz.ntmps21
  go_wp2
  exact bodyPost_ret (v:=.tuple #[.slice none 0 0,.int .i64 4]) (by simp [results,Tryz.results21,go_sem]) rfl ⟨_,rfl,OwnTs.nil _ _,Below.refl _ _⟩
 subst hx1
 have eE:swE ns (r:Int)=0:=(if_pos (by rw [eN];exact hn)).trans (if_pos hxl)
 have eL2:swL ns (r:Int)=(swK ns r (r+1)).1:=if_pos eE
 rw [eE,eL2]
 have HG:Hid (NodesG ns∧NodesV ns∧NodesR ns∧ns.length=N∧(ndN ns (r:Int)).X.length=1):=⟨hG,hV,hR,eN,hxl⟩
 have HSG:Hid (∀ k,SwG ns r (swK ns r k)):=fun k=>swK_g hG hV (by omega) hxl k
 obtain ⟨M,eM⟩:∃ M,r+1=M:=⟨_,rfl⟩
 have eM':(r:Int)+1=(M:Int):=by omega
 have hM5:(M:Int)≤512:=by omega
 have hM5n:M≤512:=by omega
 have cN:Hid (∀ (i:Nat) W v,i < N→Nums .i64 W v (ndN ns (i:Int)).D→Calls Tryz.prog 23 #[v,.int .i64 0] W fun e w'=>∃ v',e = .returned v'∧TRes w' W.heap.size v' (nou ns i).1 (nou ns i).2∧Below W.heap.size W w'):=fun i W v hi hn=>by
  have gi:TnsG (ndN ns (i:Int)).D (ndN ns (i:Int)).X:=hG _ (nd_mem (ndN_get (by omega)))
  refine (rnew_any v _ gi.2.1 gi.1.1 0 W hn).mono ?_
  rintro e w' ⟨v',rfl,h',hB'⟩
  refine ⟨v',rfl,?_,hB'⟩
  have:=h'.res
  unfold nou
  rw [gi.1.2]
  exact this
 have e0:=sw0_eq ns r
 rw [eM] at e0
 have HE0:Hid ((sw0 ns r).1=(stK ns M M).set r ((ndN ns (r:Int)).D,[4294967296])∧(sw0 ns r).2=(List.replicate M false).set r true):=e0
 have HM:Hid (r+1=M∧r < M):=⟨eM,by omega⟩
 have hrM':(r:Int) < (M:Int):=by omega
 obtain ⟨iT,hiT,hzT0,hzT1,hzT2⟩:=infoT
 obtain ⟨iO,hiO,hzO0,hzO1,hzO2⟩:=infoO
 have kz:=cell_lt r5
 haveI:Nonempty World:=⟨w⟩
 clear hT hv ho hn0 hnc hn hl hG hV hR r4 hsr htr HXr hndr endr hxl eE eL2 eN e0
 rw [eM]
 clear eM
 go_enter Tryz.func21,Tryz.ntmps21
 go_wp2_with (first|(at_make;refine wpList_make_full w rfl (.tmp 37) (.tmp 37) 49 rfl w.heap.size 31 iT _ 2 Tryz.underlying49 hiT hzT0 hzT1 .i64 .i64 M M M rfl rfl rfl rfl (by rw [hzT2];omega) (by unfold maxLen;omega) (Nat.le_refl _) ?_;intro w1 hown hgrow;have B1:Below w.heap.size w w1:=Below.grown (Below.refl _ _) hgrow (Nat.le_refl _) (fun j hj=>by cases hj);have HG1:=own_full hown;rw [made_ten] at HG1;clear hown hgrow)|(at_make;refine wpList_make_full w1 rfl (.tmp 40) (.tmp 40) 81 rfl w1.heap.size 4 iO _ 1 Tryz.underlying81 hiO hzO0 hzO1 .i64 .i64 M M M rfl rfl rfl rfl (by rw [hzO2];omega) (by unfold maxLen;omega) (Nat.le_refl _) ?_;intro w2 hown hgrow;have B2:Below w1.heap.size w1 w2:=Below.grown (Below.refl _ _) hgrow (Nat.le_refl _) (fun j hj=>by cases hj);have HG2:=own_full hown;rw [made_bool,Nat.mul_one] at HG2;clear hown hgrow))
 obtain ⟨gb,egb⟩:∃ g,w.heap.size=g:=⟨_,rfl⟩
 obtain ⟨vb,evb⟩:∃ g,w1.heap.size=g:=⟨_,rfl⟩
 have HS0:Hid (SwR w2 w.heap.size gb vb M (stK ns M 0) (List.replicate M false)):=by
  rw [egb] at HG1 ⊢
  rw [evb] at HG2
  refine SwR.fresh ns ((B2.block _ (heap_lt HG1)).trans (by rw [HG1])) HG2 ⟨Nat.le_refl _,by rw [← egb,← evb];exact B1.size⟩
 have HB2:Hid (Below w.heap.size w w2):=bstep B1 B2
 have Hgv:Hid (w.heap.size≤gb∧w.heap.size≤vb):=⟨by omega,by rw [← evb];exact B1.size⟩
 (try rw [egb])
 (try rw [evb])
 clear HG1 HG2 B1 B2 hiT hzT0 hzT1 hzT2 hiO hzO0 hzO1 hzO2 r5 hcell kz hz eM'
 clear evb
 have HGB:Hid (w.heap.size=gb):=egb
 clear egb
 go_loopg [8] M (fun gg i wr=>∃ (k:Nat),k≤M∧gg=M - k∧i = .int .i64 (k:Int)∧Hid (SwR wr w.heap.size gb vb M (stK ns M k) (List.replicate M false))∧Hid (Below w.heap.size w wr∧Lone wr gb k))
 case atStart=>exact ⟨0,by omega,by omega,by first|rfl|simp,HS0.out,HB2.out,fun i u v hi=>absurd hi (by omega)⟩
 case round=>
  obtain ⟨k,hk,hgk,rfl,HS,HBk⟩:=hrel
  obtain ⟨R1,hR1⟩:∃ R1:World,R1=wr:=⟨_,rfl⟩
  subst hR1
  by_cases hkn:k < M
  ·have hk':(k:Int) < (M:Int):=by omega
   have hkr:(k:Int)≤(r:Int):=by have:=HM.out;omega
   have hkN:(k:Int) < (N:Int):=by omega
   obtain ⟨sp,sn,sc,tp,tn,tc,_,_,_,_,d4,_,hdn⟩:=HND.out k (by omega)
   have t0:=cell_low HCE.out.1 HBk.out.1
   have t4:=cell_low d4 HBk.out.1
   have kt:=cell_lt t0
   have k4:=cell_lt t4
   have HDN:Hid (Nums .i64 R1 (.slice sp sn sc) (ndN ns (k:Int)).D∧k < N):=⟨hdn.up HBk.out.1,by omega⟩
   clear d4 hdn
   go_wp2_with fail
   refine (cN.out k R1 _ HDN.out.2 HDN.out.1).mono ?_
   rintro e w3 ⟨v3,rfl,⟨s3,t3,rfl,hs3,ht3⟩,hB3⟩
   obtain ⟨p3,n3,c3,rfl⟩:=hs3.form_
   obtain ⟨q3,m3,e3,rfl⟩:=ht3.form_
   have hnx:=HS.out.next hkn hB3 HBk.out.1.size hs3 ht3
   have hwR:=HBk.out.1.size
   have HZ:Hid (SwR ((w3.setCell ⟨gb,k*2,none⟩ (.slice p3 n3 c3)).setCell ⟨gb,k*2+1,none⟩ (.slice q3 m3 e3)) w.heap.size gb vb M (stK ns M (k+1)) (List.replicate M false)):=hnx.1
   have HZ2:Hid (Below w.heap.size w ((w3.setCell ⟨gb,k*2,none⟩ (.slice p3 n3 c3)).setCell ⟨gb,k*2+1,none⟩ (.slice q3 m3 e3))∧Lone ((w3.setCell ⟨gb,k*2,none⟩ (.slice p3 n3 c3)).setCell ⟨gb,k*2+1,none⟩ (.slice q3 m3 e3)) gb (k+1)):=⟨((bstep HBk.out.1 hB3).setCell (p:=⟨gb,k*2,none⟩) Hgv.out.1 _).setCell (p:=⟨gb,k*2+1,none⟩) Hgv.out.1 _,hnx.2⟩
   obtain ⟨va,vc,i0,i1,i2,i3⟩:=(HS.out.up hB3).cells hkn
   have kg:=cell_lt i0
   clear hs3 ht3 hB3 hnx hwR t0 t4 kt k4 HDN
   go_wp2
   go_roundg (M - (k+1))
   case measure=>omega
   case rel=>exact ⟨k+1,by omega,rfl,by first|rfl|simp,HZ,HZ2⟩
  obtain rfl:k=M:=by omega
  have hMr:=HM.out
  obtain ⟨qv,cv,o0,⟨ov,o1⟩,o2,o3,o4⟩:∃ q c,R1.cell? ⟨gb,r*2+1,none⟩=some (.slice (some ⟨q,0,none⟩) 1 c)∧(∃ v,R1.cell? ⟨q,0,none⟩=some v)∧R1.frozen? ⟨q,0,none⟩=false∧w.heap.size≤q∧SwR (R1.setCell ⟨q,0,none⟩ (.int .i64 4294967296)) w.heap.size gb vb k ((stK ns k k).set r ((ndN ns (r:Int)).D,[4294967296])) (List.replicate k false):=by
   obtain ⟨hMr1,_⟩:=hMr
   subst hMr1
   exact HS.out.one HBk.out.2 HG.out.2.2.2.2
  obtain ⟨f0,f1⟩:=o4.flag hMr.2
  have HSW:Hid (SwR ((R1.setCell ⟨qv,0,none⟩ (.int .i64 4294967296)).setCell ⟨vb,r,none⟩ (.bool true)) w.heap.size gb vb k (swK ns r 0).1 (swK ns r 0).2):=by
   have h:=o4.mark r
   rw [← HE0.out.1,← HE0.out.2] at h
   exact h
  have HBW:Hid (Below w.heap.size w ((R1.setCell ⟨qv,0,none⟩ (.int .i64 4294967296)).setCell ⟨vb,r,none⟩ (.bool true))):=(HBk.out.1.setCell (p:=⟨qv,0,none⟩) o3 _).setCell (p:=⟨vb,r,none⟩) Hgv.out.2 _
  have ko:=cell_lt o0
  have ko1:=cell_lt o1
  have kf:vb < R1.heap.size:=by have:=cell_lt f0;simpa using this
  clear HS HBk o4 HE0
  have hd1:decide (k≤r)=false:=decide_eq_false (by omega)
  have hd2:decide ((k:Int)≤(r:Int))=false:=decide_eq_false (by omega)
  go_wp2_with fail
  try simp only [hd1,hd2]
  clear hd1 hd2
  go_loopg [9] (r+1) (fun gg i wr=>∃ (j:Nat),j≤r+1∧gg=r+1 - j∧i = .int .i64 ((r:Int) - (j:Int))∧Hid (SwR wr w.heap.size gb vb k (swK ns r j).1 (swK ns r j).2)∧Hid (Below w.heap.size w wr))
  case atStart=>exact ⟨0,by omega,by omega,by first|rfl|simp,HSW.out,HBW.out⟩
  case round=>
   clear HSW HBW o0 o1 o2 o3 f0 f1 ko ko1 kf
   obtain ⟨j,hj,hgj,rfl,HS,HBj⟩:=hrel
   obtain ⟨R2,hR2⟩:∃ R2:World,R2=wr:=⟨_,rfl⟩
   subst hR2
   by_cases hjr:j < r+1
   rotate_left
   ·obtain rfl:j=r+1:=by omega
    have HF:Hid (OwnTs R2 w.heap.size (.slice (some ⟨gb,0,none⟩) k k) (swK ns r (r+1)).1∧Below w.heap.size w R2):=⟨HS.out.own (by omega),HBj.out⟩
    have hr0:(r:Int) - ((r+1:Nat):Int) = -1:=by omega
    rw [hr0]
    clear HS HBj hr0
    go_wp2
    exact bodyPost_ret (v:=.tuple #[.slice (some ⟨gb,0,none⟩) k k,.int .i64 0]) (by simp [results,Tryz.results21,go_sem]) rfl ⟨_,rfl,by have h:=HF.out.1;rw [HM.out.1] at h;exact h,HF.out.2⟩
   obtain ⟨i,ei⟩:∃ i:Nat,(r:Int) - (j:Int)=(i:Int):=⟨r - j,by omega⟩
   rw [ei]
   have hi5:(i:Int) < 512:=by omega
   have hiN:i < N:=by omega
   have hiN':(i:Int) < (N:Int):=by omega
   have hiM:i < k:=by have:=HM.out;omega
   have hiM':(i:Int) < (k:Int):=by omega
   have HIJ:Hid (i=r - j∧(i:Int) - 1=(r:Int) - ((j+1:Nat):Int)):=⟨by omega,by omega⟩
   clear ei
   obtain ⟨sp,sn,sc,tp,tn,tc,d0,d1,d2,d3,d4,d5,_⟩:=HND.out i hiN
   obtain ⟨nd,end_⟩:∃ nd,ndN ns (i:Int)=nd:=⟨_,rfl⟩
   rw [end_] at d0 d1 d2 d3
   have hnd:ns[i]?=some nd:=by rw [← end_];exact ndN_get (by rw [HG.out.2.2.2.1];exact hiN)
   have t0:=cell_low HCE.out.1 HBj.out
   have x0:=cell_low d0 HBj.out
   have x1:=cell_low d1 HBj.out
   have x2:=cell_low d2 HBj.out
   have x3:=cell_low d3 HBj.out
   have x4:=cell_low d4 HBj.out
   have x5:=cell_low d5 HBj.out
   have kt:=cell_lt t0
   have kx:=cell_lt x0
   obtain ⟨v0,_⟩:=HS.out.flag hiM
   obtain ⟨F,eF⟩:∃ F,(swK ns r j).2.getD i false=F:=⟨_,rfl⟩
   rw [eF] at v0
   have HSTEP:Hid (swK ns r (j+1)=swStep ns i (swK ns r j)):=by
    show _=_
    rw [swK,← HIJ.out.1]
   obtain ⟨op,a,b,kk,D,X⟩:=nd
   simp only [] at x0 x1 x2 x3
   have HND2:Hid (ns[i]?=some ⟨op,a,b,kk,D,X⟩∧ndN ns (i:Int)=⟨op,a,b,kk,D,X⟩):=⟨hnd,end_⟩
   have HNO:Hid (¬ (F=true∧op≠1)→swK ns r (j+1)=swK ns r j):=fun h=>by
    rw [HSTEP.out]
    exact if_neg (by rw [eF,end_];exact h)
   have HYES:Hid (F=true∧op≠1→swK ns r (j+1)=if 0≤b then swGive (swGive (swK ns r j) a.toNat (onA op kk (aOf ns ⟨op,a,b,kk,D,X⟩) (bOf ns ⟨op,a,b,kk,D,X⟩) ((swK ns r j).1.getD i noT))) b.toNat (onB op kk (aOf ns ⟨op,a,b,kk,D,X⟩) (bOf ns ⟨op,a,b,kk,D,X⟩) ((swK ns r j).1.getD i noT)) else swGive (swK ns r j) a.toNat (onA op kk (aOf ns ⟨op,a,b,kk,D,X⟩) (bOf ns ⟨op,a,b,kk,D,X⟩) ((swK ns r j).1.getD i noT))):=fun h=>by
    rw [HSTEP.out]
    unfold swStep
    rw [end_]
    exact if_pos (by rw [eF];exact h)
   clear eF HSTEP d0 d1 d2 d3 d4 d5 hnd end_
   have kv:=cell_lt v0
   by_cases hF:F=true∧op≠1
   rotate_left
   ·have HN:Hid (SwR (R2.alloc (.cells #[.int .i64 op,.int .i64 a,.int .i64 b,.int .i64 kk,.slice sp sn sc,.slice tp tn tc] 47)) w.heap.size gb vb k (swK ns r (j+1)).1 (swK ns r (j+1)).2):=by
     show SwR _ _ _ _ _ _ _
     rw [HNO.out hF]
     exact HS.out.up (up_alloc _ _)
    have HB:Hid (Below w.heap.size w (R2.alloc (.cells #[.int .i64 op,.int .i64 a,.int .i64 b,.int .i64 kk,.slice sp sn sc,.slice tp tn tc] 47))):=bstep HBj.out (up_alloc _ _)
    cases F with
    | false=>
     clear hF HNO HYES HS HBj
     go_wp2
     go_roundg (r+1 - (j+1))
     case measure=>omega
     case rel=>exact ⟨j+1,by omega,rfl,by rw [← HIJ.out.2],HN,HB⟩
    | true=>
     obtain rfl:op=1:=by
      by_cases h:op=1
      ·exact h
      ·exact absurd ⟨rfl,h⟩ hF
     clear hF HNO HYES HS HBj
     go_wp2
     go_roundg (r+1 - (j+1))
     case measure=>omega
     case rel=>exact ⟨j+1,by omega,rfl,by rw [← HIJ.out.2],HN,HB⟩
   have hY:=HYES.out hF
   obtain ⟨rfl,hop⟩:=hF
   have hop1:(op==1)=false:=by simpa using hop
   have sg:=HSG.out j
   have gi:=sg.g i (by omega)
   rw [HND2.out.2] at gi
   obtain ⟨g,eg⟩:∃ g,(swK ns r j).1.getD i noT=g:=⟨_,rfl⟩
   rw [eg] at gi hY
   have hgi:(swK ns r j).1[i]?=some g:=by
    rw [← eg,List.getD_eq_getElem?_getD]
    have:i < (swK ns r j).1.length:=by rw [sg.l];omega
    rw [List.getElem?_eq_getElem this]
    rfl
   obtain ⟨ok,ho,ha,hb,hb'⟩:=OkP.of HG.out.1 HG.out.2.1 HND2.out.1 hop gi.1 gi.2
   obtain ⟨oa,ob⟩:=on_g HG.out.1 HG.out.2.1 HND2.out.1 hop gi.1 gi.2
   simp only [] at ok ho ha hb hb' oa ob
   obtain ⟨ai,rfl⟩:∃ ai:Nat,a=(ai:Int):=⟨a.toNat,by omega⟩
   obtain ⟨PA,ePA⟩:∃ P,onA op kk (aOf ns ⟨op,(ai:Int),b,kk,D,X⟩) (bOf ns ⟨op,(ai:Int),b,kk,D,X⟩) g=P:=⟨_,rfl⟩
   obtain ⟨PB,ePB⟩:∃ P,onB op kk (aOf ns ⟨op,(ai:Int),b,kk,D,X⟩) (bOf ns ⟨op,(ai:Int),b,kk,D,X⟩) g=P:=⟨_,rfl⟩
   rw [ePA,ePB,Int.toNat_natCast] at hY
   rw [ePA] at oa
   rw [ePB] at ob
   have cO:Hid (∀ p p2 m c m2 c2 W,Below w.heap.size w W→Nums .i64 W (.slice p m c) g.1→Nums .i64 W (.slice p2 m2 c2) g.2→Calls Tryz.prog 39 #[.pointer (some ⟨tb,0,none⟩),.int .i64 (i:Int),.agg #[.slice p m c,.slice p2 m2 c2]] W fun e w'=>∃ u v,e = .returned (.tuple #[u,v,.int .i64 0])∧TRes w' W.heap.size u PA.1 PA.2∧TRes w' W.heap.size v PB.1 PB.2∧Below W.heap.size W w'):=fun p p2 m c m2 c2 W hW h1 h2=>by
    have:=rone_at HG.out.2.2.1 HG.out.1 HG.out.2.1 HND2.out.1 hop g gi.1 gi.2 B tb p p2 m c m2 c2 W (hTT.out.up hW) h1 h2
    simp only [] at this
    rw [ePA,ePB] at this
    exact this
   obtain ⟨s,u,⟨c0,_⟩,⟨c1,_⟩,hs,hu⟩:=HS.out.read hgi
   obtain ⟨p1,n1,e1,rfl⟩:=hs.form_
   obtain ⟨q1,m1,f1,rfl⟩:=hu.form_
   have HGN:Hid (Nums .i64 R2 (.slice p1 n1 e1) g.1∧Nums .i64 R2 (.slice q1 m1 f1) g.2):=⟨hs.nums,hu.nums⟩
   have kc:=cell_lt c0
   have ga:=sg.g ai (by omega)
   obtain ⟨TA,eTA⟩:∃ t,(swK ns r j).1.getD ai noT=t:=⟨_,rfl⟩
   rw [eTA] at ga
   have hai:ai < k:=by have:=HM.out;omega
   have hai':(ai:Int) < (k:Int):=by omega
   have haj:(swK ns r j).1[ai]?=some TA:=by
    rw [← eTA,List.getD_eq_getElem?_getD]
    have:ai < (swK ns r j).1.length:=by rw [sg.l];omega
    rw [List.getElem?_eq_getElem this]
    rfl
   have HY:Hid (swK ns r (j+1)=if 0≤b then swGive (swGive (swK ns r j) ai PA) b.toNat PB else swGive (swK ns r j) ai PA):=hY
   have HTA:Hid (TenG TA∧TenG PA∧(swK ns r j).1[ai]?=some TA∧(swK ns r j).1.getD ai noT=TA∧SwG ns r (swK ns r j)):=⟨ga.1,oa.1,haj,eTA,sg⟩
   have HOB:Hid ((twoP op→TenG PB∧PB.1=dD ns op b)∧PA.1=(ndN ns (ai:Int)).D∧(twoP op→0≤b∧b < (i:Int))∧(¬ twoP op→b = -1)):=⟨fun h=>ob h,oa.2,hb,hb'⟩
   clear hY HYES HNO hgi hs hu ga haj eTA oa ob ok ho ha hb hb' gi eg ePA ePB sg hop HND2
   go_wp2_with fail
   generalize hW1:World.alloc _ _=W1
   obtain ⟨nb,enb⟩:∃ z,R2.heap.size=z:=⟨_,rfl⟩
   have hL1:Below R2.heap.size R2 W1:=by rw [← hW1];exact up_alloc _ _
   have HX1:Hid (W1.heap[nb]?=some (.cells #[.int .i64 op,.int .i64 (ai:Int),.int .i64 b,.int .i64 kk,.slice sp sn sc,.slice tp tn tc] 47 (0,0))):=by
    show _=_
    rw [← hW1,← enb]
    exact heap_alloc_new _ _
   have HB1:Hid (Below R2.heap.size R2 W1):=hL1
   (try rw [enb])
   clear hW1 hL1 t0 x0 x1 x2 x3 x4 x5 kt kx v0 kv c0 c1 kc
   refine (cO.out p1 q1 n1 e1 m1 f1 W1 (bstep HBj.out HB1.out) (HGN.out.1.up HB1.out) (HGN.out.2.up HB1.out)).mono ?_
   rintro e w3 ⟨u3,v3,rfl,hu3,hv3,hB3⟩
   obtain ⟨pu,nu,cu,qu,mu,eu,rfl,hu1,hu2⟩:=hu3.own
   obtain ⟨pv,nv,cv',qv',mv,ev',rfl,hv1,hv2⟩:=hv3.own
   have HU:Hid ((Nums .i64 w3 (.slice pu nu cu) PA.1∧Nums .i64 w3 (.slice qu mu eu) PA.2)∧(OwnK .i64 3 w3 W1.heap.size (.slice pv nv cv') PB.1∧OwnK .i64 33 w3 W1.heap.size (.slice qv' mv ev') PB.2)):=⟨⟨hu1.nums,hu2.nums⟩,hv1,hv2⟩
   have HB3:Hid (Below R2.heap.size R2 w3∧Below W1.heap.size W1 w3):=⟨bstep HB1.out hB3,hB3⟩
   clear hu3 hv3 hu1 hu2 hv1 hv2 hB3 cO HGN
   go_wp2_with fail
   generalize hW4:World.alloc (World.alloc _ _) _=W4
   have hL4:Below w3.heap.size w3 W4:=by rw [← hW4];go_grown
   have XA:Hid (Cel W4 w3.heap.size (.slice pu nu cu) (.slice qu mu eu)):=celW hW4 (by simp [go_sem])
   have XB:Hid (W4.heap[w3.heap.size+1]?=some (.cells #[.slice pv nv cv',.slice qv' mv ev'] 31 (0,0))):=by
    show _=_
    rw [← hW4]
    have:=heap_alloc_new (w3.alloc (.cells #[.slice pu nu cu,.slice qu mu eu] 31)) (.cells #[.slice pv nv cv',.slice qv' mv ev'] 31)
    rw [size_alloc] at this
    exact this
   obtain ⟨ab,eab⟩:∃ z,w3.heap.size=z:=⟨_,rfl⟩
   rw [eab] at XA XB
   have hab:R2.heap.size≤ab:=by rw [← eab];exact HB3.out.1.size
   have HB4:Hid (Below R2.heap.size R2 W4):=bstep HB3.out.1 hL4
   have HBw:Hid (Below w.heap.size w W4):=bstep HBj.out HB4.out
   have HS4:Hid (SwR W4 w.heap.size gb vb k (swK ns r j).1 (swK ns r j).2):=HS.out.up HB4.out
   have HX4:Hid (W4.heap[nb]?=some (.cells #[.int .i64 op,.int .i64 (ai:Int),.int .i64 b,.int .i64 kk,.slice sp sn sc,.slice tp tn tc] 47 (0,0))):=by
    have hL:Below W1.heap.size W1 W4:=bstep HB3.out.2 hL4
    show _=_
    rw [hL.block _ (heap_lt HX1.out)]
    exact HX1.out
   have HU4:Hid ((Nums .i64 W4 (.slice pu nu cu) PA.1∧Nums .i64 W4 (.slice qu mu eu) PA.2)∧(OwnK .i64 3 W4 W1.heap.size (.slice pv nv cv') PB.1∧OwnK .i64 33 W4 W1.heap.size (.slice qv' mv ev') PB.2)):=⟨⟨HU.out.1.1.up hL4,HU.out.1.2.up hL4⟩,HU.out.2.1.up hL4,HU.out.2.2.up hL4⟩
   have Hgg:Hid (gb < R2.heap.size∧vb < R2.heap.size∧R2.heap.size≤nb∧R2.heap.size≤ab):=by
    obtain ⟨xs9,hx9,_⟩:=HS.out.hg
    exact ⟨heap_lt hx9,heap_lt HS.out.hv,by omega,hab⟩
   (try rw [eab])
   clear hW4 hL4 HB3 HU HX1 HB1 enb eab hab HS HBj HB4
   obtain ⟨s,u,⟨c0,_⟩,⟨c1,_⟩,hs,hu⟩:=HS4.out.read HTA.out.2.2.1
   obtain ⟨p3,n3,c3,rfl⟩:=hs.form_
   obtain ⟨q3,m3,e3,rfl⟩:=hu.form_
   obtain ⟨A,eA⟩:∃ A,add2 TA PA=A:=⟨_,rfl⟩
   obtain ⟨E,eE⟩:∃ E,eachE TA.1 TA.2 PA.1 PA.2=E:=⟨_,rfl⟩
   have cA:Hid (∀ W,Below W4.heap.size W4 W→Calls Tryz.prog 40 #[.int .i64 0,.agg #[.slice p3 n3 c3,.slice q3 m3 e3],.agg #[.slice pu nu cu,.slice qu mu eu]] W fun e w'=>∃ v',e = .returned (.tuple #[v',.int .i64 E])∧TRes w' W.heap.size v' A.1 A.2∧Below W.heap.size W w'):=fun W hW=>by
    have:=reach0_any p3 q3 pu qu n3 c3 m3 e3 nu cu mu eu TA.1 TA.2 PA.1 PA.2 HTA.out.1.2.1 HTA.out.1.2.2 HTA.out.2.1.2.1 HTA.out.2.1.2.2 W (hs.nums.up hW) (hu.nums.up hW) (HU4.out.1.1.up hW) (HU4.out.1.2.up hW)
    rw [eE] at this
    rw [← eA]
    exact this
   have HA:Hid (add2 TA PA=A):=eA
   clear hs hu eA eE
   obtain ⟨⟨k0,k1,k2,_,_,_⟩,_⟩:=box6 HX4.out
   obtain ⟨y0,y1,_,_⟩:=XA.out
   have kb:=cell_lt k0
   have ky:=cell_lt y0
   have kc:=cell_lt c0
   refine relE [⟨9,112,TupP W4.heap.size A.1 A.2 E⟩,⟨10,102,TupP W4.heap.size A.1 A.2 E⟩,⟨11,113,OwnT W4.heap.size A.1 A.2⟩] 14 142 (by kernel_rfl) rfl rfl 12 _ rfl (by decide) rfl (by kernel_rfl) (by kernel_rfl) (fun _ _ _ _ h=>h) (by rfl) ?_ ?_
   ·intro e he v W W' h hb
    simp only [List.mem_cons,List.not_mem_nil,or_false] at he
    rcases he with rfl|rfl|rfl
    ·exact TupP.up h hb
    ·exact TupP.up h hb
    ·exact OwnT.up h hb
   apply Exists.intro
   refine ⟨?yl1,?wk1,?pk1,?rest1⟩
   case wk1=>
    intro x
    simp only [List.take_succ_cons,List.take_zero]
    iterate 9
     refine relQuiet rfl rfl ?_
     apply Exists.intro
     refine ⟨fun F hF hf K hK=>?_,?_⟩
     ·have hFc:=hF.cell
      have hFf:=hF.frozen
      go_big_quiet_op
      first|exact hK|(apply Exists.intro;refine ⟨fun _=>?_,?_⟩;(· fail);exact hK)
     (try simp only [Act.put,List.setIfInBounds_toArray,List.set_cons_zero,List.set_cons_succ])
    refine relTold rfl rfl ?_ ?_
    ·intro F hF hf d
     have hFc:=hF.cell
     have hFf:=hF.frozen
     simp [yieldsR,yieldsUpon,go_sem]
     refine (cA.out (F d) (hF.below d)).mono ?_
     rintro e' w8 ⟨v8,rfl,h8,hb8⟩
     exact ⟨_,rfl,⟨v8,rfl,(h8.low (hF.below d).size).own⟩,hb8⟩
    (try simp only [Act.put,List.setIfInBounds_toArray,List.set_cons_zero,List.set_cons_succ])
    refine relTold rfl rfl ?_ ?_
    ·intro F hF hf d
     have hFc:=hF.cell
     have hFf:=hF.frozen
     have h9:=hf _ List.mem_cons_self (by rfl) d
     simp [yieldsR,yieldsUpon,go_sem]
     exact ⟨h9,Below.refl _ _⟩
    (try simp only [Act.put,List.setIfInBounds_toArray,List.set_cons_zero,List.set_cons_succ])
    refine relTold rfl rfl ?_ ?_
    ·intro F hF hf d
     have hFc:=hF.cell
     have hFf:=hF.frozen
     have h9:=hf _ (List.mem_cons_of_mem _ List.mem_cons_self) (by rfl) d
     obtain ⟨u9,e9,o9⟩:=h9
     simp only [] at e9
     simp [yieldsR,yieldsUpon,go_sem,e9]
     exact ⟨o9,Below.refl _ _⟩
    (try simp only [Act.put,List.setIfInBounds_toArray,List.set_cons_zero,List.set_cons_succ])
    refine relQuiet rfl rfl ?_
    apply Exists.intro
    refine ⟨fun F hF hf K hK=>?_,?_⟩
    ·have hFc:=hF.cell
     have hFf:=hF.frozen
     have h9:=hf _ (List.mem_cons_of_mem _ List.mem_cons_self) (by rfl)
     obtain ⟨u9,e9,_⟩:=h9 W4
     simp only [] at e9
     go_big_quiet_op
     first|exact hK|(apply Exists.intro;refine ⟨fun _=>?_,?_⟩;(· fail);exact hK)
    (try simp only [Act.put,List.setIfInBounds_toArray,List.set_cons_zero,List.set_cons_succ])
    refine relQuiet rfl rfl ?_
    apply Exists.intro
    refine ⟨fun F hF hf K hK=>?_,?_⟩
    ·have hFc:=hF.cell
     have hFf:=hF.frozen
     go_big_quiet_op
     first|exact hK|(apply Exists.intro;refine ⟨fun _=>?_,?_⟩;(· fail);exact hK)
    (try simp only [Act.put,List.setIfInBounds_toArray,List.set_cons_zero,List.set_cons_succ])
    refine relEnd ?_
    exact rfl
   case pk1=>
    intro x
    simp only [putsK,List.foldl_cons,List.foldl_nil,Act.put,List.setIfInBounds_toArray,List.set_cons_zero,List.set_cons_succ]
   case yl1=>
    intro x hx
    obtain ⟨W9,u9,e9,_⟩:=hx _ (List.mem_cons_of_mem _ List.mem_cons_self) (by rfl)
    simp only [] at e9
    refine ⟨.int .i64 E,fun t ht=>?_,.inl ⟨by rfl,fun w=>?_⟩⟩
    ·cases ht
     rfl
    ·simp [execOp,Act.eval,e9,go_sem]
   intro z1 xs hBz1 hf
   simp only [List.drop_succ_cons,List.drop_zero]
   obtain ⟨ap,an,ac,aq,am,ae,ev,o1,o2⟩:=hf _ (List.mem_cons_of_mem _ (List.mem_cons_of_mem _ List.mem_cons_self))
   simp only [] at ev
   obtain ⟨x9_,e9_⟩:∃ q,xs 9=q:=⟨_,rfl⟩
   obtain ⟨x10_,e10_⟩:∃ q,xs 10=q:=⟨_,rfl⟩
   simp only [ev,e9_,e10_]
   have hSz:=HS4.out.up hBz1
   have hwz:w.heap.size≤W4.heap.size:=HBw.out.size
   have HZ1:Hid (SwR (((z1.setCell ⟨gb,ai*2,none⟩ (.slice ap an ac)).setCell ⟨gb,ai*2+1,none⟩ (.slice aq am ae)).setCell ⟨vb,ai,none⟩ (.bool true)) w.heap.size gb vb k ((swK ns r j).1.set ai A) ((swK ns r j).2.set ai true)∧Below w.heap.size w (((z1.setCell ⟨gb,ai*2,none⟩ (.slice ap an ac)).setCell ⟨gb,ai*2+1,none⟩ (.slice aq am ae)).setCell ⟨vb,ai,none⟩ (.bool true))∧But2 gb vb W4 (((z1.setCell ⟨gb,ai*2,none⟩ (.slice ap an ac)).setCell ⟨gb,ai*2+1,none⟩ (.slice aq am ae)).setCell ⟨vb,ai,none⟩ (.bool true))):=by
    have h:=(hSz.set hai (o1.low hwz) (o2.low hwz)).mark ai
    have bs:=hSz.bs
    exact ⟨h,(((bstep HBw.out hBz1).setCell (p:=⟨gb,ai*2,none⟩) bs.1 _).setCell (p:=⟨gb,ai*2+1,none⟩) bs.1 _).setCell (p:=⟨vb,ai,none⟩) bs.2 _,(((But2.of hBz1).set (.inl rfl)).set (.inl rfl)).set (.inr rfl)⟩
   obtain ⟨va,vc,i0,i1,i2,i3⟩:=hSz.cells hai
   obtain ⟨v0,v1⟩:=hSz.flag hai
   obtain ⟨xs9,hx9,_⟩:=hSz.hg
   have hne:gb≠vb:=kind_ne hx9 hSz.hv (by decide)
   have kg:=cell_lt i0
   have kv:=cell_lt v0
   have HK1:Hid (z1.heap[nb]?=some (.cells #[.int .i64 op,.int .i64 (ai:Int),.int .i64 b,.int .i64 kk,.slice sp sn sc,.slice tp tn tc] 47 (0,0))):=(hBz1.block _ (heap_lt HX4.out)).trans HX4.out
   obtain ⟨⟨_,j1,j2,_,_,_⟩,_⟩:=box6 HK1.out
   have kj:=cell_lt j1
   have hnb1:nb≠gb:=by have:=Hgg.out;omega
   have hnb2:nb≠vb:=by have:=Hgg.out;omega
   clear k0 k1 k2 y0 y1 kb ky kc c0 c1
   clear hf ev e9_ e10_ o1 o2 hx9 hSz hwz
   go_upto_region 21 with fail
   generalize hZ:World.setCell _ _ _=Z1 at HZ1
   (try rw [hZ])
   clear hZ i0 i1 i2 i3 v0 v1 kg kv hne hBz1
   have hZn:Z1.heap[nb]?=some (.cells #[.int .i64 op,.int .i64 (ai:Int),.int .i64 b,.int .i64 kk,.slice sp sn sc,.slice tp tn tc] 47 (0,0)):=(HZ1.out.2.2.2 nb (heap_lt HX4.out) hnb1 hnb2).trans HX4.out
   have HZn:Hid (Z1.heap[nb]?=some (.cells #[.int .i64 op,.int .i64 (ai:Int),.int .i64 b,.int .i64 kk,.slice sp sn sc,.slice tp tn tc] 47 (0,0))):=hZn
   obtain ⟨⟨_,_,l2,_,_,_⟩,_⟩:=box6 hZn
   have kl:=cell_lt l2
   clear hZn j1 j2 kj HK1
   by_cases h2:twoP op
   rotate_left
   ·have hb1:=HOB.out.2.2.2 h2
    subst hb1
    have HN:Hid (SwR Z1 w.heap.size gb vb k (swK ns r (j+1)).1 (swK ns r (j+1)).2):=by
     show SwR _ _ _ _ _ _ _
     rw [HY.out,if_neg (by omega)]
     unfold swGive
     rw [HTA.out.2.2.2.1,HA.out]
     exact HZ1.out.1
    have HB:Hid (Below w.heap.size w Z1):=HZ1.out.2.1
    clear HZ1 HZn HX4 XA XB HU4 HS4 HTA HOB HY h2
    go_wp2
    go_roundg (r+1 - (j+1))
    case measure=>omega
    case rel=>exact ⟨j+1,by omega,rfl,by rw [← HIJ.out.2],HN,HB⟩
   obtain ⟨bi,rfl⟩:∃ bi:Nat,b=(bi:Int):=⟨b.toNat,by have:=HOB.out.2.2.1 h2;omega⟩
   have hbi:=HOB.out.2.2.1 h2
   have hbk:bi < k:=by have:=HM.out;omega
   have hbk':(bi:Int) < (k:Int):=by omega
   have sg2:SwG ns r (swGive (swK ns r j) ai PA):=HTA.out.2.2.2.2.give (by omega) HTA.out.2.1 HOB.out.2.1
   have gb2:=sg2.g bi (by omega)
   obtain ⟨TB,eTB⟩:∃ t,(swGive (swK ns r j) ai PA).1.getD bi noT=t:=⟨_,rfl⟩
   rw [eTB] at gb2
   have hbj:((swK ns r j).1.set ai A)[bi]?=some TB:=by
    have e2:(swGive (swK ns r j) ai PA).1=(swK ns r j).1.set ai A:=by
     unfold swGive
     rw [HTA.out.2.2.2.1,HA.out]
    rw [← e2,← eTB,List.getD_eq_getElem?_getD]
    have:bi < (swGive (swK ns r j) ai PA).1.length:=by rw [sg2.l];omega
    rw [List.getElem?_eq_getElem this]
    rfl
   have HTB:Hid (TenG TB∧TenG PB∧((swK ns r j).1.set ai A)[bi]?=some TB∧(swGive (swK ns r j) ai PA).1.getD bi noT=TB):=⟨gb2.1,(HOB.out.1 h2).1,hbj,eTB⟩
   have HSZ:Hid (SwR Z1 w.heap.size gb vb k ((swK ns r j).1.set ai A) ((swK ns r j).2.set ai true)):=HZ1.out.1
   have HBZ:Hid (Below w.heap.size w Z1):=HZ1.out.2.1
   have hbb1:ab+1≠gb:=by have:=Hgg.out;omega
   have hbb2:ab+1≠vb:=by have:=Hgg.out;omega
   have hZb:Z1.heap[ab+1]?=some (.cells #[.slice pv nv cv',.slice qv' mv ev'] 31 (0,0)):=(HZ1.out.2.2.2 (ab+1) (heap_lt XB.out) hbb1 hbb2).trans XB.out
   have HZO:Hid (Only [31,4] W4 Z1):=by
    obtain ⟨xs9,hx9,_⟩:=HS4.out.hg
    exact HZ1.out.2.2.only hx9 HS4.out.hv
   have HUZ:Hid (Nums .i64 Z1 (.slice pv nv cv') PB.1∧Nums .i64 Z1 (.slice qv' mv ev') PB.2):=⟨(HU4.out.2.1.only HZO.out (by decide)).nums,(HU4.out.2.2.only HZO.out (by decide)).nums⟩
   obtain ⟨s,u,⟨c0,_⟩,⟨c1,_⟩,hs,hu⟩:=HSZ.out.read hbj
   obtain ⟨p4,n4,c4,rfl⟩:=hs.form_
   obtain ⟨q4,m4,e4,rfl⟩:=hu.form_
   obtain ⟨A2,eA2⟩:∃ A,add2 TB PB=A:=⟨_,rfl⟩
   obtain ⟨E2,eE2⟩:∃ E,eachE TB.1 TB.2 PB.1 PB.2=E:=⟨_,rfl⟩
   have cB:Hid (∀ W,Below Z1.heap.size Z1 W→Calls Tryz.prog 40 #[.int .i64 0,.agg #[.slice p4 n4 c4,.slice q4 m4 e4],.agg #[.slice pv nv cv',.slice qv' mv ev']] W fun e w'=>∃ v',e = .returned (.tuple #[v',.int .i64 E2])∧TRes w' W.heap.size v' A2.1 A2.2∧Below W.heap.size W w'):=fun W hW=>by
    have:=reach0_any p4 q4 pv qv' n4 c4 m4 e4 nv cv' mv ev' TB.1 TB.2 PB.1 PB.2 HTB.out.1.2.1 HTB.out.1.2.2 HTB.out.2.1.2.1 HTB.out.2.1.2.2 W (hs.nums.up hW) (hu.nums.up hW) (HUZ.out.1.up hW) (HUZ.out.2.up hW)
    rw [eE2] at this
    rw [← eA2]
    exact this
   have HA2:Hid (add2 TB PB=A2):=eA2
   obtain ⟨y0,_⟩:=box_cell (i:=0) hZb rfl
   obtain ⟨y1,_⟩:=box_cell (i:=1) hZb rfl
   have ky:=cell_lt y0
   have kc:=cell_lt c0
   clear hs hu eA2 eE2 gb2 eTB hbj sg2 hZb HZ1 HX4 XA XB HU4 HS4 HZO
   go_wp2_with fail
   refine relE [⟨9,133,TupP Z1.heap.size A2.1 A2.2 E2⟩,⟨10,123,TupP Z1.heap.size A2.1 A2.2 E2⟩,⟨11,134,OwnT Z1.heap.size A2.1 A2.2⟩] 14 142 (by kernel_rfl) rfl rfl 12 _ rfl (by decide) rfl (by kernel_rfl) (by kernel_rfl) (fun _ _ _ _ h=>h) (by rfl) ?_ ?_
   ·intro e he v W W' h hb
    simp only [List.mem_cons,List.not_mem_nil,or_false] at he
    rcases he with rfl|rfl|rfl
    ·exact TupP.up h hb
    ·exact TupP.up h hb
    ·exact OwnT.up h hb
   apply Exists.intro
   refine ⟨?yl2,?wk2,?pk2,?rest2⟩
   case wk2=>
    intro x
    simp only [List.take_succ_cons,List.take_zero]
    iterate 9
     refine relQuiet rfl rfl ?_
     apply Exists.intro
     refine ⟨fun F hF hf K hK=>?_,?_⟩
     ·have hFc:=hF.cell
      have hFf:=hF.frozen
      go_big_quiet_op
      first|exact hK|(apply Exists.intro;refine ⟨fun _=>?_,?_⟩;(· fail);exact hK)
     (try simp only [Act.put,List.setIfInBounds_toArray,List.set_cons_zero,List.set_cons_succ])
    refine relTold rfl rfl ?_ ?_
    ·intro F hF hf d
     have hFc:=hF.cell
     have hFf:=hF.frozen
     simp [yieldsR,yieldsUpon,go_sem]
     refine (cB.out (F d) (hF.below d)).mono ?_
     rintro e' w8 ⟨v8,rfl,h8,hb8⟩
     exact ⟨_,rfl,⟨v8,rfl,(h8.low (hF.below d).size).own⟩,hb8⟩
    (try simp only [Act.put,List.setIfInBounds_toArray,List.set_cons_zero,List.set_cons_succ])
    refine relTold rfl rfl ?_ ?_
    ·intro F hF hf d
     have hFc:=hF.cell
     have hFf:=hF.frozen
     have h9:=hf _ List.mem_cons_self (by rfl) d
     simp [yieldsR,yieldsUpon,go_sem]
     exact ⟨h9,Below.refl _ _⟩
    (try simp only [Act.put,List.setIfInBounds_toArray,List.set_cons_zero,List.set_cons_succ])
    refine relTold rfl rfl ?_ ?_
    ·intro F hF hf d
     have hFc:=hF.cell
     have hFf:=hF.frozen
     have h9:=hf _ (List.mem_cons_of_mem _ List.mem_cons_self) (by rfl) d
     obtain ⟨u9,e9,o9⟩:=h9
     simp only [] at e9
     simp [yieldsR,yieldsUpon,go_sem,e9]
     exact ⟨o9,Below.refl _ _⟩
    (try simp only [Act.put,List.setIfInBounds_toArray,List.set_cons_zero,List.set_cons_succ])
    refine relQuiet rfl rfl ?_
    apply Exists.intro
    refine ⟨fun F hF hf K hK=>?_,?_⟩
    ·have hFc:=hF.cell
     have hFf:=hF.frozen
     have h9:=hf _ (List.mem_cons_of_mem _ List.mem_cons_self) (by rfl)
     obtain ⟨u9,e9,_⟩:=h9 Z1
     simp only [] at e9
     go_big_quiet_op
     first|exact hK|(apply Exists.intro;refine ⟨fun _=>?_,?_⟩;(· fail);exact hK)
    (try simp only [Act.put,List.setIfInBounds_toArray,List.set_cons_zero,List.set_cons_succ])
    refine relQuiet rfl rfl ?_
    apply Exists.intro
    refine ⟨fun F hF hf K hK=>?_,?_⟩
    ·have hFc:=hF.cell
     have hFf:=hF.frozen
     go_big_quiet_op
     first|exact hK|(apply Exists.intro;refine ⟨fun _=>?_,?_⟩;(· fail);exact hK)
    (try simp only [Act.put,List.setIfInBounds_toArray,List.set_cons_zero,List.set_cons_succ])
    refine relEnd ?_
    exact rfl
   case pk2=>
    intro x
    simp only [putsK,List.foldl_cons,List.foldl_nil,Act.put,List.setIfInBounds_toArray,List.set_cons_zero,List.set_cons_succ]
   case yl2=>
    intro x hx
    obtain ⟨W9,u9,e9,_⟩:=hx _ (List.mem_cons_of_mem _ List.mem_cons_self) (by rfl)
    simp only [] at e9
    refine ⟨.int .i64 E2,fun t ht=>?_,.inl ⟨by rfl,fun w=>?_⟩⟩
    ·cases ht
     rfl
    ·simp [execOp,Act.eval,e9,go_sem]
   intro z2 xs hBz2 hf
   simp only [List.drop_succ_cons,List.drop_zero]
   obtain ⟨bp,bn,bc,bq,bm,be,ev,o1,o2⟩:=hf _ (List.mem_cons_of_mem _ (List.mem_cons_of_mem _ List.mem_cons_self))
   simp only [] at ev
   obtain ⟨x9_,e9_⟩:∃ q,xs 9=q:=⟨_,rfl⟩
   obtain ⟨x10_,e10_⟩:∃ q,xs 10=q:=⟨_,rfl⟩
   simp only [ev,e9_,e10_]
   have hSz:=HSZ.out.up hBz2
   have hwz:w.heap.size≤Z1.heap.size:=HBZ.out.size
   have HZ2:Hid (SwR (((z2.setCell ⟨gb,bi*2,none⟩ (.slice bp bn bc)).setCell ⟨gb,bi*2+1,none⟩ (.slice bq bm be)).setCell ⟨vb,bi,none⟩ (.bool true)) w.heap.size gb vb k (((swK ns r j).1.set ai A).set bi A2) (((swK ns r j).2.set ai true).set bi true)∧Below w.heap.size w (((z2.setCell ⟨gb,bi*2,none⟩ (.slice bp bn bc)).setCell ⟨gb,bi*2+1,none⟩ (.slice bq bm be)).setCell ⟨vb,bi,none⟩ (.bool true))∧But2 gb vb Z1 (((z2.setCell ⟨gb,bi*2,none⟩ (.slice bp bn bc)).setCell ⟨gb,bi*2+1,none⟩ (.slice bq bm be)).setCell ⟨vb,bi,none⟩ (.bool true))):=by
    have h:=(hSz.set hbk (o1.low hwz) (o2.low hwz)).mark bi
    have bs:=hSz.bs
    exact ⟨h,(((bstep HBZ.out hBz2).setCell (p:=⟨gb,bi*2,none⟩) bs.1 _).setCell (p:=⟨gb,bi*2+1,none⟩) bs.1 _).setCell (p:=⟨vb,bi,none⟩) bs.2 _,(((But2.of hBz2).set (.inl rfl)).set (.inl rfl)).set (.inr rfl)⟩
   obtain ⟨va,vc,i0,i1,i2,i3⟩:=hSz.cells hbk
   obtain ⟨v0,v1⟩:=hSz.flag hbk
   obtain ⟨xs9,hx9,_⟩:=hSz.hg
   have hne:gb≠vb:=kind_ne hx9 hSz.hv (by decide)
   have kg:=cell_lt i0
   have kv:=cell_lt v0
   have HK2:Hid (z2.heap[nb]?=some (.cells #[.int .i64 op,.int .i64 (ai:Int),.int .i64 (bi:Int),.int .i64 kk,.slice sp sn sc,.slice tp tn tc] 47 (0,0))):=(hBz2.block _ (heap_lt HZn.out)).trans HZn.out
   obtain ⟨⟨_,j1,j2,_,_,_⟩,_⟩:=box6 HK2.out
   have kj:=cell_lt j1
   clear l2 kl y0 y1 ky kc c0 c1
   clear hf ev e9_ e10_ o1 o2 hx9 hSz hwz
   go_upto_region 15 with fail
   generalize hZ:World.setCell _ _ _=Z2 at HZ2
   (try rw [hZ])
   clear hZ i0 i1 i2 i3 v0 v1 kg kv hne hBz2
   have HN:Hid (SwR Z2 w.heap.size gb vb k (swK ns r (j+1)).1 (swK ns r (j+1)).2):=by
    show SwR _ _ _ _ _ _ _
    have e2:swGive (swK ns r j) ai PA=((swK ns r j).1.set ai A,(swK ns r j).2.set ai true):=by
     unfold swGive
     rw [HTA.out.2.2.2.1,HA.out]
    have e3:=HTB.out.2.2.2
    rw [e2] at e3
    rw [HY.out,if_pos (by omega),e2,Int.toNat_natCast]
    unfold swGive
    rw [e3,HA2.out]
    exact HZ2.out.1
   have HB:Hid (Below w.heap.size w Z2):=HZ2.out.2.1
   clear HZ2 HZn HTA HTB HOB HY h2 HSZ HBZ HUZ j1 j2 kj HK2
   go_wp2
   go_roundg (r+1 - (j+1))
   case measure=>omega
   case rel=>exact ⟨j+1,by omega,rfl,by rw [← HIJ.out.2],HN,HB⟩
end Go.Proofs.YtpdkkcnmgiihcaaGreatDoor.Wd
