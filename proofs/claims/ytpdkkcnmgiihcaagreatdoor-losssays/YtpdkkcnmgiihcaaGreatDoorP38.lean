/- The reference's Loss. -/
import Derived.Test.YtpdkkcnmgiihcaaGreatDoorP18
import Derived.Test.YtpdkkcnmgiihcaaGreatDoorP37
set_option linter.unusedVariables false
set_option linter.unusedSimpArgs false
set_option maxHeartbeats 16000000
set_option maxRecDepth 16000
namespace Go.Proofs.YtpdkkcnmgiihcaaGreatDoor.Wd
open Go.RowKit Fx
theorem NodesG.stp {ns ns':List Nd} {s:Nd} (h:NodesG ns) (hx:RI s.X) (e:lsN ns s=ns'):NodesG ns':=by
 have:=h.ls hx
 rwa [e] at this
theorem rl_len (B tb:Nat) (ms:List Nd) (hG:NodesG ms) (o:Int) {n:Nat} {x:List Int} (hx:RwP n x) (ho:RwN ms o n x) (hl:ms.length≤512) (kind:Int) (hk:kind=1∨kind=2) (cl:Int) (p:Option Addr) (nw c:Nat) (y:List Int) (hy:y.length≠n) (w:World) (hT:Tap 41 47 w B tb ms) (h:Nums .i64 w (.slice p nw c) y):
  Calls Tryz.prog 17 #[.pointer (some ⟨tb,0,none⟩),.int .i64 kind,.int .i64 o,.slice p nw c,.int .i64 cl] w fun e w'=>e = .returned (.tuple #[.int .i64 0,.int .i64 1])∧Tap 41 47 w' B tb ms∧Below B w w'∧Only [41,47] w w':=by
 haveI:Nonempty World:=⟨w⟩
 have hTT:Hid (Tap 41 47 w B tb ms):=hT
 obtain ⟨pL,cL,xs0,hv,ho_,hn0,hnc⟩:=hT.head
 have hcell:=(head_cell hv).1
 have hz:=heap_lt hv
 obtain ⟨oi,rfl⟩:∃ oi:Nat,o=(oi:Int):=⟨o.toNat,by have:=ho.r;omega⟩
 have hoi:oi < ms.length:=by have:=ho.r;omega
 obtain ⟨q,nd,s_,t_,eq,hnd,_,_,_,_,d4,d5,hs,ht⟩:=node_cells ho_ hn0 rfl oi hoi
 subst eq
 have end_:=nd_at hnd
 have eD:nd.D = [(n:Int)]:=by rw [← end_];exact ho.D
 have eX:nd.X=x:=by rw [← end_];exact ho.X
 rw [eD] at hs
 rw [eX] at ht
 obtain ⟨dp,dn,dc,rfl,HD⟩:=hs.nums.lst
 obtain ⟨tp,tn,tc,rfl,HX⟩:=ht.nums.lst
 obtain rfl:1=dn:=HD.out.1
 obtain rfl:n=tn:=by rw [← hx.l];exact HX.out.1
 have HDN:Hid (Nums .i64 w (.slice dp 1 dc) [(n:Int)]):=hs.nums
 obtain ⟨dq,do_,edp,c0⟩:=HD.out.2 0 (by omega)
 subst edp
 have kd:=cell_lt d4
 have kc:=cell_lt c0
 obtain ⟨N,eN⟩:∃ N,ms.length=N:=⟨_,rfl⟩
 have hoi':(oi:Int) < (N:Int):=by omega
 have hN5:(N:Int)≤512:=by omega
 have hn':(n:Int)≤4096∧1≤(n:Int):=by have:=hx.h1;have:=hx.h2;omega
 rw [eN] at hcell
 obtain ⟨_,_,_,e4,HY⟩:=h.lst
 cases e4
 have hnw:((nw:Int) != (n:Int))=true:=by have:=HY.out.1;simp;omega
 have hk3:(kind != 3)=true:=by simp;omega
 clear HD HX HY hs ht h hT hv ho_ hn0 hnc hnd eD eX end_ hG ho hx hy hl hk HDN
 go_enter Tryz.func17,Tryz.ntmps17
 go_wp2
 go_ret2
 exact ⟨rfl,hTT.out,Below.refl _ _,Only.refl _ _⟩
theorem rl_class (B tb:Nat) (ms:List Nd) (hG:NodesG ms) (o:Int) {n:Nat} {x:List Int} (hx:RwP n x) (ho:RwN ms o n x) (hl:ms.length≤512) (cl:Int) (hc:¬ (0≤cl∧cl < (n:Int))) (p:Option Addr) (nw c:Nat) (y:List Int) (w:World) (hT:Tap 41 47 w B tb ms) (h:Nums .i64 w (.slice p nw c) y):
  Calls Tryz.prog 17 #[.pointer (some ⟨tb,0,none⟩),.int .i64 3,.int .i64 o,.slice p nw c,.int .i64 cl] w fun e w'=>e = .returned (.tuple #[.int .i64 0,.int .i64 4])∧Tap 41 47 w' B tb ms∧Below B w w'∧Only [41,47] w w':=by
 haveI:Nonempty World:=⟨w⟩
 have hTT:Hid (Tap 41 47 w B tb ms):=hT
 obtain ⟨pL,cL,xs0,hv,ho_,hn0,hnc⟩:=hT.head
 have hcell:=(head_cell hv).1
 have hz:=heap_lt hv
 obtain ⟨oi,rfl⟩:∃ oi:Nat,o=(oi:Int):=⟨o.toNat,by have:=ho.r;omega⟩
 have hoi:oi < ms.length:=by have:=ho.r;omega
 obtain ⟨q,nd,s_,t_,eq,hnd,_,_,_,_,d4,d5,hs,ht⟩:=node_cells ho_ hn0 rfl oi hoi
 subst eq
 have end_:=nd_at hnd
 have eD:nd.D = [(n:Int)]:=by rw [← end_];exact ho.D
 have eX:nd.X=x:=by rw [← end_];exact ho.X
 rw [eD] at hs
 rw [eX] at ht
 obtain ⟨dp,dn,dc,rfl,HD⟩:=hs.nums.lst
 obtain ⟨tp,tn,tc,rfl,HX⟩:=ht.nums.lst
 obtain rfl:1=dn:=HD.out.1
 obtain rfl:n=tn:=by rw [← hx.l];exact HX.out.1
 have HDN:Hid (Nums .i64 w (.slice dp 1 dc) [(n:Int)]):=hs.nums
 obtain ⟨dq,do_,edp,c0⟩:=HD.out.2 0 (by omega)
 subst edp
 have kd:=cell_lt d4
 have kc:=cell_lt c0
 obtain ⟨N,eN⟩:∃ N,ms.length=N:=⟨_,rfl⟩
 have hoi':(oi:Int) < (N:Int):=by omega
 have hN5:(N:Int)≤512:=by omega
 have hn':(n:Int)≤4096∧1≤(n:Int):=by have:=hx.h1;have:=hx.h2;omega
 rw [eN] at hcell
 clear HD HX hs ht h hT hv ho_ hn0 hnc hnd eD eX end_ hG ho hx hl HDN
 by_cases hc0:cl < 0
 ·clear hc
  go_enter Tryz.func17,Tryz.ntmps17
  go_wp2
  go_ret2
  exact ⟨rfl,hTT.out,Below.refl _ _,Only.refl _ _⟩
 ·have hc1:(n:Int)≤cl:=by omega
  have c1:w.cell? ⟨dq,do_+0,none⟩=some (.int .i64 (n:Int)):=c0
  rw [Nat.add_zero] at c1
  clear hc c0
  go_enter Tryz.func17,Tryz.ntmps17
  go_wp2
  go_ret2
  exact ⟨rfl,hTT.out,Below.refl _ _,Only.refl _ _⟩
theorem rl_sq (B tb:Nat) (ms:List Nd) (hG:NodesG ms) (o:Int) {n:Nat} {x y:List Int} (hf:Fit ms o n x y 4) (hyr:RI y) (cl:Int) (p:Option Addr) (nw c:Nat) (w:World) (hT:Tap 41 47 w B tb ms) (h:Nums .i64 w (.slice p nw c) y):
  Calls Tryz.prog 17 #[.pointer (some ⟨tb,0,none⟩),.int .i64 1,.int .i64 o,.slice p nw c,.int .i64 cl] w fun e w'=>e = .returned (.tuple #[.int .i64 ((ms.length:Int)+3),.int .i64 0])∧Tap 41 47 w' B tb (sq4 ms o n x y)∧Below B w w'∧Only [41,47] w w':=by
 haveI:Nonempty World:=⟨w⟩
 have hx:=hf.hx
 have ho:=hf.ho
 have hl:ms.length≤512:=by have:=hf.hl;omega
 have hTT:Hid (Tap 41 47 w B tb ms):=hT
 obtain ⟨pL,cL,xs0,hv,ho_,hn0,hnc⟩:=hT.head
 have hcell:=(head_cell hv).1
 have hz:=heap_lt hv
 obtain ⟨oi,rfl⟩:∃ oi:Nat,o=(oi:Int):=⟨o.toNat,by have:=ho.r;omega⟩
 have hoi:oi < ms.length:=by have:=ho.r;omega
 obtain ⟨q,nd,s_,t_,eq,hnd,_,_,_,_,d4,d5,hs,ht⟩:=node_cells ho_ hn0 rfl oi hoi
 subst eq
 have end_:=nd_at hnd
 have eD:nd.D = [(n:Int)]:=by rw [← end_];exact ho.D
 have eX:nd.X=x:=by rw [← end_];exact ho.X
 rw [eD] at hs
 rw [eX] at ht
 obtain ⟨dp,dn,dc,rfl,HD⟩:=hs.nums.lst
 obtain ⟨tp,tn,tc,rfl,HX⟩:=ht.nums.lst
 obtain rfl:1=dn:=HD.out.1
 obtain rfl:n=tn:=by rw [← hx.l];exact HX.out.1
 have HDN:Hid (Nums .i64 w (.slice dp 1 dc) [(n:Int)]):=hs.nums
 obtain ⟨dq,do_,edp,c0⟩:=HD.out.2 0 (by omega)
 subst edp
 have kd:=cell_lt d4
 have kc:=cell_lt c0
 obtain ⟨N,eN⟩:∃ N,ms.length=N:=⟨_,rfl⟩
 have hoi':(oi:Int) < (N:Int):=by omega
 have hN5:(N:Int)≤512:=by omega
 have hn':(n:Int)≤4096∧1≤(n:Int):=by have:=hx.h1;have:=hx.h2;omega
 rw [eN] at hcell
 obtain ⟨_,_,_,e4,HY⟩:=h.lst
 cases e4
 obtain rfl:n=nw:=by rw [← hf.hy.l];exact HY.out.1
 have HF:Hid (Fit ms (oi:Int) n x y 4∧NodesG ms∧RI y∧RI [(n:Int)]):=⟨hf,hG,hyr,fun z hz=>by simp at hz;subst hz;omega⟩
 have hl4:=hf.hl
 have f1:=go_leaf (ms:=ms) (by omega) hf.hy
 have f2:=go_sub (ms:=lf1 ms n y) (a:=(oi:Int)) (b:=(ms.length:Int)) (by rw [lf1_len];omega) hf.hx hf.hy (hf.ho.app _) (RwN.last _ _ _ _ _ _ _ rfl)
 have G1:NodesG (lf1 ms n y):=hG.stp (s:=lfS y) hyr f1.2.1
 have G2:NodesG (df2 ms (oi:Int) n x y):=G1.stp RI_nil f2.2.1
 have f3:=go_mul (ms:=df2 ms (oi:Int) n x y) (by rw [df2_len];omega) hf.dif hf.dif hf.dfN hf.dfN
 have G3:NodesG (sq3 ms (oi:Int) n x y):=G2.stp RI_nil f3.2.1
 have f4:=go_mean (b:=-1) (ms:=sq3 ms (oi:Int) n x y) (a:=(ms.length:Int)+2) (by rw [sq3_len];omega) hf.sq (RwN.last _ _ _ _ _ _ _ (by rw [df2_len];rfl))
 have HFF:Hid ((lsE (lf1 ms n y) (opS 3 (oi:Int) (ms.length:Int) 0)=0∧lsN (lf1 ms n y) (opS 3 (oi:Int) (ms.length:Int) 0)=df2 ms (oi:Int) n x y∧lsR (lf1 ms n y) (opS 3 (oi:Int) (ms.length:Int) 0)=(((lf1 ms n y).length:Nat):Int))∧(lsE (df2 ms (oi:Int) n x y) (opS 4 ((ms.length:Int)+1) ((ms.length:Int)+1) 0)=0∧lsN (df2 ms (oi:Int) n x y) (opS 4 ((ms.length:Int)+1) ((ms.length:Int)+1) 0)=sq3 ms (oi:Int) n x y∧lsR (df2 ms (oi:Int) n x y) (opS 4 ((ms.length:Int)+1) ((ms.length:Int)+1) 0)=(((df2 ms (oi:Int) n x y).length:Nat):Int))∧(lsE (sq3 ms (oi:Int) n x y) (opS 10 ((ms.length:Int)+2) (-1) 0)=0∧lsN (sq3 ms (oi:Int) n x y) (opS 10 ((ms.length:Int)+2) (-1) 0)=sq4 ms (oi:Int) n x y∧lsR (sq3 ms (oi:Int) n x y) (opS 10 ((ms.length:Int)+2) (-1) 0)=(((sq3 ms (oi:Int) n x y).length:Nat):Int))):=⟨f2,f3,f4⟩
 have HGG:Hid (NodesG (lf1 ms n y)∧NodesG (df2 ms (oi:Int) n x y)∧NodesG (sq3 ms (oi:Int) n x y)):=⟨G1,G2,G3⟩
 have cL:=rleaf_any B tb ms _ p 1 dc n c [(n:Int)] y HF.out.2.2.2 w hT HDN.out h
 rw [(leaf_ok (by omega) hf.hy.isP).1,(leaf_ok (by omega) hf.hy.isP).2.1,(leaf_ok (by omega) hf.hy.isP).2.2] at cL
 have CL:Hid (Calls Tryz.prog 16 #[.pointer (some ⟨tb,0,none⟩),.agg #[.slice (some ⟨dq,do_,none⟩) 1 dc,.slice p n c]] w fun e w'=>e = .returned (.tuple #[.int .i64 (ms.length:Int),.int .i64 0])∧Tap 41 47 w' B tb (lf1 ms n y)∧Below B w w'∧Only [41,47] w w'):=cL
 have hmL:0≤(ms.length:Int)∧(ms.length:Int)≤512:=by omega
 obtain ⟨N',eN'⟩:∃ z:Int,(ms.length:Int)=z:=⟨_,rfl⟩
 clear HD HX HY hs ht h hT hv ho_ hn0 hnc hnd eD eX end_ hG ho hx hl hf hyr f1 f2 f3 f4 G1 G2 G3 cL HDN hl4 eN eN'
 go_enter Tryz.func17,Tryz.ntmps17
 go_wp2_with fail
 refine CL.out.mono ?_
 rintro e w1 ⟨rfl,hT',hB',hO'⟩
 have H1:Hid (Tap 41 47 w1 B tb (lf1 ms n y)∧Below B w w1∧Only [41,47] w w1):=⟨hT',hB',hO'⟩
 clear hT' hB' hO' CL
 go_wp2_with fail
 have cc:=rdo_sp B tb (lf1 ms n y) HGG.out.1 3 (oi:Int) (ms.length:Int) 0 (fun _=>rk3) w1 H1.out.1 (by unfold InR;omega)
 have ff:=HFF.out.1
 rw [show doR (lf1 ms n y) 3 (oi:Int) (ms.length:Int) 0=_ from ff.2.2,show doE (lf1 ms n y) 3 (oi:Int) (ms.length:Int) 0=0 from ff.1,show doN (lf1 ms n y) 3 (oi:Int) (ms.length:Int) 0=(df2 ms (oi:Int) n x y) from ff.2.1] at cc
 rw [show ((((lf1 ms n y)).length:Nat):Int)=(ms.length:Int)+1 by rw [lf1_len];rfl] at cc
 refine cc.mono ?_
 rintro e w2 ⟨rfl,hT',hB',hO'⟩
 have H2:Hid (Tap 41 47 w2 B tb (df2 ms (oi:Int) n x y)∧Below B w w2∧Only [41,47] w w2):=⟨hT',H1.out.2.1.trans hB',H1.out.2.2.trans hO'⟩
 clear cc ff hT' hB' hO' H1
 go_wp2_with fail
 have cc:=rdo_sp B tb (df2 ms (oi:Int) n x y) HGG.out.2.1 4 ((ms.length:Int)+1) ((ms.length:Int)+1) 0 (fun _=>rk4) w2 H2.out.1 (by unfold InR;omega)
 have ff:=HFF.out.2.1
 rw [show doR (df2 ms (oi:Int) n x y) 4 ((ms.length:Int)+1) ((ms.length:Int)+1) 0=_ from ff.2.2,show doE (df2 ms (oi:Int) n x y) 4 ((ms.length:Int)+1) ((ms.length:Int)+1) 0=0 from ff.1,show doN (df2 ms (oi:Int) n x y) 4 ((ms.length:Int)+1) ((ms.length:Int)+1) 0=(sq3 ms (oi:Int) n x y) from ff.2.1] at cc
 rw [show ((((df2 ms (oi:Int) n x y)).length:Nat):Int)=(ms.length:Int)+2 by rw [df2_len];rfl] at cc
 refine cc.mono ?_
 rintro e w3 ⟨rfl,hT',hB',hO'⟩
 have H3:Hid (Tap 41 47 w3 B tb (sq3 ms (oi:Int) n x y)∧Below B w w3∧Only [41,47] w w3):=⟨hT',H2.out.2.1.trans hB',H2.out.2.2.trans hO'⟩
 clear cc ff hT' hB' hO' H2
 go_wp2_with fail
 have cc:=rdo_sp B tb (sq3 ms (oi:Int) n x y) HGG.out.2.2 10 ((ms.length:Int)+2) (-1) 0 (fun _=>rk10) w3 H3.out.1 (by unfold InR;omega)
 have ff:=HFF.out.2.2
 rw [show doR (sq3 ms (oi:Int) n x y) 10 ((ms.length:Int)+2) (-1) 0=_ from ff.2.2,show doE (sq3 ms (oi:Int) n x y) 10 ((ms.length:Int)+2) (-1) 0=0 from ff.1,show doN (sq3 ms (oi:Int) n x y) 10 ((ms.length:Int)+2) (-1) 0=(sq4 ms (oi:Int) n x y) from ff.2.1] at cc
 rw [show ((((sq3 ms (oi:Int) n x y)).length:Nat):Int)=(ms.length:Int)+3 by rw [sq3_len];rfl] at cc
 refine cc.mono ?_
 rintro e w4 ⟨rfl,hT',hB',hO'⟩
 have H4:Hid (Tap 41 47 w4 B tb (sq4 ms (oi:Int) n x y)∧Below B w w4∧Only [41,47] w w4):=⟨hT',H3.out.2.1.trans hB',H3.out.2.2.trans hO'⟩
 clear cc ff hT' hB' hO' H3
 go_wp2
 go_ret2
 exact ⟨rfl,H4.out⟩
theorem rl_sz (B tb:Nat) (ms:List Nd) (hG:NodesG ms) (o:Int) {n:Nat} {x y:List Int} (hf:Fit ms o n x y 4) (hyr:RI y) (cl:Int) (p:Option Addr) (nw c:Nat) (w:World) (hT:Tap 41 47 w B tb ms) (h:Nums .i64 w (.slice p nw c) y):
  Calls Tryz.prog 17 #[.pointer (some ⟨tb,0,none⟩),.int .i64 2,.int .i64 o,.slice p nw c,.int .i64 cl] w fun e w'=>e = .returned (.tuple #[.int .i64 ((ms.length:Int)+3),.int .i64 0])∧Tap 41 47 w' B tb (sz4 ms o n x y)∧Below B w w'∧Only [41,47] w w':=by
 haveI:Nonempty World:=⟨w⟩
 have hx:=hf.hx
 have ho:=hf.ho
 have hl:ms.length≤512:=by have:=hf.hl;omega
 have hTT:Hid (Tap 41 47 w B tb ms):=hT
 obtain ⟨pL,cL,xs0,hv,ho_,hn0,hnc⟩:=hT.head
 have hcell:=(head_cell hv).1
 have hz:=heap_lt hv
 obtain ⟨oi,rfl⟩:∃ oi:Nat,o=(oi:Int):=⟨o.toNat,by have:=ho.r;omega⟩
 have hoi:oi < ms.length:=by have:=ho.r;omega
 obtain ⟨q,nd,s_,t_,eq,hnd,_,_,_,_,d4,d5,hs,ht⟩:=node_cells ho_ hn0 rfl oi hoi
 subst eq
 have end_:=nd_at hnd
 have eD:nd.D = [(n:Int)]:=by rw [← end_];exact ho.D
 have eX:nd.X=x:=by rw [← end_];exact ho.X
 rw [eD] at hs
 rw [eX] at ht
 obtain ⟨dp,dn,dc,rfl,HD⟩:=hs.nums.lst
 obtain ⟨tp,tn,tc,rfl,HX⟩:=ht.nums.lst
 obtain rfl:1=dn:=HD.out.1
 obtain rfl:n=tn:=by rw [← hx.l];exact HX.out.1
 have HDN:Hid (Nums .i64 w (.slice dp 1 dc) [(n:Int)]):=hs.nums
 obtain ⟨dq,do_,edp,c0⟩:=HD.out.2 0 (by omega)
 subst edp
 have kd:=cell_lt d4
 have kc:=cell_lt c0
 obtain ⟨N,eN⟩:∃ N,ms.length=N:=⟨_,rfl⟩
 have hoi':(oi:Int) < (N:Int):=by omega
 have hN5:(N:Int)≤512:=by omega
 have hn':(n:Int)≤4096∧1≤(n:Int):=by have:=hx.h1;have:=hx.h2;omega
 rw [eN] at hcell
 obtain ⟨_,_,_,e4,HY⟩:=h.lst
 cases e4
 obtain rfl:n=nw:=by rw [← hf.hy.l];exact HY.out.1
 have HF:Hid (Fit ms (oi:Int) n x y 4∧NodesG ms∧RI y∧RI [(n:Int)]):=⟨hf,hG,hyr,fun z hz=>by simp at hz;subst hz;omega⟩
 have hl4:=hf.hl
 have f1:=go_leaf (ms:=ms) (by omega) hf.hy
 have f2:=go_sub (ms:=lf1 ms n y) (a:=(oi:Int)) (b:=(ms.length:Int)) (by rw [lf1_len];omega) hf.hx hf.hy (hf.ho.app _) (RwN.last _ _ _ _ _ _ _ rfl)
 have G1:NodesG (lf1 ms n y):=hG.stp (s:=lfS y) hyr f1.2.1
 have G2:NodesG (df2 ms (oi:Int) n x y):=G1.stp RI_nil f2.2.1
 have f3:=go_bend (b:=-1) (ms:=df2 ms (oi:Int) n x y) (by rw [df2_len];omega) hf.dif hf.dfN (k:=4) (by omega)
 have G3:NodesG (sz3 ms (oi:Int) n x y):=G2.stp RI_nil f3.2.1
 have f4:=go_mean (b:=-1) (ms:=sz3 ms (oi:Int) n x y) (a:=(ms.length:Int)+2) (by rw [sz3_len];omega) hf.sz (RwN.last _ _ _ _ _ _ _ (by rw [df2_len];rfl))
 have HFF:Hid ((lsE (lf1 ms n y) (opS 3 (oi:Int) (ms.length:Int) 0)=0∧lsN (lf1 ms n y) (opS 3 (oi:Int) (ms.length:Int) 0)=df2 ms (oi:Int) n x y∧lsR (lf1 ms n y) (opS 3 (oi:Int) (ms.length:Int) 0)=(((lf1 ms n y).length:Nat):Int))∧(lsE (df2 ms (oi:Int) n x y) (opS 11 ((ms.length:Int)+1) (-1) 4)=0∧lsN (df2 ms (oi:Int) n x y) (opS 11 ((ms.length:Int)+1) (-1) 4)=sz3 ms (oi:Int) n x y∧lsR (df2 ms (oi:Int) n x y) (opS 11 ((ms.length:Int)+1) (-1) 4)=(((df2 ms (oi:Int) n x y).length:Nat):Int))∧(lsE (sz3 ms (oi:Int) n x y) (opS 10 ((ms.length:Int)+2) (-1) 0)=0∧lsN (sz3 ms (oi:Int) n x y) (opS 10 ((ms.length:Int)+2) (-1) 0)=sz4 ms (oi:Int) n x y∧lsR (sz3 ms (oi:Int) n x y) (opS 10 ((ms.length:Int)+2) (-1) 0)=(((sz3 ms (oi:Int) n x y).length:Nat):Int))):=⟨f2,f3,f4⟩
 have HGG:Hid (NodesG (lf1 ms n y)∧NodesG (df2 ms (oi:Int) n x y)∧NodesG (sz3 ms (oi:Int) n x y)):=⟨G1,G2,G3⟩
 have cL:=rleaf_any B tb ms _ p 1 dc n c [(n:Int)] y HF.out.2.2.2 w hT HDN.out h
 rw [(leaf_ok (by omega) hf.hy.isP).1,(leaf_ok (by omega) hf.hy.isP).2.1,(leaf_ok (by omega) hf.hy.isP).2.2] at cL
 have CL:Hid (Calls Tryz.prog 16 #[.pointer (some ⟨tb,0,none⟩),.agg #[.slice (some ⟨dq,do_,none⟩) 1 dc,.slice p n c]] w fun e w'=>e = .returned (.tuple #[.int .i64 (ms.length:Int),.int .i64 0])∧Tap 41 47 w' B tb (lf1 ms n y)∧Below B w w'∧Only [41,47] w w'):=cL
 have hmL:0≤(ms.length:Int)∧(ms.length:Int)≤512:=by omega
 obtain ⟨N',eN'⟩:∃ z:Int,(ms.length:Int)=z:=⟨_,rfl⟩
 clear HD HX HY hs ht h hT hv ho_ hn0 hnc hnd eD eX end_ hG ho hx hl hf hyr f1 f2 f3 f4 G1 G2 G3 cL HDN hl4 eN eN'
 go_enter Tryz.func17,Tryz.ntmps17
 go_wp2_with fail
 refine CL.out.mono ?_
 rintro e w1 ⟨rfl,hT',hB',hO'⟩
 have H1:Hid (Tap 41 47 w1 B tb (lf1 ms n y)∧Below B w w1∧Only [41,47] w w1):=⟨hT',hB',hO'⟩
 clear hT' hB' hO' CL
 go_wp2_with fail
 have cc:=rdo_sp B tb (lf1 ms n y) HGG.out.1 3 (oi:Int) (ms.length:Int) 0 (fun _=>rk3) w1 H1.out.1 (by unfold InR;omega)
 have ff:=HFF.out.1
 rw [show doR (lf1 ms n y) 3 (oi:Int) (ms.length:Int) 0=_ from ff.2.2,show doE (lf1 ms n y) 3 (oi:Int) (ms.length:Int) 0=0 from ff.1,show doN (lf1 ms n y) 3 (oi:Int) (ms.length:Int) 0=(df2 ms (oi:Int) n x y) from ff.2.1] at cc
 rw [show ((((lf1 ms n y)).length:Nat):Int)=(ms.length:Int)+1 by rw [lf1_len];rfl] at cc
 refine cc.mono ?_
 rintro e w2 ⟨rfl,hT',hB',hO'⟩
 have H2:Hid (Tap 41 47 w2 B tb (df2 ms (oi:Int) n x y)∧Below B w w2∧Only [41,47] w w2):=⟨hT',H1.out.2.1.trans hB',H1.out.2.2.trans hO'⟩
 clear cc ff hT' hB' hO' H1
 go_wp2_with fail
 have cc:=rdo_sp B tb (df2 ms (oi:Int) n x y) HGG.out.2.1 11 ((ms.length:Int)+1) (-1) 4 (fun _=>rk11) w2 H2.out.1 (by unfold InR;omega)
 have ff:=HFF.out.2.1
 rw [show doR (df2 ms (oi:Int) n x y) 11 ((ms.length:Int)+1) (-1) 4=_ from ff.2.2,show doE (df2 ms (oi:Int) n x y) 11 ((ms.length:Int)+1) (-1) 4=0 from ff.1,show doN (df2 ms (oi:Int) n x y) 11 ((ms.length:Int)+1) (-1) 4=(sz3 ms (oi:Int) n x y) from ff.2.1] at cc
 rw [show ((((df2 ms (oi:Int) n x y)).length:Nat):Int)=(ms.length:Int)+2 by rw [df2_len];rfl] at cc
 refine cc.mono ?_
 rintro e w3 ⟨rfl,hT',hB',hO'⟩
 have H3:Hid (Tap 41 47 w3 B tb (sz3 ms (oi:Int) n x y)∧Below B w w3∧Only [41,47] w w3):=⟨hT',H2.out.2.1.trans hB',H2.out.2.2.trans hO'⟩
 clear cc ff hT' hB' hO' H2
 go_wp2_with fail
 have cc:=rdo_sp B tb (sz3 ms (oi:Int) n x y) HGG.out.2.2 10 ((ms.length:Int)+2) (-1) 0 (fun _=>rk10) w3 H3.out.1 (by unfold InR;omega)
 have ff:=HFF.out.2.2
 rw [show doR (sz3 ms (oi:Int) n x y) 10 ((ms.length:Int)+2) (-1) 0=_ from ff.2.2,show doE (sz3 ms (oi:Int) n x y) 10 ((ms.length:Int)+2) (-1) 0=0 from ff.1,show doN (sz3 ms (oi:Int) n x y) 10 ((ms.length:Int)+2) (-1) 0=(sz4 ms (oi:Int) n x y) from ff.2.1] at cc
 rw [show ((((sz3 ms (oi:Int) n x y)).length:Nat):Int)=(ms.length:Int)+3 by rw [sz3_len];rfl] at cc
 refine cc.mono ?_
 rintro e w4 ⟨rfl,hT',hB',hO'⟩
 have H4:Hid (Tap 41 47 w4 B tb (sz4 ms (oi:Int) n x y)∧Below B w w4∧Only [41,47] w w4):=⟨hT',H3.out.2.1.trans hB',H3.out.2.2.trans hO'⟩
 clear cc ff hT' hB' hO' H3
 go_wp2
 go_ret2
 exact ⟨rfl,H4.out⟩
end Go.Proofs.YtpdkkcnmgiihcaaGreatDoor.Wd
