/- The reference's Loss, of a class. · What both losses come to over a row alone on its tape. · The law's row and awake: it tells true. · The code's One. · Tensors of one shape: a fold to it, a sum with noughts, a product with ones leave them as they are. -/
import Derived.Test.YtpdkkcnmgiihcaaGreatDoorP38
import Derived.Deep.CutBlock
import Derived.Test.YtpdkkcnmgiihcaaGreatDoorP18
import Derived.Test.YtpdkkcnmgiihcaaGreatDoorP35
import Derived.Test.YtpdkkcnmgiihcaaGreatDoorP25
import Derived.Test.YtpdkkcnmgiihcaaGreatDoorP20
set_option linter.unusedVariables false
set_option linter.unusedSimpArgs false
set_option maxHeartbeats 16000000
set_option maxRecDepth 16000
namespace Go.Proofs.YtpdkkcnmgiihcaaGreatDoor.Wd
open Go.RowKit Fx
theorem hg_st {ms:List Nd} {o:Int} {n:Nat} {c:Int} {x:List Int} (hx:RwP n x) (ho:RwN ms o n x) (hl:ms.length+9≤512):(lsE ms (lfS (hgA n c))=0∧lsN ms (lfS (hgA n c))=(ms++[⟨1,-1,-1,0,[(n:Int)],hgA n c⟩])∧lsR ms (lfS (hgA n c))=(ms.length:Int)+0)∧(lsE (ms++[⟨1,-1,-1,0,[(n:Int)],hgA n c⟩]) (lfS (hgB n c))=0∧lsN (ms++[⟨1,-1,-1,0,[(n:Int)],hgA n c⟩]) (lfS (hgB n c))=(hg2 ms n c)∧lsR (ms++[⟨1,-1,-1,0,[(n:Int)],hgA n c⟩]) (lfS (hgB n c))=(ms.length:Int)+1)∧(lsE (hg2 ms n c) (opS 4 o (ms.length:Int) 0)=0∧lsN (hg2 ms n c) (opS 4 o (ms.length:Int) 0)=(hg2 ms n c++[⟨4,o,(ms.length:Int),0,[(n:Int)],mp2 Fx.mulI x (hgA n c)⟩])∧lsR (hg2 ms n c) (opS 4 o (ms.length:Int) 0)=(ms.length:Int)+2)∧(lsE (hg2 ms n c++[⟨4,o,(ms.length:Int),0,[(n:Int)],mp2 Fx.mulI x (hgA n c)⟩]) (opS 9 ((ms.length:Int)+2) (-1) 0)=0∧lsN (hg2 ms n c++[⟨4,o,(ms.length:Int),0,[(n:Int)],mp2 Fx.mulI x (hgA n c)⟩]) (opS 9 ((ms.length:Int)+2) (-1) 0)=(hg4 ms o n c x)∧lsR (hg2 ms n c++[⟨4,o,(ms.length:Int),0,[(n:Int)],mp2 Fx.mulI x (hgA n c)⟩]) (opS 9 ((ms.length:Int)+2) (-1) 0)=(ms.length:Int)+3)∧(lsE (hg4 ms o n c x) (opS 2 o ((ms.length:Int)+3) 0)=0∧lsN (hg4 ms o n c x) (opS 2 o ((ms.length:Int)+3) 0)=(hg4 ms o n c x++[⟨2,o,(ms.length:Int)+3,0,[(n:Int)],h5V n c x⟩])∧lsR (hg4 ms o n c x) (opS 2 o ((ms.length:Int)+3) 0)=(ms.length:Int)+4)∧(lsE (hg4 ms o n c x++[⟨2,o,(ms.length:Int)+3,0,[(n:Int)],h5V n c x⟩]) (opS 2 ((ms.length:Int)+4) ((ms.length:Int)+1) 0)=0∧lsN (hg4 ms o n c x++[⟨2,o,(ms.length:Int)+3,0,[(n:Int)],h5V n c x⟩]) (opS 2 ((ms.length:Int)+4) ((ms.length:Int)+1) 0)=(hg6 ms o n c x)∧lsR (hg4 ms o n c x++[⟨2,o,(ms.length:Int)+3,0,[(n:Int)],h5V n c x⟩]) (opS 2 ((ms.length:Int)+4) ((ms.length:Int)+1) 0)=(ms.length:Int)+5)∧(lsE (hg6 ms o n c x) (opS 11 ((ms.length:Int)+5) (-1) 1)=0∧lsN (hg6 ms o n c x) (opS 11 ((ms.length:Int)+5) (-1) 1)=(hg6 ms o n c x++[⟨11,(ms.length:Int)+5,-1,1,[(n:Int)],h7V n c x⟩])∧lsR (hg6 ms o n c x) (opS 11 ((ms.length:Int)+5) (-1) 1)=(ms.length:Int)+6)∧(lsE (hg6 ms o n c x++[⟨11,(ms.length:Int)+5,-1,1,[(n:Int)],h7V n c x⟩]) (opS 4 ((ms.length:Int)+6) ((ms.length:Int)+1) 0)=0∧lsN (hg6 ms o n c x++[⟨11,(ms.length:Int)+5,-1,1,[(n:Int)],h7V n c x⟩]) (opS 4 ((ms.length:Int)+6) ((ms.length:Int)+1) 0)=(hg8 ms o n c x)∧lsR (hg6 ms o n c x++[⟨11,(ms.length:Int)+5,-1,1,[(n:Int)],h7V n c x⟩]) (opS 4 ((ms.length:Int)+6) ((ms.length:Int)+1) 0)=(ms.length:Int)+7)∧(lsE (hg8 ms o n c x) (opS 9 ((ms.length:Int)+7) (-1) 0)=0∧lsN (hg8 ms o n c x) (opS 9 ((ms.length:Int)+7) (-1) 0)=(hg9 ms o n c x)∧lsR (hg8 ms o n c x) (opS 9 ((ms.length:Int)+7) (-1) 0)=(ms.length:Int)+8):=by
 have ra:RwP n (hgA n c):=⟨but_len _ _ _ _,hx.h1,hx.h2⟩
 have rb:RwP n (hgB n c):=⟨but_len _ _ _ _,hx.h1,hx.h2⟩
 have r5:RwP n (h5V n c x):=hx.map _
 have r6:RwP n (h6V n c x):=r5.map2 _
 have r7:RwP n (h7V n c x):=r6.map _
 have r8:RwP n (h8V n c x):=r7.map2 _
 have e1:=go_leaf (ms:=ms) (by omega) ra
 have e2:=go_leaf (ms:=ms++[⟨1,-1,-1,0,[(n:Int)],hgA n c⟩]) (by rw [len_app];omega) rb
 have nA:RwN (hg2 ms n c) (ms.length:Int) n (hgA n c):=(RwN.last ms _ _ _ _ n _ rfl).app _
 have nB:RwN (hg2 ms n c) ((ms.length:Int)+1) n (hgB n c):=RwN.last _ _ _ _ _ _ _ (by rw [len_app];rfl)
 have n0:RwN (hg2 ms n c) o n x:=(ho.app _).app _
 have e3:=go_mul (ms:=hg2 ms n c) (by rw [hg2_len];omega) hx ra n0 nA
 have e4:=go_all (b:=-1) (ms:=hg2 ms n c++[⟨4,o,(ms.length:Int),0,[(n:Int)],mp2 Fx.mulI x (hgA n c)⟩]) (a:=(ms.length:Int)+2) (by rw [len_app,hg2_len];omega) (hx.map2 _) (RwN.last _ _ _ _ _ _ _ (by rw [hg2_len];rfl))
 have n4:RwN (hg4 ms o n c x) o n x:=(n0.app _).app _
 have nB4:RwN (hg4 ms o n c x) ((ms.length:Int)+1) n (hgB n c):=(nB.app _).app _
 have l3:(hg2 ms n c++[(⟨4,o,(ms.length:Int),0,[(n:Int)],mp2 Fx.mulI x (hgA n c)⟩:Nd)]).length=ms.length+3:=by rw [len_app,hg2_len]
 have q4:ndN (hg4 ms o n c x) ((ms.length:Int)+3)=⟨9,(ms.length:Int)+2,-1,0,[],[hgT n c x]⟩:=by
  have:=nd_last (hg2 ms n c++[⟨4,o,(ms.length:Int),0,[(n:Int)],mp2 Fx.mulI x (hgA n c)⟩]) ⟨9,(ms.length:Int)+2,-1,0,[],[hgT n c x]⟩
  rw [l3] at this
  exact this
 have e5:=go_add0 (ms:=hg4 ms o n c x) (b:=(ms.length:Int)+3) (s:=hgT n c x) (by rw [hg4_len];omega) hx n4 ⟨by omega,by rw [hg4_len];omega⟩ (by rw [q4]) (by rw [q4])
 have e6:=go_add (ms:=hg4 ms o n c x++[⟨2,o,(ms.length:Int)+3,0,[(n:Int)],h5V n c x⟩]) (a:=(ms.length:Int)+4) (b:=(ms.length:Int)+1) (by rw [len_app,hg4_len];omega) r5 rb (RwN.last _ _ _ _ _ _ _ (by rw [hg4_len];rfl)) (nB4.app _)
 have nB6:RwN (hg6 ms o n c x) ((ms.length:Int)+1) n (hgB n c):=(nB4.app _).app _
 have e7:=go_bend (b:=-1) (ms:=hg6 ms o n c x) (a:=(ms.length:Int)+5) (by rw [hg6_len];omega) r6 (RwN.last _ _ _ _ _ _ _ (by rw [len_app,hg4_len];rfl)) (k:=1) (by omega)
 have e8:=go_mul (ms:=hg6 ms o n c x++[⟨11,(ms.length:Int)+5,-1,1,[(n:Int)],h7V n c x⟩]) (a:=(ms.length:Int)+6) (b:=(ms.length:Int)+1) (by rw [len_app,hg6_len];omega) r7 rb (RwN.last _ _ _ _ _ _ _ (by rw [hg6_len];rfl)) (nB6.app _)
 have e9:=go_all (b:=-1) (ms:=hg8 ms o n c x) (a:=(ms.length:Int)+7) (by rw [hg8_len];omega) r8 (RwN.last _ _ _ _ _ _ _ (by rw [len_app,hg6_len];rfl))
 exact ⟨⟨e1.1,e1.2.1,e1.2.2.trans (by omega)⟩,⟨e2.1,e2.2.1,e2.2.2.trans (by rw [len_app];rfl)⟩,⟨e3.1,e3.2.1,e3.2.2.trans (by rw [hg2_len];rfl)⟩,⟨e4.1,e4.2.1,e4.2.2.trans (by rw [len_app,hg2_len];rfl)⟩,⟨e5.1,e5.2.1,e5.2.2.trans (by rw [hg4_len];rfl)⟩,⟨e6.1,e6.2.1,e6.2.2.trans (by rw [len_app,hg4_len];rfl)⟩,⟨e7.1,e7.2.1,e7.2.2.trans (by rw [hg6_len];rfl)⟩,⟨e8.1,e8.2.1,e8.2.2.trans (by rw [len_app,hg6_len];rfl)⟩,e9.1,e9.2.1,e9.2.2.trans (by rw [hg8_len];rfl)⟩
theorem rl_hg (B tb:Nat) (ms:List Nd) (hG:NodesG ms) (o:Int) {n:Nat} {x:List Int} (hx:RwP n x) (ho:RwN ms o n x) (hl9:ms.length+9≤512) (cl:Int) (hc:0≤cl∧cl < (n:Int)) (p:Option Addr) (nw c:Nat) (y:List Int) (w:World) (hT:Tap 41 47 w B tb ms) (h:Nums .i64 w (.slice p nw c) y):
  Calls Tryz.prog 17 #[.pointer (some ⟨tb,0,none⟩),.int .i64 3,.int .i64 o,.slice p nw c,.int .i64 cl] w fun e w'=>e = .returned (.tuple #[.int .i64 ((ms.length:Int)+8),.int .i64 0])∧Tap 41 47 w' B tb (hg9 ms o n cl x)∧Below B w w'∧Only [41,47] w w':=by
 haveI:Nonempty World:=⟨w⟩
 have hl:ms.length≤512:=by omega
 have hTT:Hid (Tap 41 47 w B tb ms):=hT
 obtain ⟨pL,cL,xs0,hv,ho_,hn0,hnc⟩:=hT.head
 have hcell:=(head_cell hv).1
 have hz:=heap_lt hv
 obtain ⟨oi,rfl⟩:∃ oi:Nat,o=(oi:Int):=⟨o.toNat,by have:=ho.r;omega⟩
 have hoi:oi < ms.length:=by have:=ho.r;omega
 obtain ⟨q,nd,s_,t_,eq,hnd,_,_,_,_,d4,d5,hs,ht⟩:=node_cells ho_ hn0 rfl oi hoi
 subst eq
 have end_:=nd_at hnd
 have eD:nd.D = [(n:Int)]:=by rw [← end_];exact ho.D
 have eX:nd.X=x:=by rw [← end_];exact ho.X
 rw [eD] at hs
 rw [eX] at ht
 obtain ⟨dp,dn,dc,rfl,HD⟩:=hs.nums.lst
 obtain ⟨tp,tn,tc,rfl,HX⟩:=ht.nums.lst
 obtain rfl:1=dn:=HD.out.1
 obtain rfl:n=tn:=by rw [← hx.l];exact HX.out.1
 have HDN:Hid (Nums .i64 w (.slice dp 1 dc) [(n:Int)]):=hs.nums
 obtain ⟨dq,do_,edp,c0⟩:=HD.out.2 0 (by omega)
 subst edp
 have kd:=cell_lt d4
 have kc:=cell_lt c0
 obtain ⟨N,eN⟩:∃ N,ms.length=N:=⟨_,rfl⟩
 have hoi':(oi:Int) < (N:Int):=by omega
 have hN5:(N:Int)≤512:=by omega
 have hn':(n:Int)≤4096∧1≤(n:Int):=by have:=hx.h1;have:=hx.h2;omega
 rw [eN] at hcell
 obtain ⟨ci,rfl⟩:∃ ci:Nat,cl=(ci:Int):=⟨cl.toNat,by omega⟩
 have hci:ci < n:=by omega
 have hci':(ci:Int) < (n:Int):=by omega
 have ff:=hg_st (c:=(ci:Int)) hx ho hl9
 have HFF:Hid ((lsE ms (lfS (hgA n (ci:Int)))=0∧lsN ms (lfS (hgA n (ci:Int)))=(ms++[⟨1,-1,-1,0,[(n:Int)],hgA n (ci:Int)⟩])∧lsR ms (lfS (hgA n (ci:Int)))=(ms.length:Int)+0)∧(lsE (ms++[⟨1,-1,-1,0,[(n:Int)],hgA n (ci:Int)⟩]) (lfS (hgB n (ci:Int)))=0∧lsN (ms++[⟨1,-1,-1,0,[(n:Int)],hgA n (ci:Int)⟩]) (lfS (hgB n (ci:Int)))=(hg2 ms n (ci:Int))∧lsR (ms++[⟨1,-1,-1,0,[(n:Int)],hgA n (ci:Int)⟩]) (lfS (hgB n (ci:Int)))=(ms.length:Int)+1)∧(lsE (hg2 ms n (ci:Int)) (opS 4 (oi:Int) (ms.length:Int) 0)=0∧lsN (hg2 ms n (ci:Int)) (opS 4 (oi:Int) (ms.length:Int) 0)=(hg2 ms n (ci:Int)++[⟨4,(oi:Int),(ms.length:Int),0,[(n:Int)],mp2 Fx.mulI x (hgA n (ci:Int))⟩])∧lsR (hg2 ms n (ci:Int)) (opS 4 (oi:Int) (ms.length:Int) 0)=(ms.length:Int)+2)∧(lsE (hg2 ms n (ci:Int)++[⟨4,(oi:Int),(ms.length:Int),0,[(n:Int)],mp2 Fx.mulI x (hgA n (ci:Int))⟩]) (opS 9 ((ms.length:Int)+2) (-1) 0)=0∧lsN (hg2 ms n (ci:Int)++[⟨4,(oi:Int),(ms.length:Int),0,[(n:Int)],mp2 Fx.mulI x (hgA n (ci:Int))⟩]) (opS 9 ((ms.length:Int)+2) (-1) 0)=(hg4 ms (oi:Int) n (ci:Int) x)∧lsR (hg2 ms n (ci:Int)++[⟨4,(oi:Int),(ms.length:Int),0,[(n:Int)],mp2 Fx.mulI x (hgA n (ci:Int))⟩]) (opS 9 ((ms.length:Int)+2) (-1) 0)=(ms.length:Int)+3)∧(lsE (hg4 ms (oi:Int) n (ci:Int) x) (opS 2 (oi:Int) ((ms.length:Int)+3) 0)=0∧lsN (hg4 ms (oi:Int) n (ci:Int) x) (opS 2 (oi:Int) ((ms.length:Int)+3) 0)=(hg4 ms (oi:Int) n (ci:Int) x++[⟨2,(oi:Int),(ms.length:Int)+3,0,[(n:Int)],h5V n (ci:Int) x⟩])∧lsR (hg4 ms (oi:Int) n (ci:Int) x) (opS 2 (oi:Int) ((ms.length:Int)+3) 0)=(ms.length:Int)+4)∧(lsE (hg4 ms (oi:Int) n (ci:Int) x++[⟨2,(oi:Int),(ms.length:Int)+3,0,[(n:Int)],h5V n (ci:Int) x⟩]) (opS 2 ((ms.length:Int)+4) ((ms.length:Int)+1) 0)=0∧lsN (hg4 ms (oi:Int) n (ci:Int) x++[⟨2,(oi:Int),(ms.length:Int)+3,0,[(n:Int)],h5V n (ci:Int) x⟩]) (opS 2 ((ms.length:Int)+4) ((ms.length:Int)+1) 0)=(hg6 ms (oi:Int) n (ci:Int) x)∧lsR (hg4 ms (oi:Int) n (ci:Int) x++[⟨2,(oi:Int),(ms.length:Int)+3,0,[(n:Int)],h5V n (ci:Int) x⟩]) (opS 2 ((ms.length:Int)+4) ((ms.length:Int)+1) 0)=(ms.length:Int)+5)∧(lsE (hg6 ms (oi:Int) n (ci:Int) x) (opS 11 ((ms.length:Int)+5) (-1) 1)=0∧lsN (hg6 ms (oi:Int) n (ci:Int) x) (opS 11 ((ms.length:Int)+5) (-1) 1)=(hg6 ms (oi:Int) n (ci:Int) x++[⟨11,(ms.length:Int)+5,-1,1,[(n:Int)],h7V n (ci:Int) x⟩])∧lsR (hg6 ms (oi:Int) n (ci:Int) x) (opS 11 ((ms.length:Int)+5) (-1) 1)=(ms.length:Int)+6)∧(lsE (hg6 ms (oi:Int) n (ci:Int) x++[⟨11,(ms.length:Int)+5,-1,1,[(n:Int)],h7V n (ci:Int) x⟩]) (opS 4 ((ms.length:Int)+6) ((ms.length:Int)+1) 0)=0∧lsN (hg6 ms (oi:Int) n (ci:Int) x++[⟨11,(ms.length:Int)+5,-1,1,[(n:Int)],h7V n (ci:Int) x⟩]) (opS 4 ((ms.length:Int)+6) ((ms.length:Int)+1) 0)=(hg8 ms (oi:Int) n (ci:Int) x)∧lsR (hg6 ms (oi:Int) n (ci:Int) x++[⟨11,(ms.length:Int)+5,-1,1,[(n:Int)],h7V n (ci:Int) x⟩]) (opS 4 ((ms.length:Int)+6) ((ms.length:Int)+1) 0)=(ms.length:Int)+7)∧(lsE (hg8 ms (oi:Int) n (ci:Int) x) (opS 9 ((ms.length:Int)+7) (-1) 0)=0∧lsN (hg8 ms (oi:Int) n (ci:Int) x) (opS 9 ((ms.length:Int)+7) (-1) 0)=(hg9 ms (oi:Int) n (ci:Int) x)∧lsR (hg8 ms (oi:Int) n (ci:Int) x) (opS 9 ((ms.length:Int)+7) (-1) 0)=(ms.length:Int)+8)):=ff
 have G1:NodesG (ms++[⟨1,-1,-1,0,[(n:Int)],hgA n (ci:Int)⟩]):=hG.stp (s:=lfS (hgA n (ci:Int))) (RI_butV (by unfold InR;omega) (by unfold InR;omega)) ff.1.2.1
 have G2:NodesG (hg2 ms n (ci:Int)):=G1.stp (s:=lfS (hgB n (ci:Int))) (RI_butV (by unfold InR;omega) (by unfold InR;omega)) ff.2.1.2.1
 have G3:NodesG (hg2 ms n (ci:Int)++[⟨4,(oi:Int),(ms.length:Int),0,[(n:Int)],mp2 Fx.mulI x (hgA n (ci:Int))⟩]):=G2.stp RI_nil ff.2.2.1.2.1
 have G4:NodesG (hg4 ms (oi:Int) n (ci:Int) x):=G3.stp RI_nil ff.2.2.2.1.2.1
 have G5:NodesG (hg4 ms (oi:Int) n (ci:Int) x++[⟨2,(oi:Int),(ms.length:Int)+3,0,[(n:Int)],h5V n (ci:Int) x⟩]):=G4.stp RI_nil ff.2.2.2.2.1.2.1
 have G6:NodesG (hg6 ms (oi:Int) n (ci:Int) x):=G5.stp RI_nil ff.2.2.2.2.2.1.2.1
 have G7:NodesG (hg6 ms (oi:Int) n (ci:Int) x++[⟨11,(ms.length:Int)+5,-1,1,[(n:Int)],h7V n (ci:Int) x⟩]):=G6.stp RI_nil ff.2.2.2.2.2.2.1.2.1
 have G8:NodesG (hg8 ms (oi:Int) n (ci:Int) x):=G7.stp RI_nil ff.2.2.2.2.2.2.2.1.2.1
 have HGG:Hid (NodesG ms∧NodesG (ms++[⟨1,-1,-1,0,[(n:Int)],hgA n (ci:Int)⟩])∧NodesG (hg2 ms n (ci:Int))∧NodesG (hg2 ms n (ci:Int)++[⟨4,(oi:Int),(ms.length:Int),0,[(n:Int)],mp2 Fx.mulI x (hgA n (ci:Int))⟩])∧NodesG (hg4 ms (oi:Int) n (ci:Int) x)∧NodesG (hg4 ms (oi:Int) n (ci:Int) x++[⟨2,(oi:Int),(ms.length:Int)+3,0,[(n:Int)],h5V n (ci:Int) x⟩])∧NodesG (hg6 ms (oi:Int) n (ci:Int) x)∧NodesG (hg6 ms (oi:Int) n (ci:Int) x++[⟨11,(ms.length:Int)+5,-1,1,[(n:Int)],h7V n (ci:Int) x⟩])∧NodesG (hg8 ms (oi:Int) n (ci:Int) x)):=⟨hG,G1,G2,G3,G4,G5,G6,G7,G8⟩
 have hg1:goodN (ntl [(n:Int)]):=hx.isP.1
 have hpn:prodN (ntl [(n:Int)])=n:=by rw [← hx.isP.2,hx.l]
 have hrn:RI [(n:Int)]:=fun z hz=>by simp at hz;subst hz;omega
 have cN:Hid (∀ X W,Nums .i64 W (.slice (some ⟨dq,do_,none⟩) 1 dc) [(n:Int)]→Calls Tryz.prog 23 #[.slice (some ⟨dq,do_,none⟩) 1 dc,.int .i64 X] W fun e w'=>∃ v',e = .returned v'∧TNew w' W.heap.size v' [(n:Int)] n (List.replicate n X)∧Below W.heap.size W w'):=fun X W hW=>by
  have:=rnew_any _ [(n:Int)] hrn hg1 X W hW
  rw [hpn] at this
  exact this
 have HPA:Hid (isP [(n:Int)] (hgA n (ci:Int))∧isP [(n:Int)] (hgB n (ci:Int))∧RI [(n:Int)]∧ms.length+9≤512):=⟨(⟨but_len _ _ _ _,hx.h1,hx.h2⟩:RwP n (hgA n (ci:Int))).isP,(⟨but_len _ _ _ _,hx.h1,hx.h2⟩:RwP n (hgB n (ci:Int))).isP,hrn,hl9⟩
 have HZB:Hid (B≤w.heap.size):=Nat.le_trans hTT.out.1 (Nat.le_of_lt hz)
 have c1:w.cell? ⟨dq,do_+0,none⟩=some (.int .i64 (n:Int)):=c0
 rw [Nat.add_zero] at c1
 clear HD HX hs ht h hT hv ho_ hn0 hnc hnd eD eX end_ hG ho hx hl hl9 eN ff G1 G2 G3 G4 G5 G6 G7 G8 hg1 hpn hrn hc c0
 go_enter Tryz.func17,Tryz.ntmps17
 go_wp2_with fail
 refine (cN.out 0 w HDN.out).mono ?_
 rintro e w1 ⟨v1,rfl,⟨s1,g1,e1,rfl,hs1,hv1,_,hg1⟩,hB1⟩
 obtain ⟨p1,n1,c1_,rfl⟩:=hs1.form_
 have H1:Hid (OwnK .i64 3 w1 w.heap.size (.slice p1 n1 c1_) [(n:Int)]∧OwnK .i64 33 w1 w.heap.size (.slice (some ⟨g1,0,none⟩) n e1) (List.replicate n 0)∧Below w.heap.size w w1∧w.heap.size≤g1):=⟨hs1,hv1,hB1,hg1⟩
 clear hs1 hv1 hB1 hg1 hcell d4 d5 kd kc c1
 go_wp2_with fail
 refine (cN.out 4294967296 w1 (HDN.out.up H1.out.2.2.1)).mono ?_
 rintro e w2 ⟨v2,rfl,⟨s2,g2,e2,rfl,hs2,hv2,_,hg2⟩,hB2⟩
 obtain ⟨p2,n2,c2,rfl⟩:=hs2.form_
 have H2:Hid (OwnK .i64 3 w2 w1.heap.size (.slice p2 n2 c2) [(n:Int)]∧OwnK .i64 33 w2 w1.heap.size (.slice (some ⟨g2,0,none⟩) n e2) (List.replicate n 4294967296)∧Below w1.heap.size w1 w2∧w1.heap.size≤g2):=⟨hs2,hv2,hB2,hg2⟩
 clear hs2 hv2 hB2 hg2 cN
 have hlr:(List.replicate n (0:Int)).length=n∧(List.replicate n (4294967296:Int)).length=n:=by simp
 have hB3:Below w2.heap.size w2 ((w2.alloc (.cells #[.slice p1 n1 c1_,.slice (some ⟨g1,0,none⟩) n e1] 31)).alloc (.cells #[.slice p2 n2 c2,.slice (some ⟨g2,0,none⟩) n e2] 31)):=by go_grown
 obtain ⟨W3,eW3⟩:∃ W3,(w2.alloc (.cells #[.slice p1 n1 c1_,.slice (some ⟨g1,0,none⟩) n e1] 31)).alloc (.cells #[.slice p2 n2 c2,.slice (some ⟨g2,0,none⟩) n e2] 31)=W3:=⟨_,rfl⟩
 have hb1:W3.heap[w2.heap.size]?=some (.cells #[.slice p1 n1 c1_,.slice (some ⟨g1,0,none⟩) n e1] 31 (0,0)):=by
  rw [← eW3]
  exact ((up_alloc _ _).block _ (by rw [size_alloc];omega)).trans (heap_alloc_new _ _)
 have hb2:W3.heap[w2.heap.size+1]?=some (.cells #[.slice p2 n2 c2,.slice (some ⟨g2,0,none⟩) n e2] 31 (0,0)):=by
  rw [← eW3]
  have:=heap_alloc_new (w2.alloc (.cells #[.slice p1 n1 c1_,.slice (some ⟨g1,0,none⟩) n e1] 31)) (.cells #[.slice p2 n2 c2,.slice (some ⟨g2,0,none⟩) n e2] 31)
  rw [size_alloc] at this
  exact this
 rw [eW3] at hB3
 have hl2:=H2.out.2.1.size
 have hl1:=H1.out.2.1.size
 have a1:=(H1.out.1.up H2.out.2.2.1).up hB3
 have a2:=(H1.out.2.1.up H2.out.2.2.1).up hB3
 have a3:=H2.out.1.up hB3
 have a4:=H2.out.2.1.up hB3
 have g1lt:g1 < w1.heap.size:=hl1
 have g2lt:g2 < w2.heap.size:=hl2
 have hg12:g1≠g2:=by have:=H2.out.2.2.2;omega
 obtain ⟨cs1,fz1,hob1⟩:=a2.obj
 have st1:Stay g1 W3 (W3.setCell ⟨g1,ci,none⟩ (.int .i64 (-4294967296))):=(Stay.refl g1 W3).set ci _
 have b1:=a1.stay st1 (a1.off_type hob1 (by decide))
 have b2:=a2.store hlr.1 ci (-4294967296)
 have b3:=a3.stay st1 (a3.off_type hob1 (by decide))
 have b4:=a4.stay st1 (fun ad n' c' eu hbq=>by cases eu;exact hg12 hbq.symm)
 obtain ⟨cs2,fz2,hob2⟩:=b4.obj
 have st2:Stay g2 (W3.setCell ⟨g1,ci,none⟩ (.int .i64 (-4294967296))) ((W3.setCell ⟨g1,ci,none⟩ (.int .i64 (-4294967296))).setCell ⟨g2,ci,none⟩ (.int .i64 0)):=(Stay.refl g2 _).set ci _
 have d1:=b1.stay st2 (b1.off_type hob2 (by decide))
 have d2:=b2.stay st2 (fun ad n' c' eu hbq=>by cases eu;exact hg12 hbq)
 have d3:=b3.stay st2 (b3.off_type hob2 (by decide))
 have d4:=b4.store hlr.2 ci 0
 have z1:=a2.cell hlr.1 ci hci
 have z2:=a4.cell hlr.2 ci hci
 have q1:w2.heap.size≠g1:=by have:=H2.out.2.2.1.size;omega
 have q2:w2.heap.size≠g2:=by omega
 have q3:w2.heap.size+1≠g1:=by have:=H2.out.2.2.1.size;omega
 have q4:w2.heap.size+1≠g2:=by omega
 obtain ⟨W5,eW5⟩:∃ W5,(W3.setCell ⟨g1,ci,none⟩ (.int .i64 (-4294967296))).setCell ⟨g2,ci,none⟩ (.int .i64 0)=W5:=⟨_,rfl⟩
 rw [eW5] at d1 d2 d3 d4
 have hB12:=H1.out.2.2.1.size
 have HB5:Hid (Below w.heap.size w W5):=by
  show Below _ _ _
  rw [← eW5]
  exact ((bstep H1.out.2.2.1 (bstep H2.out.2.2.1 hB3)).setCell (p:=⟨g1,ci,none⟩) H1.out.2.2.2 _).setCell (p:=⟨g2,ci,none⟩) (by have:=H2.out.2.2.2;show w.heap.size≤g2;omega) _
 have HA5:Hid ((Nums .i64 W5 (.slice p1 n1 c1_) [(n:Int)]∧Nums .i64 W5 (.slice (some ⟨g1,0,none⟩) n e1) (hgA n (ci:Int)))∧OwnK .i64 3 W5 w1.heap.size (.slice p2 n2 c2) [(n:Int)]∧OwnK .i64 33 W5 w1.heap.size (.slice (some ⟨g2,0,none⟩) n e2) (hgB n (ci:Int))):=⟨⟨d1.nums,d2.nums⟩,d3,d4⟩
 have hx1:W5.heap[w2.heap.size]?=some (.cells #[.slice p1 n1 c1_,.slice (some ⟨g1,0,none⟩) n e1] 31 (0,0)):=by
  rw [← eW5,heap_set _ _ _ _ _ q2,heap_set _ _ _ _ _ q1]
  exact hb1
 have hx2:W5.heap[w2.heap.size+1]?=some (.cells #[.slice p2 n2 c2,.slice (some ⟨g2,0,none⟩) n e2] 31 (0,0)):=by
  rw [← eW5,heap_set _ _ _ _ _ q4,heap_set _ _ _ _ _ q3]
  exact hb2
 have HX5:Hid (W5.heap[w2.heap.size]?=some (.cells #[.slice p1 n1 c1_,.slice (some ⟨g1,0,none⟩) n e1] 31 (0,0))∧W5.heap[w2.heap.size+1]?=some (.cells #[.slice p2 n2 c2,.slice (some ⟨g2,0,none⟩) n e2] 31 (0,0))):=⟨hx1,hx2⟩
 obtain ⟨z10,z11⟩:=z1
 obtain ⟨z20,z21⟩:=z2
 have y0:W3.cell? ⟨w2.heap.size,1,none⟩=some (.slice (some ⟨g1,0,none⟩) n e1):=by unfold World.cell?;simp [hb1]
 have y1:W3.cell? ⟨w2.heap.size+1,1,none⟩=some (.slice (some ⟨g2,0,none⟩) n e2):=by unfold World.cell?;simp [hb2]
 have k1:=cell_lt z10
 have k2:=cell_lt z20
 have k3:=cell_lt y0
 have k4:=cell_lt y1
 clear a1 a2 a3 a4 b1 b2 b3 b4 d1 d2 d3 d4 st1 st2 hob1 hob2 hb1 hb2 hx1 hx2 hl1 hl2 g1lt g2lt hB12 hB3 hlr H1 H2
 go_upto_region 22 with fail
 (try rw [eW3])
 (try rw [eW5])
 (try simp only [eW3,eW5])
 clear eW3 eW5 z10 z11 z20 z21 y0 y1 k1 k2 k3 k4 q1 q2 q3 q4 hg12
 obtain ⟨ab,eab⟩:∃ z,w2.heap.size=z:=⟨_,rfl⟩
 rw [eab] at HX5
 (try rw [eab])
 clear eab
 have x0:W5.cell? ⟨ab,0,none⟩=some (.slice p1 n1 c1_):=by have:=HX5.out.1;unfold World.cell?;simp [this]
 have x1:W5.cell? ⟨ab,1,none⟩=some (.slice (some ⟨g1,0,none⟩) n e1):=by have:=HX5.out.1;unfold World.cell?;simp [this]
 have kx:=cell_lt x0
 have cc:=rleaf_any B tb ms _ _ n1 c1_ n e1 [(n:Int)] (hgA n (ci:Int)) HPA.out.2.2.1 W5 (hTT.out.up HB5.out) HA5.out.1.1 HA5.out.1.2
 have ll:=leaf_ok (ns:=ms) (by have:=HPA.out.2.2.2;omega) HPA.out.1
 rw [ll.1,ll.2.1,ll.2.2] at cc
 have CL:Hid (Calls Tryz.prog 16 #[.pointer (some ⟨tb,0,none⟩),.agg #[.slice p1 n1 c1_,.slice (some ⟨g1,0,none⟩) n e1]] W5 fun e w'=>e = .returned (.tuple #[.int .i64 (ms.length:Int),.int .i64 0])∧Tap 41 47 w' B tb (ms++[⟨1,-1,-1,0,[(n:Int)],hgA n (ci:Int)⟩])∧Below B W5 w'∧Only [41,47] W5 w'):=cc
 clear cc ll
 go_wp2_with fail
 refine CL.out.mono ?_
 rintro e w6 ⟨rfl,hT',hB',hO'⟩
 have H6:Hid (Tap 41 47 w6 B tb (ms++[⟨1,-1,-1,0,[(n:Int)],hgA n (ci:Int)⟩])∧Below B w w6∧Only [41,47] w w6):=⟨hT',(HB5.out.mono HZB.out).trans hB',(Only.of HB5.out).trans hO'⟩
 have HA6:Hid (Nums .i64 w6 (.slice p2 n2 c2) [(n:Int)]∧Nums .i64 w6 (.slice (some ⟨g2,0,none⟩) n e2) (hgB n (ci:Int))):=⟨(HA5.out.2.1.only hO' (by decide)).nums,(HA5.out.2.2.only hO' (by decide)).nums⟩
 have hx2:=hO'.keep HX5.out.2 (by decide)
 have x2:w6.cell? ⟨ab+1,0,none⟩=some (.slice p2 n2 c2):=by unfold World.cell?;simp [hx2]
 have x3:w6.cell? ⟨ab+1,1,none⟩=some (.slice (some ⟨g2,0,none⟩) n e2):=by unfold World.cell?;simp [hx2]
 have ky:=cell_lt x2
 clear hT' hB' hO' CL HA5 HX5 x0 x1 kx hx2
 have cc:=rleaf_any B tb (ms++[⟨1,-1,-1,0,[(n:Int)],hgA n (ci:Int)⟩]) _ _ n2 c2 n e2 [(n:Int)] (hgB n (ci:Int)) HPA.out.2.2.1 w6 H6.out.1 HA6.out.1 HA6.out.2
 have ll:=leaf_ok (ns:=(ms++[⟨1,-1,-1,0,[(n:Int)],hgA n (ci:Int)⟩])) (by have:=HPA.out.2.2.2;rw [len_app];omega) HPA.out.2.1
 rw [ll.1,ll.2.1,ll.2.2,show (((((ms++[⟨1,-1,-1,0,[(n:Int)],hgA n (ci:Int)⟩]):List Nd)).length:Nat):Int)=(ms.length:Int)+1 by rw [len_app];rfl] at cc
 have CL:Hid (Calls Tryz.prog 16 #[.pointer (some ⟨tb,0,none⟩),.agg #[.slice p2 n2 c2,.slice (some ⟨g2,0,none⟩) n e2]] w6 fun e w'=>e = .returned (.tuple #[.int .i64 ((ms.length:Int)+1),.int .i64 0])∧Tap 41 47 w' B tb (hg2 ms n (ci:Int))∧Below B w6 w'∧Only [41,47] w6 w'):=cc
 clear cc ll
 go_wp2_with fail
 refine CL.out.mono ?_
 rintro e w7 ⟨rfl,hT',hB',hO'⟩
 have H7:Hid (Tap 41 47 w7 B tb (hg2 ms n (ci:Int))∧Below B w w7∧Only [41,47] w w7):=⟨hT',H6.out.2.1.trans hB',H6.out.2.2.trans hO'⟩
 clear hT' hB' hO' CL HA6 H6 x2 x3 ky
 go_wp2_with fail
 have cc:=rdo_sp B tb (hg2 ms n (ci:Int)) HGG.out.2.2.1 4 (oi:Int) (ms.length:Int) 0 (fun _=>rk4) w7 H7.out.1 (by unfold InR;omega)
 have ff:=HFF.out.2.2.1
 rw [show doR (hg2 ms n (ci:Int)) 4 (oi:Int) (ms.length:Int) 0=_ from ff.2.2,show doE (hg2 ms n (ci:Int)) 4 (oi:Int) (ms.length:Int) 0=0 from ff.1,show doN (hg2 ms n (ci:Int)) 4 (oi:Int) (ms.length:Int) 0=(hg2 ms n (ci:Int)++[⟨4,(oi:Int),(ms.length:Int),0,[(n:Int)],mp2 Fx.mulI x (hgA n (ci:Int))⟩]) from ff.2.1] at cc
 refine cc.mono ?_
 rintro e w8 ⟨rfl,hT',hB',hO'⟩
 have H8:Hid (Tap 41 47 w8 B tb (hg2 ms n (ci:Int)++[⟨4,(oi:Int),(ms.length:Int),0,[(n:Int)],mp2 Fx.mulI x (hgA n (ci:Int))⟩])∧Below B w w8∧Only [41,47] w w8):=⟨hT',H7.out.2.1.trans hB',H7.out.2.2.trans hO'⟩
 clear cc ff hT' hB' hO' H7
 go_wp2_with fail
 have cc:=rdo_sp B tb (hg2 ms n (ci:Int)++[⟨4,(oi:Int),(ms.length:Int),0,[(n:Int)],mp2 Fx.mulI x (hgA n (ci:Int))⟩]) HGG.out.2.2.2.1 9 ((ms.length:Int)+2) (-1) 0 (fun _=>rk9) w8 H8.out.1 (by unfold InR;omega)
 have ff:=HFF.out.2.2.2.1
 rw [show doR (hg2 ms n (ci:Int)++[⟨4,(oi:Int),(ms.length:Int),0,[(n:Int)],mp2 Fx.mulI x (hgA n (ci:Int))⟩]) 9 ((ms.length:Int)+2) (-1) 0=_ from ff.2.2,show doE (hg2 ms n (ci:Int)++[⟨4,(oi:Int),(ms.length:Int),0,[(n:Int)],mp2 Fx.mulI x (hgA n (ci:Int))⟩]) 9 ((ms.length:Int)+2) (-1) 0=0 from ff.1,show doN (hg2 ms n (ci:Int)++[⟨4,(oi:Int),(ms.length:Int),0,[(n:Int)],mp2 Fx.mulI x (hgA n (ci:Int))⟩]) 9 ((ms.length:Int)+2) (-1) 0=(hg4 ms (oi:Int) n (ci:Int) x) from ff.2.1] at cc
 refine cc.mono ?_
 rintro e w9 ⟨rfl,hT',hB',hO'⟩
 have H9:Hid (Tap 41 47 w9 B tb (hg4 ms (oi:Int) n (ci:Int) x)∧Below B w w9∧Only [41,47] w w9):=⟨hT',H8.out.2.1.trans hB',H8.out.2.2.trans hO'⟩
 clear cc ff hT' hB' hO' H8
 go_wp2_with fail
 have cc:=rdo_sp B tb (hg4 ms (oi:Int) n (ci:Int) x) HGG.out.2.2.2.2.1 2 (oi:Int) ((ms.length:Int)+3) 0 (fun _=>rk2) w9 H9.out.1 (by unfold InR;omega)
 have ff:=HFF.out.2.2.2.2.1
 rw [show doR (hg4 ms (oi:Int) n (ci:Int) x) 2 (oi:Int) ((ms.length:Int)+3) 0=_ from ff.2.2,show doE (hg4 ms (oi:Int) n (ci:Int) x) 2 (oi:Int) ((ms.length:Int)+3) 0=0 from ff.1,show doN (hg4 ms (oi:Int) n (ci:Int) x) 2 (oi:Int) ((ms.length:Int)+3) 0=(hg4 ms (oi:Int) n (ci:Int) x++[⟨2,(oi:Int),(ms.length:Int)+3,0,[(n:Int)],h5V n (ci:Int) x⟩]) from ff.2.1] at cc
 refine cc.mono ?_
 rintro e w10 ⟨rfl,hT',hB',hO'⟩
 have H10:Hid (Tap 41 47 w10 B tb (hg4 ms (oi:Int) n (ci:Int) x++[⟨2,(oi:Int),(ms.length:Int)+3,0,[(n:Int)],h5V n (ci:Int) x⟩])∧Below B w w10∧Only [41,47] w w10):=⟨hT',H9.out.2.1.trans hB',H9.out.2.2.trans hO'⟩
 clear cc ff hT' hB' hO' H9
 go_wp2_with fail
 have cc:=rdo_sp B tb (hg4 ms (oi:Int) n (ci:Int) x++[⟨2,(oi:Int),(ms.length:Int)+3,0,[(n:Int)],h5V n (ci:Int) x⟩]) HGG.out.2.2.2.2.2.1 2 ((ms.length:Int)+4) ((ms.length:Int)+1) 0 (fun _=>rk2) w10 H10.out.1 (by unfold InR;omega)
 have ff:=HFF.out.2.2.2.2.2.1
 rw [show doR (hg4 ms (oi:Int) n (ci:Int) x++[⟨2,(oi:Int),(ms.length:Int)+3,0,[(n:Int)],h5V n (ci:Int) x⟩]) 2 ((ms.length:Int)+4) ((ms.length:Int)+1) 0=_ from ff.2.2,show doE (hg4 ms (oi:Int) n (ci:Int) x++[⟨2,(oi:Int),(ms.length:Int)+3,0,[(n:Int)],h5V n (ci:Int) x⟩]) 2 ((ms.length:Int)+4) ((ms.length:Int)+1) 0=0 from ff.1,show doN (hg4 ms (oi:Int) n (ci:Int) x++[⟨2,(oi:Int),(ms.length:Int)+3,0,[(n:Int)],h5V n (ci:Int) x⟩]) 2 ((ms.length:Int)+4) ((ms.length:Int)+1) 0=(hg6 ms (oi:Int) n (ci:Int) x) from ff.2.1] at cc
 refine cc.mono ?_
 rintro e w11 ⟨rfl,hT',hB',hO'⟩
 have H11:Hid (Tap 41 47 w11 B tb (hg6 ms (oi:Int) n (ci:Int) x)∧Below B w w11∧Only [41,47] w w11):=⟨hT',H10.out.2.1.trans hB',H10.out.2.2.trans hO'⟩
 clear cc ff hT' hB' hO' H10
 go_wp2_with fail
 have cc:=rdo_sp B tb (hg6 ms (oi:Int) n (ci:Int) x) HGG.out.2.2.2.2.2.2.1 11 ((ms.length:Int)+5) (-1) 1 (fun _=>rk11) w11 H11.out.1 (by unfold InR;omega)
 have ff:=HFF.out.2.2.2.2.2.2.1
 rw [show doR (hg6 ms (oi:Int) n (ci:Int) x) 11 ((ms.length:Int)+5) (-1) 1=_ from ff.2.2,show doE (hg6 ms (oi:Int) n (ci:Int) x) 11 ((ms.length:Int)+5) (-1) 1=0 from ff.1,show doN (hg6 ms (oi:Int) n (ci:Int) x) 11 ((ms.length:Int)+5) (-1) 1=(hg6 ms (oi:Int) n (ci:Int) x++[⟨11,(ms.length:Int)+5,-1,1,[(n:Int)],h7V n (ci:Int) x⟩]) from ff.2.1] at cc
 refine cc.mono ?_
 rintro e w12 ⟨rfl,hT',hB',hO'⟩
 have H12:Hid (Tap 41 47 w12 B tb (hg6 ms (oi:Int) n (ci:Int) x++[⟨11,(ms.length:Int)+5,-1,1,[(n:Int)],h7V n (ci:Int) x⟩])∧Below B w w12∧Only [41,47] w w12):=⟨hT',H11.out.2.1.trans hB',H11.out.2.2.trans hO'⟩
 clear cc ff hT' hB' hO' H11
 go_wp2_with fail
 have cc:=rdo_sp B tb (hg6 ms (oi:Int) n (ci:Int) x++[⟨11,(ms.length:Int)+5,-1,1,[(n:Int)],h7V n (ci:Int) x⟩]) HGG.out.2.2.2.2.2.2.2.1 4 ((ms.length:Int)+6) ((ms.length:Int)+1) 0 (fun _=>rk4) w12 H12.out.1 (by unfold InR;omega)
 have ff:=HFF.out.2.2.2.2.2.2.2.1
 rw [show doR (hg6 ms (oi:Int) n (ci:Int) x++[⟨11,(ms.length:Int)+5,-1,1,[(n:Int)],h7V n (ci:Int) x⟩]) 4 ((ms.length:Int)+6) ((ms.length:Int)+1) 0=_ from ff.2.2,show doE (hg6 ms (oi:Int) n (ci:Int) x++[⟨11,(ms.length:Int)+5,-1,1,[(n:Int)],h7V n (ci:Int) x⟩]) 4 ((ms.length:Int)+6) ((ms.length:Int)+1) 0=0 from ff.1,show doN (hg6 ms (oi:Int) n (ci:Int) x++[⟨11,(ms.length:Int)+5,-1,1,[(n:Int)],h7V n (ci:Int) x⟩]) 4 ((ms.length:Int)+6) ((ms.length:Int)+1) 0=(hg8 ms (oi:Int) n (ci:Int) x) from ff.2.1] at cc
 refine cc.mono ?_
 rintro e w13 ⟨rfl,hT',hB',hO'⟩
 have H13:Hid (Tap 41 47 w13 B tb (hg8 ms (oi:Int) n (ci:Int) x)∧Below B w w13∧Only [41,47] w w13):=⟨hT',H12.out.2.1.trans hB',H12.out.2.2.trans hO'⟩
 clear cc ff hT' hB' hO' H12
 go_wp2_with fail
 have cc:=rdo_sp B tb (hg8 ms (oi:Int) n (ci:Int) x) HGG.out.2.2.2.2.2.2.2.2 9 ((ms.length:Int)+7) (-1) 0 (fun _=>rk9) w13 H13.out.1 (by unfold InR;omega)
 have ff:=HFF.out.2.2.2.2.2.2.2.2
 rw [show doR (hg8 ms (oi:Int) n (ci:Int) x) 9 ((ms.length:Int)+7) (-1) 0=_ from ff.2.2,show doE (hg8 ms (oi:Int) n (ci:Int) x) 9 ((ms.length:Int)+7) (-1) 0=0 from ff.1,show doN (hg8 ms (oi:Int) n (ci:Int) x) 9 ((ms.length:Int)+7) (-1) 0=(hg9 ms (oi:Int) n (ci:Int) x) from ff.2.1] at cc
 refine cc.mono ?_
 rintro e w14 ⟨rfl,hT',hB',hO'⟩
 have H14:Hid (Tap 41 47 w14 B tb (hg9 ms (oi:Int) n (ci:Int) x)∧Below B w w14∧Only [41,47] w w14):=⟨hT',H13.out.2.1.trans hB',H13.out.2.2.trans hO'⟩
 clear cc ff hT' hB' hO' H13
 go_wp2
 go_ret2
 exact ⟨rfl,H14.out⟩
structure Says (n:Nat) (x:List Int) (n2 c2:Nat) (p2:Option Addr) (y:List Int) (kind cl:Int) (R:Nat) (E:Int) (NS:List Nd):Prop where
 h1:kind=1→∀ B tb W,TapC W B tb (one1 n x)→(∀ W',Below B W W'→Tz W')→KeptL B W (.slice p2 n2 c2) y→Calls Tryz.prog 12 #[.pointer (some ⟨tb,0,none⟩),.int .i64 0,.slice p2 n2 c2] W fun e w'=>e = .returned (.tuple #[.int .i64 (R:Int),.int .i64 E])∧TapC w' B tb NS∧Below B W w'∧Only SC W w'
 h2:kind=2→∀ B tb W,TapC W B tb (one1 n x)→(∀ W',Below B W W'→Tz W')→KeptL B W (.slice p2 n2 c2) y→Calls Tryz.prog 13 #[.pointer (some ⟨tb,0,none⟩),.int .i64 0,.slice p2 n2 c2] W fun e w'=>e = .returned (.tuple #[.int .i64 (R:Int),.int .i64 E])∧TapC w' B tb NS∧Below B W w'∧Only SC W w'
 h3:kind=3→∀ B tb W,TapC W B tb (one1 n x)→(∀ W',Below B W W'→Tz W')→KeptL B W (.slice p2 n2 c2) y→Calls Tryz.prog 14 #[.pointer (some ⟨tb,0,none⟩),.int .i64 0,.int .i64 cl] W fun e w'=>e = .returned (.tuple #[.int .i64 (R:Int),.int .i64 E])∧TapC w' B tb NS∧Below B W w'∧Only SC W w'
 hr:∀ B rb W,Tap 41 47 W B rb (one1 n x)→Nums .i64 W (.slice p2 n2 c2) y→Calls Tryz.prog 17 #[.pointer (some ⟨rb,0,none⟩),.int .i64 kind,.int .i64 0,.slice p2 n2 c2,.int .i64 cl] W fun e w'=>e = .returned (.tuple #[.int .i64 (R:Int),.int .i64 E])∧Tap 41 47 w' B rb NS∧Below B W w'∧Only [41,47] W w'
 he:E=0→Both NS R
theorem says_out {n:Nat} {x:List Int} (hx:RwP n x) (rx:RI x) {n2 c2:Nat} {p2:Option Addr} {y:List Int} (hy:y.length=n2) (ry:RI y) {kind cl:Int} (hk:kind=1∨kind=2∨kind=3):∃ R E NS,Says n x n2 c2 p2 y kind cl R E NS:=by
 have hG:=one_G hx rx
 have hl:(one1 n x).length≤512:=by show 1≤512;omega
 have e3:((one1 n x).length:Int)+3=((4:Nat):Int):=rfl
 have e8:((one1 n x).length:Int)+8=((9:Nat):Int):=rfl
 have ebad:∀ {S:List Nd} {e:Int},e≠0→loE e (one1 n x) S=e∧loR e (one1 n x) S=0∧loN e (one1 n x) S=one1 n x:=fun h=>⟨if_neg h,if_neg h,if_neg h⟩
 rcases hk with rfl|rfl|rfl
 ·by_cases hn:n2=n
  ·subst hn
   have hy':RwP n2 y:=⟨hy,hx.h1,hx.h2⟩
   have hf:=one_fit hx hy'
   refine ⟨4,0,sq4 (one1 n2 x) 0 n2 x y,fun _ B tb W h1 h2 h3=>?_,fun h=>absurd h (by decide),fun h=>absurd h (by decide),fun B rb W h1 h2=>?_,fun _=>Fit.bsq hx hy' rx ry⟩
   ·have:=csquare_any B tb (one1 n2 x) hG hl 0 p2 n2 c2 y ry W h1 h2 h3
    rw [hf.square.1,hf.square.2.1,hf.square.2.2,e3] at this
    refine this.mono ?_
    rintro e w' ⟨q1,q2,q3,q4,_⟩
    exact ⟨q1,q2,q3,q4⟩
   ·have:=rl_sq B rb (one1 n2 x) hG 0 hf ry cl p2 n2 c2 W h1 h2
    rw [e3] at this
    exact this
  ·have hfe:fitE (one1 n x) 0 y=1:=if_neg fun h=>hn (hy.symm.trans (h.2.trans hx.l))
   refine ⟨0,1,one1 n x,fun _ B tb W h1 h2 h3=>?_,fun h=>absurd h (by decide),fun h=>absurd h (by decide),fun B rb W h1 h2=>?_,fun h=>absurd h (by decide)⟩
   ·have:=csquare_any B tb (one1 n x) hG hl 0 p2 n2 c2 y ry W h1 h2 h3
    rw [hfe,(ebad (e:=1) (by decide)).1,(ebad (e:=1) (by decide)).2.1,(ebad (e:=1) (by decide)).2.2] at this
    refine this.mono ?_
    rintro e w' ⟨q1,q2,q3,q4,_⟩
    exact ⟨q1,q2,q3,q4⟩
   ·exact rl_len B rb (one1 n x) hG 0 hx (one_n n x) hl 1 (.inl rfl) cl p2 n2 c2 y (fun h=>hn (hy.symm.trans h)) W h1 h2
 ·by_cases hn:n2=n
  ·subst hn
   have hy':RwP n2 y:=⟨hy,hx.h1,hx.h2⟩
   have hf:=one_fit hx hy'
   refine ⟨4,0,sz4 (one1 n2 x) 0 n2 x y,fun h=>absurd h (by decide),fun _ B tb W h1 h2 h3=>?_,fun h=>absurd h (by decide),fun B rb W h1 h2=>?_,fun _=>Fit.bsz hx hy' rx ry⟩
   ·have:=csize_any B tb (one1 n2 x) hG hl 0 p2 n2 c2 y ry W h1 h2 h3
    rw [hf.size.1,hf.size.2.1,hf.size.2.2,e3] at this
    refine this.mono ?_
    rintro e w' ⟨q1,q2,q3,q4,_⟩
    exact ⟨q1,q2,q3,q4⟩
   ·have:=rl_sz B rb (one1 n2 x) hG 0 hf ry cl p2 n2 c2 W h1 h2
    rw [e3] at this
    exact this
  ·have hfe:fitE (one1 n x) 0 y=1:=if_neg fun h=>hn (hy.symm.trans (h.2.trans hx.l))
   refine ⟨0,1,one1 n x,fun h=>absurd h (by decide),fun _ B tb W h1 h2 h3=>?_,fun h=>absurd h (by decide),fun B rb W h1 h2=>?_,fun h=>absurd h (by decide)⟩
   ·have:=csize_any B tb (one1 n x) hG hl 0 p2 n2 c2 y ry W h1 h2 h3
    rw [hfe,(ebad (e:=1) (by decide)).1,(ebad (e:=1) (by decide)).2.1,(ebad (e:=1) (by decide)).2.2] at this
    refine this.mono ?_
    rintro e w' ⟨q1,q2,q3,q4,_⟩
    exact ⟨q1,q2,q3,q4⟩
   ·exact rl_len B rb (one1 n x) hG 0 hx (one_n n x) hl 2 (.inr rfl) cl p2 n2 c2 y (fun h=>hn (hy.symm.trans h)) W h1 h2
 ·by_cases hc:0≤cl∧cl < (n:Int)
  ·have hk:=hinge_ok hx (one_n n x) (by show 1+9≤512;omega) hc
   refine ⟨9,0,hg9 (one1 n x) 0 n cl x,fun h=>absurd h (by decide),fun h=>absurd h (by decide),fun _ B tb W h1 h2 h3=>?_,fun B rb W h1 h2=>?_,fun _=>bhg hx rx hc⟩
   ·have:=chinge_any B tb (one1 n x) hG hl 0 cl W h1 h2
    rw [hk.1,hk.2.1,hk.2.2,e8] at this
    refine this.mono ?_
    rintro e w' ⟨q1,q2,q3,q4,_⟩
    exact ⟨q1,q2,q3,q4⟩
   ·have:=rl_hg B rb (one1 n x) hG 0 hx (one_n n x) (by show 1+9≤512;omega) cl hc p2 n2 c2 y W h1 h2
    rw [e8] at this
    exact this
  ·have hpe:plcE (one1 n x) 0 cl=4:=(if_pos (one_n n x).r).trans (if_neg fun h=>hc ⟨h.2.1,by have:=h.2.2;rw [(one_n n x).X,hx.l] at this;exact this⟩)
   refine ⟨0,4,one1 n x,fun h=>absurd h (by decide),fun h=>absurd h (by decide),fun _ B tb W h1 h2 h3=>?_,fun B rb W h1 h2=>?_,fun h=>absurd h (by decide)⟩
   ·have:=chinge_any B tb (one1 n x) hG hl 0 cl W h1 h2
    rw [hpe,(ebad (e:=4) (by decide)).1,(ebad (e:=4) (by decide)).2.1,(ebad (e:=4) (by decide)).2.2] at this
    refine this.mono ?_
    rintro e w' ⟨q1,q2,q3,q4,_⟩
    exact ⟨q1,q2,q3,q4⟩
   ·exact rl_class B rb (one1 n x) hG 0 hx (one_n n x) hl cl hc p2 n2 c2 y W h1 h2
/-- Two tapes of a law's own, the code's and the reference's. -/
structure Duo (w W:World) (Bt tb:Nat) (ms:List Nd) (Br rb:Nat) (us:List Nd):Prop where
 t:TapC W Bt tb ms
 r:Tap 41 47 W Br rb us
 b:Below w.heap.size w W
 lt:w.heap.size≤Bt
 lr:w.heap.size≤Br
theorem Duo.up {w W W':World} {Bt tb Br rb:Nat} {ms us:List Nd} (h:Duo w W Bt tb ms Br rb us) (hB:Below W.heap.size W W'):Duo w W' Bt tb ms Br rb us:=⟨h.t.up hB,h.r.up hB,bstep h.b hB,h.lt,h.lr⟩
theorem Duo.st {w W W':World} {Bt tb Br rb:Nat} {ms us ms':List Nd} (h:Duo w W Bt tb ms Br rb us) (hT:TapC W' Bt tb ms') (hB:Below Bt W W') (hO:Only SC W W'):Duo w W' Bt tb ms' Br rb us:=⟨hT,h.r.only hO (by decide) (by decide) (by decide) (by decide),h.b.trans (hB.mono h.lt),h.lt,h.lr⟩
theorem Duo.sr {w W W':World} {Bt tb Br rb:Nat} {ms us us':List Nd} (h:Duo w W Bt tb ms Br rb us) (hT:Tap 41 47 W' Br rb us') (hB:Below Br W W') (hO:Only [41,47] W W'):Duo w W' Bt tb ms Br rb us':=⟨h.t.ref hO,hT,h.b.trans (hB.mono h.lr),h.lt,h.lr⟩
theorem row13_any (p:Option Addr) (n c:Nat) (x:List Int) (w:World) (h:Nums .i64 w (.slice p n c) x) (hn:n≤4096):
  Calls Tryz.prog 11 #[.slice p n c] w fun e w'=>∃ g,e = .returned (.agg #[.slice (some ⟨g,0,none⟩) 1 1,.slice p n c])∧Nums .i64 w' (.slice (some ⟨g,0,none⟩) 1 1) [(n:Int)]∧Nums .i64 w' (.slice p n c) x∧w.heap.size≤g∧OwnK .i64 3 w' w.heap.size (.slice (some ⟨g,0,none⟩) 1 1) [(n:Int)]∧Below w.heap.size w w':=by
 have H:Hid (Nums .i64 w (.slice p n c) x):=h
 have hn':(n:Int)≤4096:=by omega
 clear h
 go_enter Tryz.func11,Tryz.ntmps11
 go_wp2
 have hB:Below w.heap.size w ((w.alloc (.cells #[.slice (some ⟨w.heap.size+1,0,none⟩) 1 1,.slice p n c] 31)).alloc (.cells #[.int .i64 (n:Int)] 3)):=by go_grown
 have hO:OwnK .i64 3 ((w.alloc (.cells #[.slice (some ⟨w.heap.size+1,0,none⟩) 1 1,.slice p n c] 31)).alloc (.cells #[.int .i64 (n:Int)] 3)) w.heap.size (.slice (some ⟨w.heap.size+1,0,none⟩) 1 1) [(n:Int)]:=by
  have h0:=own_lit (k:=.i64) (e:=3) (w.alloc (.cells #[.slice (some ⟨w.heap.size+1,0,none⟩) 1 1,.slice p n c] 31)) [(n:Int)] 1 rfl (by decide)
  rw [size_alloc] at h0
  exact h0.low (Nat.le_succ _)
 refine bodyPost_ret (v:=.agg #[.slice (some ⟨w.heap.size+1,0,none⟩) 1 1,.slice p n c]) (by simp [results,Tryz.results11,go_sem]) rfl ⟨_,rfl,?_,?_,Nat.le_succ _,hO,hB⟩
 ·exact hO.nums
 ·exact H.out.up hB
theorem aw13:RwP 1 [12884901888]∧RwP 1 [4294967296]∧RI [12884901888]∧RI [4294967296]∧meanI (sqV [12884901888] [4294967296])=17179869184:=⟨⟨rfl,by decide,by decide⟩,⟨rfl,by decide,by decide⟩,RI_kern (by decide +kernel),RI_kern (by decide +kernel),by decide +kernel⟩
theorem awake13_any (w:World) (hT:Hid (Tz w)):
  Calls Tryz.prog 8 #[] w fun e w'=>e = .returned (.bool true)∧Below w.heap.size w w':=by
 haveI:Nonempty World:=⟨w⟩
 go_enter Tryz.func8,Tryz.ntmps8
 go_wp2_with fail
 refine (cnew_any w).mono ?_
 rintro e w1 ⟨tb,rfl,hT1,hB1⟩
 have HT1:Hid (TapC w1 w.heap.size tb []∧Below w.heap.size w w1):=⟨hT1,hB1⟩
 clear hT1 hB1
 go_wp2_with fail
 generalize hK2:World.alloc _ _=K2
 have hL2:Below w1.heap.size w1 K2:=by rw [← hK2];exact up_alloc w1 _
 have l2:Nums .i64 K2 (.slice (some ⟨w1.heap.size,0,none⟩) 1 1) [12884901888]:=by rw [← hK2];exact nums_lit (k:=.i64) w1 [12884901888] 1 (0,0) rfl
 clear hK2
 refine (row13_any _ 1 1 [12884901888] K2 l2 (by decide)).mono ?_
 rintro e r2 ⟨g2,rfl,ha2,hb2,_,_,hB2⟩
 go_wp2_with fail
 have cc:=cleaf_any w.heap.size tb [] NodesG.nil _ _ 1 1 1 1 [1] [12884901888] (RI_kern (by decide +kernel)) aw13.2.2.1 r2 (HT1.out.1.up (bstep hL2 hB2)) ha2 hb2
 have e1:=one_ok aw13.1
 rw [show ([((1:Nat):Int)]:List Int) = [1] from rfl] at e1
 rw [e1.1,e1.2.1,e1.2.2] at cc
 refine cc.mono ?_
 rintro e w2 ⟨rfl,hT2,hC2,_⟩
 have HT2:Hid (TapC w2 w.heap.size tb (one1 1 [12884901888])∧Below w.heap.size w w2):=⟨hT2,(bstep HT1.out.2 (bstep hL2 hB2)).trans hC2⟩
 clear cc hT2 hC2 hB2 hL2 l2 ha2 hb2 HT1 e1
 go_wp2_with fail
 generalize hK3:World.alloc _ _=K3
 have hL3:Below w2.heap.size w2 K3:=by rw [← hK3];exact up_alloc w2 _
 have l3:OwnK .i64 33 K3 w2.heap.size (.slice (some ⟨w2.heap.size,0,none⟩) 1 1) [4294967296]:=by rw [← hK3];exact own_lit (k:=.i64) w2 [4294967296] 1 rfl (by decide)
 clear hK3
 have hF:=one_fit aw13.1 aw13.2.1
 have hbK:Below w.heap.size w K3:=bstep HT2.out.2 hL3
 have cc:=csquare_any w.heap.size tb (one1 1 [12884901888]) (one_G aw13.1 aw13.2.2.1) (by decide) 0 _ 1 1 [4294967296] aw13.2.2.2.1 K3 (HT2.out.1.up hL3) (show Hid _ from fun W hW=>hT.out.up (hbK.trans hW)) (l3.keptL (by decide))
 rw [hF.square.1,hF.square.2.1,hF.square.2.2] at cc
 have HN:Hid (NodesG (sq4 (one1 1 [12884901888]) 0 1 [12884901888] [4294967296])∧(sq4 (one1 1 [12884901888]) 0 1 [12884901888] [4294967296])[4]?=some ⟨10,3,-1,0,[],[17179869184]⟩):=⟨hF.sqG (one_G aw13.1 aw13.2.2.1) aw13.2.2.2.1,by
  have:=hF.sqN
  rw [aw13.2.2.2.2] at this
  exact this⟩
 obtain ⟨NS,eNS⟩:∃ NS,sq4 (one1 1 [12884901888]) 0 1 [12884901888] [4294967296]=NS:=⟨_,rfl⟩
 rw [eNS] at cc HN
 rw [show ((one1 1 [12884901888]).length:Int)+3=4 from rfl] at cc
 clear eNS hF
 refine cc.mono ?_
 rintro e w3 ⟨rfl,hT3,hC3,_⟩
 have HT3:Hid (TapC w3 w.heap.size tb NS∧Below w.heap.size w w3):=⟨hT3,hbK.trans hC3⟩
 clear cc hT3 hC3 hbK hL3 l3 HT2
 go_wp2_with fail
 refine (cvalue_any w.heap.size tb NS HN.out.1 4 _ HN.out.2 w3 HT3.out.1).mono ?_
 rintro e w4 ⟨v4,rfl,h4,hB4⟩
 obtain ⟨p,m,c,p2,m2,c2,rfl,h41,h42⟩:=h4.own
 obtain ⟨gv,cv,ev,hgv⟩:=h42.at (by decide)
 cases ev
 have HB4:Hid (Below w.heap.size w w4):=bstep HT3.out.2 hB4
 have q0:=(h42.cell rfl 0 (by decide)).1
 have q1:=cell_lt q0
 clear h4 h41 h42 hB4 HT3
 go_wp2
 go_ret
 exact ⟨rfl,bstep HB4.out (up_alloc _ _)⟩
end Go.Proofs.YtpdkkcnmgiihcaaGreatDoor.Wd
