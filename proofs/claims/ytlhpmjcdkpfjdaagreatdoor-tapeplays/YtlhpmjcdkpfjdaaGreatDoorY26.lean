/- The reference's Dot, total, All, Mean and Flip. · The reference's Of, Bend and Slope: what they hand back. · The reference's Bent: what it hands back. -/
import Derived.Test.YtlhpmjcdkpfjdaaGreatDoorY24
import Derived.Test.YtlhpmjcdkpfjdaaGreatDoorY10
import Derived.Test.YtlhpmjcdkpfjdaaGreatDoorY25
import Derived.Test.YtlhpmjcdkpfjdaaGreatDoorY14
import Derived.Test.YtlhpmjcdkpfjdaaGreatDoorY20
import Derived.Test.YtlhpmjcdkpfjdaaGreatDoorY02
set_option linter.unusedVariables false
set_option linter.unusedSimpArgs false
set_option maxHeartbeats 16000000
set_option maxRecDepth 16000
namespace Go.Proofs.YtlhpmjcdkpfjdaaGreatDoor.Wd
open Go.RowKit Fx
/-- One of the reference's numbers, whatever the world. -/
def IsSW (S:Int) (v:Value) (W:World):Prop:=Rf.IsS v S
theorem rtotal_any (p p2:Option Addr) (n c n2 c2:Nat) (x:List Int) (hx:RI x) (hn:n2≤4096) (w:World) (hv:Nums .i64 w (.slice p2 n2 c2) x):
  Calls Tryz.prog 139 #[.agg #[.slice p n c,.slice p2 n2 c2]] w fun e w'=>∃ z,e = .returned z∧IsSW (totalI x) z w'∧Below w.heap.size w w':=by
 obtain ⟨_,_,_,e4,HX⟩:=hv.lst
 cases e4
 have HS0:Hid (totalI x=sumI (fun q=>x.getD q 0) n2):=by show _=_;rw [totalI,HX.out.1]
 have HI:Hid (RI x):=hx
 have hn1:(n2:Int)≤4096:=by omega
 obtain ⟨T,eT⟩:∃ T,totalI x=T:=⟨_,rfl⟩
 rw [eT] at HS0 ⊢
 clear hv hx eT
 haveI:Nonempty World:=⟨w⟩
 go_enter Tryz.func139,Tryz.ntmps139
 go_wp2_with fail
 go_loopg [4] n2 (fun g i wr=>∃ (k:Nat),k≤n2∧g=n2 - k∧i = .int .i64 (k:Int)∧Hid (Cel wr w.heap.size (.slice p n c) (.slice p2 n2 c2))∧Hid (LiesS wr (w.heap.size+1) 0)∧Hid (LiesS wr (w.heap.size+1+1) (sumI (fun q=>x.getD q 0) k))∧Hid (Below w.heap.size w wr))
 case atStart=>
  refine ⟨0,by omega,by omega,rfl,?_,?_,?_,show Below _ _ _ by go_grown⟩
  ·show Cel _ _ _ _
   unfold Cel
   simp [go_sem]
  ·show LiesS _ _ _
   refine ⟨false,0,0,0,0,by simp,by simp [go_sem],by simp [go_sem],by simp [go_sem],by simp [go_sem],by simp [go_sem],by simp [go_sem],by simp [go_sem],by simp [go_sem],by simp [go_sem],by simp [go_sem],Rf.zeroS⟩
  ·show LiesS _ _ _
   refine ⟨false,0,0,0,0,by simp,by simp [go_sem],by simp [go_sem],by simp [go_sem],by simp [go_sem],by simp [go_sem],by simp [go_sem],by simp [go_sem],by simp [go_sem],by simp [go_sem],by simp [go_sem],Rf.zeroS⟩
 case round=>
  obtain ⟨k,hk,hg,rfl,XA,LR,L0,HB⟩:=hrel
  obtain ⟨R1,hR1⟩:∃ R1:World,R1=wr:=⟨_,rfl⟩
  subst hR1
  obtain ⟨a0,a1,_,_⟩:=XA.out
  have a9:=cell_lt a0
  by_cases hkn:k < n2
  ·have hkA:(k:Int) < (n2:Int):=by omega
   obtain ⟨q,o,rfl,hc0⟩:=HX.out.2 k (by omega)
   have hc1:=cell_low hc0 HB.out
   have lt0:=cell_lt hc1
   have hX:=getD_inR HI.out k
   have hroom:=sums_room HI.out (fun q=>q) k (by omega) _ hX
   have eS:sumI (fun q=>x.getD q 0) (k+1)=sumI (fun q=>x.getD q 0) k+x.getD k 0:=rfl
   obtain ⟨X,eX⟩:∃ X,x.getD k 0=X:=⟨_,rfl⟩
   obtain ⟨S,eS0⟩:∃ S,sumI (fun q=>x.getD q 0) k=S:=⟨_,rfl⟩
   rw [eX] at hc1 hX
   have hroom:(S.natAbs:Int)+(X.natAbs:Int) < 115792089237316195423570985008687907853269984665640564039457584007913129639936:=by rw [← eS0,← eX];exact hroom
   rw [eX,eS0] at eS
   rw [eS0] at L0
   have HS:Hid (sumI (fun q=>x.getD q 0) (k+1)=S+X):=eS
   obtain ⟨r,u0,u1,u2,u3,lt9,q0,q1,q2,q3,q4,z0,z1,z2,z3,z4,hN⟩:=L0.out
   obtain ⟨zp,hp,cFr⟩:=Rf.fromD hX
   obtain ⟨pr,b0,b1,b2,b3,rfl,hp⟩:=hp.agg
   obtain ⟨zs,hs,cPl⟩:=Rf.plusD hN hp hroom
   obtain ⟨sr,t0,t1,t2,t3,rfl,hs⟩:=hs.agg
   have HSs:Hid (Rf.IsS (.agg #[.bool sr,.int .u64 t0,.int .u64 t1,.int .u64 t2,.int .u64 t3]) (S+X)):=hs
   clear eX eS0 eS hroom hX hc0 hN hp hs
   go_wp2_with fail
   refine flow 8 22 (by kernel_rfl) rfl rfl (by kernel_rfl) ?_
   apply Exists.intro
   refine ⟨?_,?_⟩
   ·intro F hF
    have hFc:=hF.cell
    have hFf:=hF.frozen
    simp only [List.take_succ_cons,List.take_zero,List.eraseIdx_cons_succ,List.eraseIdx_cons_zero]
    repeat (go_big_quiet_step (first|(go_at_call 138;with_reducible exact hF.call (cFr _))|(go_at_call 131;with_reducible exact hF.call (cPl _))))
    refine wpQuiet_nil ?_
    exact rfl
   ·intro W2 hW2
    simp only [List.drop_succ_cons,List.drop_zero]
    have M:=L0.out.up hW2
    have N0:Hid (LiesS (((((W2.setCell ⟨w.heap.size+1+1,0,none⟩ (.bool sr)).setCell ⟨w.heap.size+1+1,1,none⟩ (.int .u64 t0)).setCell ⟨w.heap.size+1+1,2,none⟩ (.int .u64 t1)).setCell ⟨w.heap.size+1+1,3,none⟩ (.int .u64 t2)).setCell ⟨w.heap.size+1+1,4,none⟩ (.int .u64 t3)) (w.heap.size+1+1) (S+X)):=M.set HSs.out
    have NR:Hid (LiesS (((((W2.setCell ⟨w.heap.size+1+1,0,none⟩ (.bool sr)).setCell ⟨w.heap.size+1+1,1,none⟩ (.int .u64 t0)).setCell ⟨w.heap.size+1+1,2,none⟩ (.int .u64 t1)).setCell ⟨w.heap.size+1+1,3,none⟩ (.int .u64 t2)).setCell ⟨w.heap.size+1+1,4,none⟩ (.int .u64 t3)) (w.heap.size+1) 0):=(LR.out.up hW2).stay (stay_set5 _ _ _ _ _ _) (by omega)
    have NA:Hid (Cel (((((W2.setCell ⟨w.heap.size+1+1,0,none⟩ (.bool sr)).setCell ⟨w.heap.size+1+1,1,none⟩ (.int .u64 t0)).setCell ⟨w.heap.size+1+1,2,none⟩ (.int .u64 t1)).setCell ⟨w.heap.size+1+1,3,none⟩ (.int .u64 t2)).setCell ⟨w.heap.size+1+1,4,none⟩ (.int .u64 t3)) w.heap.size (.slice p n c) (.slice (some ⟨q,o,none⟩) n2 c2)):=(XA.out.up hW2).stay (stay_set5 _ _ _ _ _ _) (by omega)
    have B2:Hid (Below w.heap.size w (((((W2.setCell ⟨w.heap.size+1+1,0,none⟩ (.bool sr)).setCell ⟨w.heap.size+1+1,1,none⟩ (.int .u64 t0)).setCell ⟨w.heap.size+1+1,2,none⟩ (.int .u64 t1)).setCell ⟨w.heap.size+1+1,3,none⟩ (.int .u64 t2)).setCell ⟨w.heap.size+1+1,4,none⟩ (.int .u64 t3))):=below_set5 (HB.out.trans (hW2.mono HB.out.size)) _ (by omega) _ _ _ _ _
    obtain ⟨r',v0,v1,v2,v3,lt9',q0',q1',q2',q3',q4',z0',z1',z2',z3',z4',_⟩:=M
    clear hW2 cFr cPl q0 q1 q2 q3 q4 z0 z1 z2 z3 z4 lt9 L0 HB hc1 lt0 a0 a1 a9 XA LR
    go_wp2
    go_roundg (n2 - (k+1))
    case measure=>omega
    case rel=>exact ⟨k+1,by omega,rfl,by first|rfl|simp,NA,NR,by rw [HS.out];exact N0,B2⟩
  ·obtain rfl:k=n2:=by omega
   rw [← HS0.out] at L0
   obtain ⟨r,u0,u1,u2,u3,lt9,q0,q1,q2,q3,q4,z0,z1,z2,z3,z4,hN⟩:=L0.out
   have HN:Hid (IsSW T (.agg #[.bool r,.int .u64 u0,.int .u64 u1,.int .u64 u2,.int .u64 u3]) w):=hN
   have cf:=LR.out.set hN
   have BF:=below_set5 HB.out (w.heap.size+1) (by omega) (.bool r) (.int .u64 u0) (.int .u64 u1) (.int .u64 u2) (.int .u64 u3)
   obtain ⟨r',v0,v1,v2,v3,lt9',q0',q1',q2',q3',q4',z0',z1',z2',z3',z4',_⟩:=LR.out
   obtain ⟨g0,g1,g2,g3,g4⟩:=Rf.five R1 (w.heap.size+1) (.bool r) (.int .u64 u0) (.int .u64 u1) (.int .u64 u2) (.int .u64 u3) q0' q1' q2' q3' q4'
   clear cf hN
   go_wp2
   exact bodyPost_ret (v:=.agg #[.bool r,.int .u64 u0,.int .u64 u1,.int .u64 u2,.int .u64 u3]) (by simp [results,Tryz.results139,go_sem,g0,g1,g2,g3,g4]) rfl ⟨_,rfl,HN.out,BF⟩
theorem rall_any (p p2:Option Addr) (n c n2 c2:Nat) (x:List Int) (hx:RI x) (hn:n2≤4096) (w:World) (hv:Nums .i64 w (.slice p2 n2 c2) x):
  Calls Tryz.prog 95 #[.agg #[.slice p n c,.slice p2 n2 c2]] w fun e w'=>e = .returned (.int .i64 (hold (totalI x)))∧Below w.heap.size w w':=by
 have cT:=fun W (hW:Below w.heap.size w W)=>rtotal_any p p2 n c n2 c2 x hx hn W (hv.up hW)
 have cH:Hid (∀ W v,IsSW (totalI x) v W→Calls Tryz.prog 133 #[v] W fun e w'=>e = .returned (.int .i64 (hold (totalI x)))∧Below W.heap.size W w'):=fun W v h=>Rf.heldS v _ h W
 obtain ⟨T,eT⟩:∃ T,totalI x=T:=⟨_,rfl⟩
 rw [eT] at cT cH ⊢
 obtain ⟨H,eH⟩:∃ H,hold T=H:=⟨_,rfl⟩
 rw [eH] at cH ⊢
 clear hv hx eT eH
 go_enter Tryz.func95,Tryz.ntmps95
 go_wp2_with fail
 refine (cT _ (up_alloc w _)).mono ?_
 rintro e w1 ⟨z,rfl,hz,hB1⟩
 have HB1:Hid (Below w.heap.size w w1):=bstep (up_alloc w _) hB1
 have HZ:Hid (IsSW T z w1):=hz
 clear hB1 hz
 go_wp2_with fail
 refine (cH.out w1 z HZ.out).mono ?_
 rintro e w2 ⟨rfl,hB2⟩
 have HB2:Hid (Below w.heap.size w w2):=bstep HB1.out hB2
 clear hB2
 go_wp2
 go_ret
 exact ⟨rfl,HB2.out⟩
theorem rmean_any (p p2:Option Addr) (n c n2 c2:Nat) (x:List Int) (hx:RI x) (hn:1≤n2∧n2≤4096) (w:World) (hv:Nums .i64 w (.slice p2 n2 c2) x):
  Calls Tryz.prog 96 #[.agg #[.slice p n c,.slice p2 n2 c2]] w fun e w'=>e = .returned (.int .i64 (meanI x))∧Below w.heap.size w w':=by
 obtain ⟨_,_,_,e4,HX⟩:=hv.lst
 cases e4
 have cT:Hid (∀ W,Below w.heap.size w W→Calls Tryz.prog 139 #[.agg #[.slice p n c,.slice p2 n2 c2]] W fun e w'=>∃ z,e = .returned z∧IsSW (totalI x) z w'∧Below W.heap.size W w'):=fun W hW=>rtotal_any p p2 n c n2 c2 x hx hn.2 W (hv.up hW)
 have cD:Hid (∀ W v,IsSW (totalI x) v W→Calls Tryz.prog 140 #[v,.int .i64 (n2:Int)] W fun e w'=>∃ z,e = .returned z∧IsSW (rqI (totalI x) n2) z w'∧Below W.heap.size W w'):=fun W v h=>by
  obtain ⟨z,hz,cz⟩:=Rf.dividedD h (n:=(n2:Int)) (by unfold InR;omega) (by omega)
  refine (cz W).mono ?_
  rintro e w' ⟨rfl,hb⟩
  exact ⟨_,rfl,hz,hb⟩
 have cH:Hid (∀ W v,IsSW (rqI (totalI x) n2) v W→Calls Tryz.prog 133 #[v] W fun e w'=>e = .returned (.int .i64 (meanI x))∧Below W.heap.size W w'):=fun W v h=>by
  rw [meanI,HX.out.1]
  exact Rf.heldS v _ h W
 obtain ⟨M,eM⟩:∃ M,meanI x=M:=⟨_,rfl⟩
 rw [eM] at cH ⊢
 have hn2':(n2:Int)≤4096:=by omega
 clear hv hx eM
 haveI:Nonempty World:=⟨w⟩
 go_enter Tryz.func96,Tryz.ntmps96
 go_wp2_with fail
 refine name_world (fun W0 hW0=>?_)
 have HB0:Hid (Below w.heap.size w W0):=by show Below _ _ _;rw [hW0];exact up_alloc w _
 have XA:Hid (Cel W0 w.heap.size (.slice p n c) (.slice p2 n2 c2)):=by show Cel _ _ _ _;unfold Cel;rw [hW0];simp [go_sem]
 clear hW0
 obtain ⟨a0,a1,_,_⟩:=XA.out
 have a9:=cell_lt a0
 refine rel [⟨1,4,IsSW (totalI x)⟩,⟨5,8,IsSW (rqI (totalI x) n2)⟩] 7 10 (by kernel_rfl) rfl rfl (by kernel_rfl) (by rfl) ?_ ?_
 ·intro e he v W W' h hb
  simp only [List.mem_cons,List.not_mem_nil,or_false] at he
  rcases he with rfl|rfl
  ·exact h
  ·exact h
 apply Exists.intro
 refine ⟨fun x=>?_,?_,?_⟩
 ·simp only [List.take_succ_cons,List.take_zero]
  refine relQuiet rfl rfl ?_
  apply Exists.intro
  refine ⟨fun F hF hf K hK=>?_,?_⟩
  ·have hFc:=hF.cell
   have hFf:=hF.frozen
   go_big_quiet_op
   exact hK
  (try simp only [putL])
  refine relTold rfl rfl ?_ ?_
  ·intro F hF hf d
   have hFc:=hF.cell
   have hFf:=hF.frozen
   simp [yieldsR,yieldsUpon,go_sem]
   refine (cT.out (F d) (bstep HB0.out (hF.below d))).mono ?_
   rintro e' w8 ⟨v8,rfl,h8,hb8⟩
   exact ⟨_,rfl,h8,hb8⟩
  iterate 3
   (try simp only [putL])
   refine relQuiet rfl rfl ?_
   apply Exists.intro
   refine ⟨fun F hF hf K hK=>?_,?_⟩
   ·have hFc:=hF.cell
    have hFf:=hF.frozen
    go_big_quiet_op
    exact hK
  (try simp only [putL])
  refine relTold rfl rfl ?_ ?_
  ·intro F hF hf d
   have hFc:=hF.cell
   have hFf:=hF.frozen
   have h9:=hf _ List.mem_cons_self (by rfl) d
   simp [yieldsR,yieldsUpon,go_sem]
   refine (cD.out (F d) _ h9).mono ?_
   rintro e' w8 ⟨v8,rfl,h8,hb8⟩
   exact ⟨_,rfl,h8,hb8⟩
  (try simp only [putL])
  refine relQuiet rfl rfl ?_
  apply Exists.intro
  refine ⟨fun F hF hf K hK=>?_,?_⟩
  ·have hFc:=hF.cell
   have hFf:=hF.frozen
   go_big_quiet_op
   first|exact hK|(apply Exists.intro;refine ⟨fun _=>?_,?_⟩;(· exact hF.call (cH.out _ _ (hf _ (List.mem_cons_of_mem _ List.mem_cons_self) (by rfl) w)));exact hK)
  (try simp only [putL])
  refine relEnd ?_
  exact rfl
 ·exact fun x=>rfl
 ·intro w9 xs hB9 hf
  simp only [List.drop_succ_cons,List.drop_zero]
  have HB9:Hid (Below w.heap.size w w9):=bstep HB0.out hB9
  clear hf hB9
  go_wp2
  go_ret
  exact ⟨rfl,HB9.out⟩
theorem rflip_any (p p2:Option Addr) (n c n2 c2:Nat) (d x:List Int) (hd:RI d) (w:World) (h1:Nums .i64 w (.slice p n c) d) (h2:Nums .i64 w (.slice p2 n2 c2) x):
  Calls Tryz.prog 91 #[.agg #[.slice p n c,.slice p2 n2 c2]] w fun e w'=>∃ v',e = .returned (.tuple #[v',.int .i64 (flE d x)])∧TRes w' w.heap.size v' (flD d x) (flV d x)∧Below w.heap.size w w':=by
 have cA:=fun W (hW:Below w.heap.size w W)=>ris_any _ _ d x hd W (h1.up hW) (h2.up hW)
 have cT:Hid (∀ W v,Below w.heap.size w W→LitN [1,0] v W→Calls Tryz.prog 135 #[.agg #[.slice p n c,.slice p2 n2 c2],v] W fun e w'=>∃ v',e = .returned (.tuple #[v',.int .i64 (turnE d x [1,0])])∧TRes w' W.heap.size v' (turnD d x [1,0]) (turnV d x [1,0])∧Below W.heap.size W w'):=fun W v hW hv=>by
  obtain ⟨g,rfl,hn⟩:=hv
  exact rturn_any p p2 _ n c n2 c2 _ _ d x [1,0] hd (fun y hy=>by simp at hy;omega) W (h1.up hW) (h2.up hW) hn (by simp)
 obtain ⟨_,_,_,e4,HD⟩:=h1.lst
 cases e4
 have hlen:d.length=n:=HD.out.1
 by_cases hp:isP d x
 ·rw [decide_eq_true hp] at cA
  have hn4:n≤4:=by have:=hp.1.1;rw [ntl_len] at this;omega
  have hn4':(n:Int)≤4:=by omega
  by_cases hq:n=2
  ·subst hq
   obtain ⟨e1,e2,e3⟩:=fl_two hp hlen
   rw [e1,e2,e3]
   obtain ⟨E,eE⟩:∃ E,turnE d x [1,0]=E:=⟨_,rfl⟩
   obtain ⟨D,eD⟩:∃ D,turnD d x [1,0]=D:=⟨_,rfl⟩
   obtain ⟨V,eV⟩:∃ V,turnV d x [1,0]=V:=⟨_,rfl⟩
   rw [eE,eD,eV] at cT ⊢
   clear e1 e2 e3 eE eD eV hp h1 h2 hd HD hlen
   go_enter Tryz.func91,Tryz.ntmps91
   go_wp2_with fail
   generalize hW0:World.alloc _ _=W0
   have HB0:=hidB (w:=w) hW0 (by go_grown)
   have XA:Hid (Cel W0 w.heap.size (.slice p 2 c) (.slice p2 n2 c2)):=celW hW0 (by simp [go_sem])
   have XR:Hid (Cel W0 (w.heap.size+1) (.slice none 0 0) (.slice none 0 0)):=celW hW0 (by simp [go_sem])
   clear hW0
   refine (cA W0 HB0.out).mono ?_
   rintro e w1 ⟨rfl,hB1⟩
   have HB1:=hid2 (bstep HB0.out hB1) hB1
   clear hB1
   obtain ⟨a0,a1,_,_⟩:=XA.out.up HB1.out.2
   go_wp2_with fail
   generalize hW2:World.alloc _ _=W2
   have hB2:Below w1.heap.size w1 W2:=by rw [← hW2];exact up_alloc w1 _
   have HL:Hid (LitN [1,0] (.slice (some ⟨w1.heap.size,0,none⟩) 2 2) W2):=⟨_,rfl,by rw [← hW2];exact nums_lit (k:=.i64) w1 [1,0] 2 (0,0) rfl⟩
   have HB2:=hid2 (bstep HB1.out.1 hB2) (bstep HB1.out.2 hB2)
   clear hW2 hB2 a0 a1
   refine (cT.out W2 _ HB2.out.1 HL.out).mono ?_
   rintro e w6 ⟨v6,rfl,⟨s6,t6,rfl,hs6,ht6⟩,hB6⟩
   obtain ⟨p6,n6,c6,rfl,_⟩:=hs6.nums.lst
   obtain ⟨p7,n7,c7,rfl,_⟩:=ht6.nums.lst
   have hz:=cell_lt XR.out.1
   have hs2:=HB2.out.2.size
   have HF:Hid (TRes (set2 w6 (w.heap.size+1) (.slice p6 n6 c6) (.slice p7 n7 c7)) w.heap.size (.agg #[.slice p6 n6 c6,.slice p7 n7 c7]) D V∧Below w.heap.size w (set2 w6 (w.heap.size+1) (.slice p6 n6 c6) (.slice p7 n7 c7))):=by
    exact ⟨(TRes.set hs6 ht6 (by omega)).low HB2.out.1.size,below_cell (bstep HB2.out.1 hB6) _ (by omega) _ _⟩
   have xr:=(XR.out.up (bstep HB2.out.2 hB6))
   have cf:=xr.set (.slice p6 n6 c6) (.slice p7 n7 c7)
   obtain ⟨r0,r1,r2,r3⟩:=xr
   obtain ⟨y0,y1,_,_⟩:=cf
   clear hs6 ht6 hB6
   go_wp2
   exact bodyPost_ret (v:=.tuple #[.agg #[.slice p6 n6 c6,.slice p7 n7 c7],.int .i64 E]) (by simp [results,Tryz.results91,go_sem,y0,y1]) rfl ⟨_,rfl,HF.out⟩
  ·have hne:((n:Int) != 2)=true:=by simp;omega
   have hne':¬ ((n:Int)=2):=by omega
   unfold flE flD flV
   rw [if_pos hp,if_neg (by omega),if_neg (by omega),if_neg (by omega)]
   clear h1 h2 hd hp HD hlen cT
   go_enter Tryz.func91,Tryz.ntmps91
   go_wp2_with fail
   generalize hW0:World.alloc _ _=W0
   have HB0:=hidB (w:=w) hW0 (by go_grown)
   have XA:Hid (Cel W0 w.heap.size (.slice p n c) (.slice p2 n2 c2)):=celW hW0 (by simp [go_sem])
   have XR:Hid (Cel W0 (w.heap.size+1) (.slice none 0 0) (.slice none 0 0)):=celW hW0 (by simp [go_sem])
   clear hW0
   refine (cA W0 HB0.out).mono ?_
   rintro e w1 ⟨rfl,hB1⟩
   have HB1:=hid2 (bstep HB0.out hB1) hB1
   clear hB1
   obtain ⟨a0,a1,_,_⟩:=XA.out.up HB1.out.2
   have xr:=(XR.out.up HB1.out.2)
   have BF:=below_cell (HB1.out.1) (w.heap.size+1) (by omega) (.slice none 0 0) (.slice none 0 0)
   have cf:=xr.set (.slice none 0 0) (.slice none 0 0)
   obtain ⟨r0,r1,r2,r3⟩:=xr
   obtain ⟨y0,y1,_,_⟩:=cf
   go_wp2
   exact bodyPost_ret (v:=.tuple #[.agg #[.slice none 0 0,.slice none 0 0],.int .i64 4]) (by simp [results,Tryz.results91,go_sem,y0,y1]) rfl ⟨_,rfl,TRes.none _ _,BF⟩
 ·rw [decide_eq_false hp] at cA
  unfold flE flD flV
  rw [if_neg hp,if_neg (fun h=>hp h.1),if_neg (fun h=>hp h.1)]
  clear h1 h2 hd hp HD hlen cT
  go_enter Tryz.func91,Tryz.ntmps91
  go_wp2_with fail
  generalize hW0:World.alloc _ _=W0
  have HB0:=hidB (w:=w) hW0 (by go_grown)
  have XR:Hid (Cel W0 (w.heap.size+1) (.slice none 0 0) (.slice none 0 0)):=celW hW0 (by simp [go_sem])
  clear hW0
  refine (cA W0 HB0.out).mono ?_
  rintro e w1 ⟨rfl,hB1⟩
  have HB1:=hid2 (bstep HB0.out hB1) hB1
  clear hB1
  have xr:=(XR.out.up HB1.out.2)
  have BF:=below_cell (HB1.out.1) (w.heap.size+1) (by omega) (.slice none 0 0) (.slice none 0 0)
  have cf:=xr.set (.slice none 0 0) (.slice none 0 0)
  obtain ⟨r0,r1,r2,r3⟩:=xr
  obtain ⟨y0,y1,_,_⟩:=cf
  go_wp2
  exact bodyPost_ret (v:=.tuple #[.agg #[.slice none 0 0,.slice none 0 0],.int .i64 1]) (by simp [results,Tryz.results91,go_sem,y0,y1]) rfl ⟨_,rfl,TRes.none _ _,BF⟩
end Go.Proofs.YtlhpmjcdkpfjdaaGreatDoor.Wd
namespace Go.Proofs.YtlhpmjcdkpfjdaaGreatDoor.Rf
open Go.RowKit Fx
theorem ofr_ref (n y:Int) (hn:InR n) (ey:hold (n*4294967296)=y) (w:World):
  Calls Tryz.prog 159 #[.int .i64 n] w fun e w'=>e = .returned (.int .i64 y)∧Below w.heap.size w w':=by
 have E:Hid (hold (n*4294967296)=y):=ey
 clear ey
 have hsm:(n.natAbs:Int)*4294967296 < 115792089237316195423570985008687907853269984665640564039457584007913129639936:=by unfold InR at hn;omega
 have HS:Hid ((n.natAbs:Int)*4294967296 < 115792089237316195423570985008687907853269984665640564039457584007913129639936):=hsm
 clear hsm
 go_enter Tryz.func159,Tryz.ntmps159
 go_wp2_with fail
 refine (from_any n hn _).mono ?_
 rintro e w1 ⟨v,rfl,hv,hb1⟩
 go_wp2_with fail
 refine (shifted_any v _ _ hv HS.out _).mono ?_
 rintro e w2 ⟨u,rfl,hu,hb2⟩
 go_wp2_with fail
 refine (held_ref u _ _ hu _).mono ?_
 rintro e w3 ⟨rfl,hb3⟩
 go_wp2
 go_ret
 have c1:=hb1.trans (hb2.mono hb1.size)
 refine ⟨ret_int ?_,c1.trans (hb3.mono c1.size)⟩
 rw [← E.out]
 congr 1
 unfold sv
 by_cases h:n < 0
 ·rw [if_pos (by simpa using h)];omega
 ·rw [if_neg (by simpa using h)];omega
theorem rup {w w1 w2:World} (h:Below w.heap.size w w1) (h2:Below w1.heap.size w1 w2):Below w.heap.size w w2:=h.trans (h2.mono h.size)
theorem rb1 (x:Int) (hx:InR x) (w:World):
  Calls Tryz.prog 141 #[.int .i64 1,.int .i64 x] w fun e w'=>e = .returned (.int .i64 (bendI 1 x))∧Below w.heap.size w w':=by
 rw [bend_1]
 by_cases h:x < 0
 ·rw [if_pos h]
  go_enter Tryz.func141,Tryz.ntmps141
  go_wp2
  go_ret
  exact ⟨rfl,Below.refl _ _⟩
 ·rw [if_neg h]
  have h':0≤x:=by omega
  go_enter Tryz.func141,Tryz.ntmps141
  go_wp2
  go_ret
  exact ⟨rfl,Below.refl _ _⟩
theorem rb2 (x:Int) (hx:InR x) (w:World):
  Calls Tryz.prog 141 #[.int .i64 2,.int .i64 x] w fun e w'=>e = .returned (.int .i64 (bendI 2 x))∧Below w.heap.size w w':=by
 rw [bend_2]
 by_cases h:0 < x
 ·rw [if_pos h]
  go_enter Tryz.func141,Tryz.ntmps141
  go_wp2
  go_ret
  exact ⟨rfl,Below.refl _ _⟩
 ·rw [if_neg h]
  obtain ⟨y,ey⟩:∃ y,by8 x=y:=⟨_,rfl⟩
  rw [ey]
  have h':x≤0:=by omega
  have c8:∀ W,Calls Tryz.prog 159 #[.int .i64 8] W fun e w'=>e = .returned (.int .i64 34359738368)∧Below W.heap.size W w':=fun W=>ofr_ref 8 _ (by unfold InR;omega) (by decide) W
  have cd:∀ W,Calls Tryz.prog 158 #[.int .i64 x,.int .i64 34359738368] W fun e w'=>e = .returned (.int .i64 y)∧Below W.heap.size W w':=fun W=>div_ref x _ hx (by unfold InR;omega) y ((div8 hx).trans ey) W
  clear hx h ey
  go_enter Tryz.func141,Tryz.ntmps141
  go_wp2_with fail
  refine (c8 _).mono ?_
  rintro e w1 ⟨rfl,hB1⟩
  go_wp2_with fail
  refine (cd _).mono ?_
  rintro e w2 ⟨rfl,hB2⟩
  go_wp2
  go_ret
  exact ⟨rfl,rup hB1 hB2⟩
theorem rb3 (x:Int) (hx:InR x) (w:World):
  Calls Tryz.prog 141 #[.int .i64 3,.int .i64 x] w fun e w'=>e = .returned (.int .i64 (bendI 3 x))∧Below w.heap.size w w':=by
 rw [bend_3]
 by_cases h:4294967296 < x
 ·rw [if_pos h]
  go_enter Tryz.func141,Tryz.ntmps141
  go_wp2
  go_ret
  exact ⟨rfl,Below.refl _ _⟩
 ·rw [if_neg h]
  have h':x≤4294967296:=by omega
  by_cases h2:x < -4294967296
  ·rw [if_pos h2]
   go_enter Tryz.func141,Tryz.ntmps141
   go_wp2
   go_ret
   exact ⟨rfl,Below.refl _ _⟩
  ·rw [if_neg h2]
   have h2':-4294967296≤x:=by omega
   go_enter Tryz.func141,Tryz.ntmps141
   go_wp2
   go_ret
   exact ⟨rfl,Below.refl _ _⟩
theorem rb4 (x:Int) (hx:InR x) (w:World):
  Calls Tryz.prog 141 #[.int .i64 4,.int .i64 x] w fun e w'=>e = .returned (.int .i64 (bendI 4 x))∧Below w.heap.size w w':=by
 rw [bend_4]
 by_cases h:x < 0
 ·rw [if_pos h]
  have cn:=neg_ref x hx _ rfl w
  go_enter Tryz.func141,Tryz.ntmps141
  go_wp2_with fail
  refine cn.mono ?_
  rintro e w1 ⟨rfl,hB1⟩
  go_wp2
  go_ret
  exact ⟨rfl,hB1⟩
 ·rw [if_neg h]
  have h':0≤x:=by omega
  go_enter Tryz.func141,Tryz.ntmps141
  go_wp2
  go_ret
  exact ⟨rfl,Below.refl _ _⟩
theorem rb5 (x:Int) (hx:InR x) (w:World):
  Calls Tryz.prog 141 #[.int .i64 5,.int .i64 x] w fun e w'=>e = .returned (.int .i64 (bendI 5 x))∧Below w.heap.size w w':=by
 rw [bend_5]
 obtain ⟨a,ea⟩:∃ a,by2 x=a:=⟨_,rfl⟩
 have ha:InR a:=by rw [← ea];exact by2_rng hx
 obtain ⟨b,eb⟩:∃ b,hold (a+2147483648)=b:=⟨_,rfl⟩
 rw [ea,eb]
 have c8:∀ W,Calls Tryz.prog 159 #[.int .i64 2] W fun e w'=>e = .returned (.int .i64 8589934592)∧Below W.heap.size W w':=fun W=>ofr_ref 2 _ (by unfold InR;omega) (by decide) W
 have cd:∀ W,Calls Tryz.prog 158 #[.int .i64 x,.int .i64 8589934592] W fun e w'=>e = .returned (.int .i64 a)∧Below W.heap.size W w':=fun W=>div_ref x _ hx (by unfold InR;omega) a ((div2 hx).trans ea) W
 have ca:∀ W,Calls Tryz.prog 128 #[.int .i64 a,.int .i64 2147483648] W fun e w'=>e = .returned (.int .i64 b)∧Below W.heap.size W w':=fun W=>add_ref a _ ha (by unfold InR;omega) b eb W
 clear hx ha ea eb
 by_cases h:b < 0
 ·rw [if_pos h]
  go_enter Tryz.func141,Tryz.ntmps141
  go_wp2_with fail
  refine (c8 _).mono ?_
  rintro e w1 ⟨rfl,hB1⟩
  go_wp2_with fail
  refine (cd _).mono ?_
  rintro e w2 ⟨rfl,hB2⟩
  go_wp2_with fail
  refine (ca _).mono ?_
  rintro e w3 ⟨rfl,hB3⟩
  have HB:Hid (Below w.heap.size w w3):=rup (rup hB1 hB2) hB3
  clear hB1 hB2 hB3 c8 cd ca
  go_wp2
  go_ret
  exact ⟨rfl,HB.out⟩
 ·rw [if_neg h]
  have h':0≤b:=by omega
  by_cases h2:4294967296 < b
  ·rw [if_pos h2]
   go_enter Tryz.func141,Tryz.ntmps141
   go_wp2_with fail
   refine (c8 _).mono ?_
   rintro e w1 ⟨rfl,hB1⟩
   go_wp2_with fail
   refine (cd _).mono ?_
   rintro e w2 ⟨rfl,hB2⟩
   go_wp2_with fail
   refine (ca _).mono ?_
   rintro e w3 ⟨rfl,hB3⟩
   have HB:Hid (Below w.heap.size w w3):=rup (rup hB1 hB2) hB3
   clear hB1 hB2 hB3 c8 cd ca
   go_wp2
   go_ret
   exact ⟨rfl,HB.out⟩
  ·rw [if_neg h2]
   have h2':b≤4294967296:=by omega
   go_enter Tryz.func141,Tryz.ntmps141
   go_wp2_with fail
   refine (c8 _).mono ?_
   rintro e w1 ⟨rfl,hB1⟩
   go_wp2_with fail
   refine (cd _).mono ?_
   rintro e w2 ⟨rfl,hB2⟩
   go_wp2_with fail
   refine (ca _).mono ?_
   rintro e w3 ⟨rfl,hB3⟩
   have HB:Hid (Below w.heap.size w w3):=rup (rup hB1 hB2) hB3
   clear hB1 hB2 hB3 c8 cd ca
   go_wp2
   go_ret
   exact ⟨rfl,HB.out⟩
theorem rbend_any (k x:Int) (hk:1≤k∧k≤5) (hx:InR x) (y:Int) (ey:bendI k x=y) (w:World):
  Calls Tryz.prog 141 #[.int .i64 k,.int .i64 x] w fun e w'=>e = .returned (.int .i64 y)∧Below w.heap.size w w':=by
 subst ey
 have:k=1∨k=2∨k=3∨k=4∨k=5:=by omega
 rcases this with rfl|rfl|rfl|rfl|rfl
 ·exact rb1 x hx w
 ·exact rb2 x hx w
 ·exact rb3 x hx w
 ·exact rb4 x hx w
 ·exact rb5 x hx w
end Go.Proofs.YtlhpmjcdkpfjdaaGreatDoor.Rf
namespace Go.Proofs.YtlhpmjcdkpfjdaaGreatDoor.Wd
open Go.RowKit Fx
theorem rbent_any (k:Int) (p p2:Option Addr) (n c n2 c2:Nat) (d x:List Int) (hd:RI d) (hx:RI x) (w:World) (h1:Nums .i64 w (.slice p n c) d) (h2:Nums .i64 w (.slice p2 n2 c2) x):
  Calls Tryz.prog 97 #[.int .i64 k,.agg #[.slice p n c,.slice p2 n2 c2]] w fun e w'=>∃ v',e = .returned (.tuple #[v',.int .i64 (bentE k d x)])∧TRes w' w.heap.size v' (bentD k d x) (bentV k d x)∧Below w.heap.size w w':=by
 have cA:=fun W (hW:Below w.heap.size w W)=>ris_any _ _ d x hd W (h1.up hW) (h2.up hW)
 unfold bentE bentD bentV
 by_cases hk:1≤k∧k≤5
 ·by_cases hp:isP d x
  ·rw [decide_eq_true hp] at cA
   rw [if_pos ⟨hk,hp⟩,if_pos ⟨hk,hp⟩,if_pos ⟨hk,hp⟩]
   have cN:=fun W (hW:Below w.heap.size w W)=>rnew_any _ d hd hp.1 0 W (h1.up hW)
   obtain ⟨V,eV⟩:∃ V,(x.map fun y=>Fx.bendI k y)=V:=⟨_,rfl⟩
   rw [eV]
   obtain ⟨_,_,_,e4,HX⟩:=h2.lst
   cases e4
   have hlen:x.length≤4096:=by rw [hp.2];exact hp.1.2.2
   rw [← hp.2] at cN
   rw [HX.out.1] at hlen cN
   obtain ⟨N,eN⟩:∃ N,N=n2:=⟨_,rfl⟩
   obtain rfl:=eN
   have hlen':(N:Int)≤4096:=by omega
   have HL:Hid (V.length=N):=by show _=_;rw [← eV,List.length_map];exact HX.out.1
   have HV:Hid ((x.map fun y=>Fx.bendI k y)=V∧RI x∧x.length=N∧1≤k∧k≤5):=⟨eV,hx,HX.out.1,hk⟩
   have hk1:=hk.1
   have hk2:=hk.2
   clear eV h1 h2 hd hx hp hk
   go_enter Tryz.func97,Tryz.ntmps97
   go_wp2_with fail
   generalize hW0:World.alloc _ _=W0
   have HB0:=hidB (w:=w) hW0 (by go_grown)
   have XA:Hid (Cel W0 w.heap.size (.slice p n c) (.slice p2 N c2)):=celW hW0 (by simp [go_sem])
   have XR:Hid (Cel W0 (w.heap.size+1) (.slice none 0 0) (.slice none 0 0)):=celW hW0 (by simp [go_sem])
   clear hW0
   refine (cA W0 HB0.out).mono ?_
   rintro e w1 ⟨rfl,hB1⟩
   have HB1:=hid2 (bstep HB0.out hB1) hB1
   clear hB1 cA
   obtain ⟨a0,a1,_,_⟩:=XA.out.up HB1.out.2
   have HBz:Hid (Below w.heap.size w w1∧Below W0.heap.size W0 w1):=HB1.out
   go_wp2_with fail
   refine (cN w1 HBz.out.1).mono ?_
   rintro e w4 ⟨v4,rfl,⟨s4,g,cg,rfl,hs4,ht4,hOff,hgB⟩,hB4⟩
   obtain ⟨p8,n8,c8,rfl,_⟩:=hs4.nums.lst
   have HOff:Hid (Off g (.slice p8 n8 c8)):=hOff
   go_wp2_with fail
   generalize hW5:World.alloc _ _=W5
   obtain ⟨b5,hb5⟩:∃ b5,w4.heap.size=b5:=⟨_,rfl⟩
   have B5:Below w4.heap.size w4 W5:=by rw [← hW5];exact up_alloc w4 _
   have XT:Hid (Cel W5 b5 (.slice p8 n8 c8) (.slice (some ⟨g,0,none⟩) N cg)):=by
    show Cel _ _ _ _
    unfold Cel
    rw [← hW5,← hb5]
    simp [go_sem]
   have HB5:Hid (Below w.heap.size w W5∧Below W0.heap.size W0 W5):=⟨bstep HBz.out.1 (bstep hB4 B5),bstep HBz.out.2 (bstep hB4 B5)⟩
   have HD5:Hid (OwnK .i64 3 W5 w1.heap.size (.slice p8 n8 c8) d):=hs4.up B5
   have HO5:Hid (OwnK .i64 33 W5 g (.slice (some ⟨g,0,none⟩) N cg) (rowF V 0)):=by
    show OwnK _ _ _ _ _ _
    rw [rowF_zero,HL.out]
    exact (ht4.up B5).base
   have hz:=cell_lt XR.out.1
   have hgl:=ht4.size
   have Hg:Hid (W0.heap.size≤g∧w.heap.size+1 < W0.heap.size∧g < b5∧w1.heap.size≤g∧W0.heap.size≤w1.heap.size):=⟨Nat.le_trans HBz.out.2.size hgB,hz,by omega,hgB,HBz.out.2.size⟩
   rw [hb5]
   clear a0 a1 hW5 B5 hb5 hz hgl hs4 ht4 hB4 hgB hOff cN
   go_loopg [7] N (fun gg i wr=>∃ (q:Nat),q≤N∧gg=N - q∧i = .int .i64 (q:Int)∧Hid (OwnK .i64 33 wr g (.slice (some ⟨g,0,none⟩) N cg) (rowF V q))∧Hid (Below w.heap.size w wr∧Stay g W5 wr))
   case atStart=>exact ⟨0,by omega,by omega,by first|rfl|simp,HO5,HB5.out.1,Stay.refl _ _⟩
   case round=>
    obtain ⟨j,hj,hgg,rfl,HRk,hBS⟩:=hrel
    obtain ⟨R1,hR1⟩:∃ R1:World,R1=wr:=⟨_,rfl⟩
    subst hR1
    by_cases hjn:j < N
    ·have hj':(j:Int) < (N:Int):=by omega
     have hnb:b5≠g:=by have:=Hg.out;omega
     have hne0:w.heap.size≠g:=by have:=Hg.out;omega
     obtain ⟨t0,t1,_,_⟩:=XT.out.stay hBS.out.2 hnb
     obtain ⟨a0,a1,_,_⟩:=(XA.out.up HB5.out.2).stay hBS.out.2 hne0
     obtain ⟨q,o,rfl,hc0⟩:=HX.out.2 j hjn
     have hc1:=cell_low hc0 hBS.out.1
     have rx:=HV.out.2.1.at j (by rw [HV.out.2.2.1];exact hjn)
     obtain ⟨X,eX⟩:∃ X,x.getD j 0=X:=⟨_,rfl⟩
     rw [eX] at hc1 rx
     obtain ⟨Z,eZ⟩:∃ Z,Fx.bendI k X=Z:=⟨_,rfl⟩
     have HZ:Hid (V.getD j 0=Z):=by
      show _=_
      rw [← HV.out.1,map_at _ _ _ (by rw [HV.out.2.2.1];exact hjn),eX,eZ]
     have cz:∀ W,Calls Tryz.prog 141 #[.int .i64 k,.int .i64 X] W fun e w'=>e = .returned (.int .i64 Z)∧Below W.heap.size W w':=fun W=>Rf.rbend_any k X HV.out.2.2.2 rx Z eZ W
     clear eX eZ hc0
     have z0:=cell_lt a0
     have z1:=cell_lt t0
     have z2:=cell_lt hc1
     have z3:=HRk.out.size
     clear hnb hne0
     go_wp2_with fail
     refine flow 11 42 (by kernel_rfl) rfl rfl (by kernel_rfl) ?_
     apply Exists.intro
     refine ⟨?_,?_⟩
     ·intro F hF
      have hFc:=hF.cell
      have hFf:=hF.frozen
      simp only [List.take_succ_cons,List.take_zero,List.eraseIdx_cons_succ,List.eraseIdx_cons_zero]
      repeat (go_big_quiet_step (first|(go_at_call 141;with_reducible exact hF.call (cz _))))
      refine wpQuiet_nil ?_
      exact rfl
     ·intro W1 hb1
      simp only [List.drop_succ_cons,List.drop_zero]
      have HR2:=HRk.out.up hb1
      obtain ⟨hown,hfz⟩:=HR2.cell (by rw [rowF_len];exact HL.out) j hjn
      have H5:Hid (OwnK .i64 33 (W1.setCell ⟨g,j,none⟩ (.int .i64 Z)) g (.slice (some ⟨g,0,none⟩) N cg) (rowF V (j+1))):=by
       have:=HR2.store (by rw [rowF_len];exact HL.out) j Z
       have e2:=rowF_set V j (by rw [HL.out];exact hjn)
       rw [HZ.out] at e2
       rw [e2] at this
       exact this
      have hgw:w.heap.size≤g:=by have:=Hg.out;omega
      have H6:Hid (Below w.heap.size w (W1.setCell ⟨g,j,none⟩ (.int .i64 Z))∧Stay g W5 (W1.setCell ⟨g,j,none⟩ (.int .i64 Z))):=⟨(bstep hBS.out.1 hb1).setCell (p:=⟨g,j,none⟩) hgw _,(hBS.out.2.up hb1).set _ _⟩
      clear HR2 hb1 z0 z1 z2 z3 a0 a1 t0 t1 hgw cz
      go_wp2
      go_roundg (N - (j+1))
      case measure=>omega
      case rel=>exact ⟨j+1,by omega,rfl,by first|rfl|simp,H5,H6⟩
    ·obtain rfl:j=N:=by omega
     have hfin:=HRk.out
     rw [← HL.out,rowF_full,HL.out] at hfin
     have HXR:Hid (Cel W5 (w.heap.size+1) (.slice none 0 0) (.slice none 0 0)):=XR.out.up HB5.out.2
     have hnb:b5≠g:=by have:=Hg.out;omega
     obtain ⟨t0,t1,_,_⟩:=XT.out.stay hBS.out.2 hnb
     have hne1:w.heap.size+1≠g:=by have:=Hg.out;omega
     have hfd:=HD5.out.stay hBS.out.2 (fun ad n1 c1 e1=>HOff.out ad n1 c1 e1)
     have HF:Hid (TRes (set2 R1 (w.heap.size+1) (.slice p8 n8 c8) (.slice (some ⟨g,0,none⟩) j cg)) w.heap.size (.agg #[.slice p8 n8 c8,.slice (some ⟨g,0,none⟩) j cg]) d V∧Below w.heap.size w (set2 R1 (w.heap.size+1) (.slice p8 n8 c8) (.slice (some ⟨g,0,none⟩) j cg))):=
      ⟨(TRes.set (hfd.low Hg.out.2.2.2.2) (hfin.low Hg.out.1) Hg.out.2.1).low HB0.out.size,below_cell hBS.out.1 _ (by omega) _ _⟩
     have xr:=HXR.out.stay hBS.out.2 hne1
     have cf:=xr.set (.slice p8 n8 c8) (.slice (some ⟨g,0,none⟩) j cg)
     obtain ⟨r0,r1,r2,r3⟩:=xr
     obtain ⟨y0,y1,_,_⟩:=cf
     clear hfin hfd hne1 hnb
     go_wp2
     exact bodyPost_ret (v:=.tuple #[.agg #[.slice p8 n8 c8,.slice (some ⟨g,0,none⟩) j cg],.int .i64 0]) (by simp [results,Tryz.results97,go_sem,y0,y1]) rfl ⟨_,rfl,HF.out⟩
  ·rw [decide_eq_false hp] at cA
   rw [if_neg fun h=>hp h.2,if_neg fun h=>hp h.2,if_neg fun h=>hp h.2]
   have hk1:=hk.1
   have hk2:=hk.2
   clear h1 h2 hd hx hp hk
   go_enter Tryz.func97,Tryz.ntmps97
   go_wp2_with fail
   generalize hW0:World.alloc _ _=W0
   have HB0:=hidB (w:=w) hW0 (by go_grown)
   have XA:Hid (Cel W0 w.heap.size (.slice p n c) (.slice p2 n2 c2)):=celW hW0 (by simp [go_sem])
   have XR:Hid (Cel W0 (w.heap.size+1) (.slice none 0 0) (.slice none 0 0)):=celW hW0 (by simp [go_sem])
   clear hW0
   refine (cA W0 HB0.out).mono ?_
   rintro e w1 ⟨rfl,hB1⟩
   have HB1:=hid2 (bstep HB0.out hB1) hB1
   clear hB1 cA
   have xr:=(XR.out.up (HB1.out).2)
   have BF:=below_cell ((HB1.out).1) (w.heap.size+1) (by omega) (.slice none 0 0) (.slice none 0 0)
   have cf:=xr.set (.slice none 0 0) (.slice none 0 0)
   obtain ⟨r0,r1,r2,r3⟩:=xr
   obtain ⟨y0,y1,_,_⟩:=cf
   go_wp2
   exact bodyPost_ret (v:=.tuple #[.agg #[.slice none 0 0,.slice none 0 0],.int .i64 1]) (by simp [results,Tryz.results97,go_sem,y0,y1]) rfl ⟨_,rfl,TRes.none _ _,BF⟩
 ·rw [if_neg fun h=>hk h.1,if_neg fun h=>hk h.1,if_neg fun h=>hk h.1]
  clear h1 h2 hd hx cA
  by_cases hk1:k < 1
  ·go_enter Tryz.func97,Tryz.ntmps97
   go_wp2
   exact bodyPost_ret (v:=.tuple #[.agg #[.slice none 0 0,.slice none 0 0],.int .i64 1]) (by simp [results,Tryz.results97,go_sem]) rfl ⟨_,rfl,TRes.none _ _,by go_grown⟩
  ·have hk2:5 < k:=by omega
   have hk3:1≤k:=by omega
   go_enter Tryz.func97,Tryz.ntmps97
   go_wp2
   exact bodyPost_ret (v:=.tuple #[.agg #[.slice none 0 0,.slice none 0 0],.int .i64 1]) (by simp [results,Tryz.results97,go_sem]) rfl ⟨_,rfl,TRes.none _ _,by go_grown⟩
end Go.Proofs.YtlhpmjcdkpfjdaaGreatDoor.Wd
