/- The reference's Dot, total, All, Mean and Flip. · The reference's Of, Bend and Slope: what they hand back. · The reference's Unbent: what it hands back. -/
import Derived.Test.YtpdkkcnmgiihcaaGreatDoorP31
import Derived.Test.YtpdkkcnmgiihcaaGreatDoorP09
import Derived.Test.YtpdkkcnmgiihcaaGreatDoorP32
import Derived.Test.YtpdkkcnmgiihcaaGreatDoorP13
import Derived.Test.YtpdkkcnmgiihcaaGreatDoorP28
import Derived.Test.YtpdkkcnmgiihcaaGreatDoorP20
import Derived.Test.YtpdkkcnmgiihcaaGreatDoorP01
set_option linter.unusedVariables false
set_option linter.unusedSimpArgs false
set_option maxHeartbeats 16000000
set_option maxRecDepth 16000
namespace Go.Proofs.YtpdkkcnmgiihcaaGreatDoor.Wd
open Go.RowKit Fx
/-- One of the reference's numbers, whatever the world. -/
def IsSW (S:Int) (v:Value) (W:World):Prop:=Rf.IsS v S
theorem rtotal_any (p p2:Option Addr) (n c n2 c2:Nat) (x:List Int) (hx:RI x) (hn:n2≤4096) (w:World) (hv:Nums .i64 w (.slice p2 n2 c2) x):
  Calls Tryz.prog 98 #[.agg #[.slice p n c,.slice p2 n2 c2]] w fun e w'=>∃ z,e = .returned z∧IsSW (totalI x) z w'∧Below w.heap.size w w':=by
 obtain ⟨_,_,_,e4,HX⟩:=hv.lst
 cases e4
 have HS0:Hid (totalI x=sumI (fun q=>x.getD q 0) n2):=by show _=_;rw [totalI,HX.out.1]
 have HI:Hid (RI x):=hx
 have hn1:(n2:Int)≤4096:=by omega
 obtain ⟨T,eT⟩:∃ T,totalI x=T:=⟨_,rfl⟩
 rw [eT] at HS0 ⊢
 clear hv hx eT
 haveI:Nonempty World:=⟨w⟩
 go_enter Tryz.func98,Tryz.ntmps98
 go_wp2_with fail
 go_loopg [4] n2 (fun g i wr=>∃ (k:Nat),k≤n2∧g=n2 - k∧i = .int .i64 (k:Int)∧Hid (Cel wr w.heap.size (.slice p n c) (.slice p2 n2 c2))∧Hid (LiesS wr (w.heap.size+1) 0)∧Hid (LiesS wr (w.heap.size+1+1) (sumI (fun q=>x.getD q 0) k))∧Hid (Below w.heap.size w wr))
 case atStart=>
  refine ⟨0,by omega,by omega,rfl,?_,?_,?_,show Below _ _ _ by go_grown⟩
  ·show Cel _ _ _ _
   unfold Cel
   simp [go_sem]
  ·show LiesS _ _ _
   refine ⟨false,0,0,0,0,by simp,by simp [go_sem],by simp [go_sem],by simp [go_sem],by simp [go_sem],by simp [go_sem],by simp [go_sem],by simp [go_sem],by simp [go_sem],by simp [go_sem],by simp [go_sem],Rf.zeroS⟩
  ·show LiesS _ _ _
   refine ⟨false,0,0,0,0,by simp,by simp [go_sem],by simp [go_sem],by simp [go_sem],by simp [go_sem],by simp [go_sem],by simp [go_sem],by simp [go_sem],by simp [go_sem],by simp [go_sem],by simp [go_sem],Rf.zeroS⟩
 case round=>
  obtain ⟨k,hk,hg,rfl,XA,LR,L0,HB⟩:=hrel
  obtain ⟨R1,hR1⟩:∃ R1:World,R1=wr:=⟨_,rfl⟩
  subst hR1
  obtain ⟨a0,a1,_,_⟩:=XA.out
  have a9:=cell_lt a0
  by_cases hkn:k < n2
  ·have hkA:(k:Int) < (n2:Int):=by omega
   obtain ⟨q,o,rfl,hc0⟩:=HX.out.2 k (by omega)
   have hc1:=cell_low hc0 HB.out
   have lt0:=cell_lt hc1
   have hX:=getD_inR HI.out k
   have hroom:=sums_room HI.out (fun q=>q) k (by omega) _ hX
   have eS:sumI (fun q=>x.getD q 0) (k+1)=sumI (fun q=>x.getD q 0) k+x.getD k 0:=rfl
   obtain ⟨X,eX⟩:∃ X,x.getD k 0=X:=⟨_,rfl⟩
   obtain ⟨S,eS0⟩:∃ S,sumI (fun q=>x.getD q 0) k=S:=⟨_,rfl⟩
   rw [eX] at hc1 hX
   have hroom:(S.natAbs:Int)+(X.natAbs:Int) < 115792089237316195423570985008687907853269984665640564039457584007913129639936:=by rw [← eS0,← eX];exact hroom
   rw [eX,eS0] at eS
   rw [eS0] at L0
   have HS:Hid (sumI (fun q=>x.getD q 0) (k+1)=S+X):=eS
   obtain ⟨r,u0,u1,u2,u3,lt9,q0,q1,q2,q3,q4,z0,z1,z2,z3,z4,hN⟩:=L0.out
   obtain ⟨zp,hp,cFr⟩:=Rf.fromD hX
   obtain ⟨pr,b0,b1,b2,b3,rfl,hp⟩:=hp.agg
   obtain ⟨zs,hs,cPl⟩:=Rf.plusD hN hp hroom
   obtain ⟨sr,t0,t1,t2,t3,rfl,hs⟩:=hs.agg
   have HSs:Hid (Rf.IsS (.agg #[.bool sr,.int .u64 t0,.int .u64 t1,.int .u64 t2,.int .u64 t3]) (S+X)):=hs
   clear eX eS0 eS hroom hX hc0 hN hp hs
   go_wp2_with fail
   refine flow 8 22 (by kernel_rfl) rfl rfl (by kernel_rfl) ?_
   apply Exists.intro
   refine ⟨?_,?_⟩
   ·intro F hF
    have hFc:=hF.cell
    have hFf:=hF.frozen
    simp only [List.take_succ_cons,List.take_zero,List.eraseIdx_cons_succ,List.eraseIdx_cons_zero]
    repeat (go_big_quiet_step (first|(go_at_call 62;with_reducible exact hF.call (cFr _))|(go_at_call 87;with_reducible exact hF.call (cPl _))))
    refine wpQuiet_nil ?_
    exact rfl
   ·intro W2 hW2
    simp only [List.drop_succ_cons,List.drop_zero]
    have M:=L0.out.up hW2
    have N0:Hid (LiesS (((((W2.setCell ⟨w.heap.size+1+1,0,none⟩ (.bool sr)).setCell ⟨w.heap.size+1+1,1,none⟩ (.int .u64 t0)).setCell ⟨w.heap.size+1+1,2,none⟩ (.int .u64 t1)).setCell ⟨w.heap.size+1+1,3,none⟩ (.int .u64 t2)).setCell ⟨w.heap.size+1+1,4,none⟩ (.int .u64 t3)) (w.heap.size+1+1) (S+X)):=M.set HSs.out
    have NR:Hid (LiesS (((((W2.setCell ⟨w.heap.size+1+1,0,none⟩ (.bool sr)).setCell ⟨w.heap.size+1+1,1,none⟩ (.int .u64 t0)).setCell ⟨w.heap.size+1+1,2,none⟩ (.int .u64 t1)).setCell ⟨w.heap.size+1+1,3,none⟩ (.int .u64 t2)).setCell ⟨w.heap.size+1+1,4,none⟩ (.int .u64 t3)) (w.heap.size+1) 0):=(LR.out.up hW2).stay (stay_set5 _ _ _ _ _ _) (by omega)
    have NA:Hid (Cel (((((W2.setCell ⟨w.heap.size+1+1,0,none⟩ (.bool sr)).setCell ⟨w.heap.size+1+1,1,none⟩ (.int .u64 t0)).setCell ⟨w.heap.size+1+1,2,none⟩ (.int .u64 t1)).setCell ⟨w.heap.size+1+1,3,none⟩ (.int .u64 t2)).setCell ⟨w.heap.size+1+1,4,none⟩ (.int .u64 t3)) w.heap.size (.slice p n c) (.slice (some ⟨q,o,none⟩) n2 c2)):=(XA.out.up hW2).stay (stay_set5 _ _ _ _ _ _) (by omega)
    have B2:Hid (Below w.heap.size w (((((W2.setCell ⟨w.heap.size+1+1,0,none⟩ (.bool sr)).setCell ⟨w.heap.size+1+1,1,none⟩ (.int .u64 t0)).setCell ⟨w.heap.size+1+1,2,none⟩ (.int .u64 t1)).setCell ⟨w.heap.size+1+1,3,none⟩ (.int .u64 t2)).setCell ⟨w.heap.size+1+1,4,none⟩ (.int .u64 t3))):=below_set5 (HB.out.trans (hW2.mono HB.out.size)) _ (by omega) _ _ _ _ _
    obtain ⟨r',v0,v1,v2,v3,lt9',q0',q1',q2',q3',q4',z0',z1',z2',z3',z4',_⟩:=M
    clear hW2 cFr cPl q0 q1 q2 q3 q4 z0 z1 z2 z3 z4 lt9 L0 HB hc1 lt0 a0 a1 a9 XA LR
    go_wp2
    go_roundg (n2 - (k+1))
    case measure=>omega
    case rel=>exact ⟨k+1,by omega,rfl,by first|rfl|simp,NA,NR,by rw [HS.out];exact N0,B2⟩
  ·obtain rfl:k=n2:=by omega
   rw [← HS0.out] at L0
   obtain ⟨r,u0,u1,u2,u3,lt9,q0,q1,q2,q3,q4,z0,z1,z2,z3,z4,hN⟩:=L0.out
   have HN:Hid (IsSW T (.agg #[.bool r,.int .u64 u0,.int .u64 u1,.int .u64 u2,.int .u64 u3]) w):=hN
   have cf:=LR.out.set hN
   have BF:=below_set5 HB.out (w.heap.size+1) (by omega) (.bool r) (.int .u64 u0) (.int .u64 u1) (.int .u64 u2) (.int .u64 u3)
   obtain ⟨r',v0,v1,v2,v3,lt9',q0',q1',q2',q3',q4',z0',z1',z2',z3',z4',_⟩:=LR.out
   obtain ⟨g0,g1,g2,g3,g4⟩:=Rf.five R1 (w.heap.size+1) (.bool r) (.int .u64 u0) (.int .u64 u1) (.int .u64 u2) (.int .u64 u3) q0' q1' q2' q3' q4'
   clear cf hN
   go_wp2
   exact bodyPost_ret (v:=.agg #[.bool r,.int .u64 u0,.int .u64 u1,.int .u64 u2,.int .u64 u3]) (by simp [results,Tryz.results98,go_sem,g0,g1,g2,g3,g4]) rfl ⟨_,rfl,HN.out,BF⟩
theorem rall_any (p p2:Option Addr) (n c n2 c2:Nat) (x:List Int) (hx:RI x) (hn:n2≤4096) (w:World) (hv:Nums .i64 w (.slice p2 n2 c2) x):
  Calls Tryz.prog 77 #[.agg #[.slice p n c,.slice p2 n2 c2]] w fun e w'=>e = .returned (.int .i64 (hold (totalI x)))∧Below w.heap.size w w':=by
 have cT:=fun W (hW:Below w.heap.size w W)=>rtotal_any p p2 n c n2 c2 x hx hn W (hv.up hW)
 have cH:Hid (∀ W v,IsSW (totalI x) v W→Calls Tryz.prog 60 #[v] W fun e w'=>e = .returned (.int .i64 (hold (totalI x)))∧Below W.heap.size W w'):=fun W v h=>Rf.heldS v _ h W
 obtain ⟨T,eT⟩:∃ T,totalI x=T:=⟨_,rfl⟩
 rw [eT] at cT cH ⊢
 obtain ⟨H,eH⟩:∃ H,hold T=H:=⟨_,rfl⟩
 rw [eH] at cH ⊢
 clear hv hx eT eH
 go_enter Tryz.func77,Tryz.ntmps77
 go_wp2_with fail
 refine (cT _ (up_alloc w _)).mono ?_
 rintro e w1 ⟨z,rfl,hz,hB1⟩
 have HB1:Hid (Below w.heap.size w w1):=bstep (up_alloc w _) hB1
 have HZ:Hid (IsSW T z w1):=hz
 clear hB1 hz
 go_wp2_with fail
 refine (cH.out w1 z HZ.out).mono ?_
 rintro e w2 ⟨rfl,hB2⟩
 have HB2:Hid (Below w.heap.size w w2):=bstep HB1.out hB2
 clear hB2
 go_wp2
 go_ret
 exact ⟨rfl,HB2.out⟩
theorem rmean_any (p p2:Option Addr) (n c n2 c2:Nat) (x:List Int) (hx:RI x) (hn:1≤n2∧n2≤4096) (w:World) (hv:Nums .i64 w (.slice p2 n2 c2) x):
  Calls Tryz.prog 78 #[.agg #[.slice p n c,.slice p2 n2 c2]] w fun e w'=>e = .returned (.int .i64 (meanI x))∧Below w.heap.size w w':=by
 obtain ⟨_,_,_,e4,HX⟩:=hv.lst
 cases e4
 have cT:Hid (∀ W,Below w.heap.size w W→Calls Tryz.prog 98 #[.agg #[.slice p n c,.slice p2 n2 c2]] W fun e w'=>∃ z,e = .returned z∧IsSW (totalI x) z w'∧Below W.heap.size W w'):=fun W hW=>rtotal_any p p2 n c n2 c2 x hx hn.2 W (hv.up hW)
 have cD:Hid (∀ W v,IsSW (totalI x) v W→Calls Tryz.prog 61 #[v,.int .i64 (n2:Int)] W fun e w'=>∃ z,e = .returned z∧IsSW (rqI (totalI x) n2) z w'∧Below W.heap.size W w'):=fun W v h=>by
  obtain ⟨z,hz,cz⟩:=Rf.dividedD h (n:=(n2:Int)) (by unfold InR;omega) (by omega)
  refine (cz W).mono ?_
  rintro e w' ⟨rfl,hb⟩
  exact ⟨_,rfl,hz,hb⟩
 have cH:Hid (∀ W v,IsSW (rqI (totalI x) n2) v W→Calls Tryz.prog 60 #[v] W fun e w'=>e = .returned (.int .i64 (meanI x))∧Below W.heap.size W w'):=fun W v h=>by
  rw [meanI,HX.out.1]
  exact Rf.heldS v _ h W
 obtain ⟨M,eM⟩:∃ M,meanI x=M:=⟨_,rfl⟩
 rw [eM] at cH ⊢
 have hn2':(n2:Int)≤4096:=by omega
 clear hv hx eM
 haveI:Nonempty World:=⟨w⟩
 go_enter Tryz.func78,Tryz.ntmps78
 go_wp2_with fail
 refine name_world (fun W0 hW0=>?_)
 have HB0:Hid (Below w.heap.size w W0):=by show Below _ _ _;rw [hW0];exact up_alloc w _
 have XA:Hid (Cel W0 w.heap.size (.slice p n c) (.slice p2 n2 c2)):=by show Cel _ _ _ _;unfold Cel;rw [hW0];simp [go_sem]
 clear hW0
 obtain ⟨a0,a1,_,_⟩:=XA.out
 have a9:=cell_lt a0
 refine rel [⟨1,4,IsSW (totalI x)⟩,⟨5,8,IsSW (rqI (totalI x) n2)⟩] 7 10 (by kernel_rfl) rfl rfl (by kernel_rfl) (by rfl) ?_ ?_
 ·intro e he v W W' h hb
  simp only [List.mem_cons,List.not_mem_nil,or_false] at he
  rcases he with rfl|rfl
  ·exact h
  ·exact h
 apply Exists.intro
 refine ⟨fun x=>?_,?_,?_⟩
 ·simp only [List.take_succ_cons,List.take_zero]
  refine relQuiet rfl rfl ?_
  apply Exists.intro
  refine ⟨fun F hF hf K hK=>?_,?_⟩
  ·have hFc:=hF.cell
   have hFf:=hF.frozen
   go_big_quiet_op
   exact hK
  (try simp only [putL])
  refine relTold rfl rfl ?_ ?_
  ·intro F hF hf d
   have hFc:=hF.cell
   have hFf:=hF.frozen
   simp [yieldsR,yieldsUpon,go_sem]
   refine (cT.out (F d) (bstep HB0.out (hF.below d))).mono ?_
   rintro e' w8 ⟨v8,rfl,h8,hb8⟩
   exact ⟨_,rfl,h8,hb8⟩
  iterate 3
   (try simp only [putL])
   refine relQuiet rfl rfl ?_
   apply Exists.intro
   refine ⟨fun F hF hf K hK=>?_,?_⟩
   ·have hFc:=hF.cell
    have hFf:=hF.frozen
    go_big_quiet_op
    exact hK
  (try simp only [putL])
  refine relTold rfl rfl ?_ ?_
  ·intro F hF hf d
   have hFc:=hF.cell
   have hFf:=hF.frozen
   have h9:=hf _ List.mem_cons_self (by rfl) d
   simp [yieldsR,yieldsUpon,go_sem]
   refine (cD.out (F d) _ h9).mono ?_
   rintro e' w8 ⟨v8,rfl,h8,hb8⟩
   exact ⟨_,rfl,h8,hb8⟩
  (try simp only [putL])
  refine relQuiet rfl rfl ?_
  apply Exists.intro
  refine ⟨fun F hF hf K hK=>?_,?_⟩
  ·have hFc:=hF.cell
   have hFf:=hF.frozen
   go_big_quiet_op
   first|exact hK|(apply Exists.intro;refine ⟨fun _=>?_,?_⟩;(· exact hF.call (cH.out _ _ (hf _ (List.mem_cons_of_mem _ List.mem_cons_self) (by rfl) w)));exact hK)
  (try simp only [putL])
  refine relEnd ?_
  exact rfl
 ·exact fun x=>rfl
 ·intro w9 xs hB9 hf
  simp only [List.drop_succ_cons,List.drop_zero]
  have HB9:Hid (Below w.heap.size w w9):=bstep HB0.out hB9
  clear hf hB9
  go_wp2
  go_ret
  exact ⟨rfl,HB9.out⟩
end Go.Proofs.YtpdkkcnmgiihcaaGreatDoor.Wd
namespace Go.Proofs.YtpdkkcnmgiihcaaGreatDoor.Rf
open Go.RowKit Fx
theorem ofr_ref (n y:Int) (hn:InR n) (ey:hold (n*4294967296)=y) (w:World):
  Calls Tryz.prog 130 #[.int .i64 n] w fun e w'=>e = .returned (.int .i64 y)∧Below w.heap.size w w':=by
 have E:Hid (hold (n*4294967296)=y):=ey
 clear ey
 have hsm:(n.natAbs:Int)*4294967296 < 115792089237316195423570985008687907853269984665640564039457584007913129639936:=by unfold InR at hn;omega
 have HS:Hid ((n.natAbs:Int)*4294967296 < 115792089237316195423570985008687907853269984665640564039457584007913129639936):=hsm
 clear hsm
 go_enter Tryz.func130,Tryz.ntmps130
 go_wp2_with fail
 refine (from_any n hn _).mono ?_
 rintro e w1 ⟨v,rfl,hv,hb1⟩
 go_wp2_with fail
 refine (shifted_any v _ _ hv HS.out _).mono ?_
 rintro e w2 ⟨u,rfl,hu,hb2⟩
 go_wp2_with fail
 refine (held_ref u _ _ hu _).mono ?_
 rintro e w3 ⟨rfl,hb3⟩
 go_wp2
 go_ret
 have c1:=hb1.trans (hb2.mono hb1.size)
 refine ⟨ret_int ?_,c1.trans (hb3.mono c1.size)⟩
 rw [← E.out]
 congr 1
 unfold sv
 by_cases h:n < 0
 ·rw [if_pos (by simpa using h)];omega
 ·rw [if_neg (by simpa using h)];omega
theorem rup {w w1 w2:World} (h:Below w.heap.size w w1) (h2:Below w1.heap.size w1 w2):Below w.heap.size w w2:=h.trans (h2.mono h.size)
theorem rb1 (x:Int) (hx:InR x) (w:World):
  Calls Tryz.prog 99 #[.int .i64 1,.int .i64 x] w fun e w'=>e = .returned (.int .i64 (bendI 1 x))∧Below w.heap.size w w':=by
 rw [bend_1]
 by_cases h:x < 0
 ·rw [if_pos h]
  go_enter Tryz.func99,Tryz.ntmps99
  go_wp2
  go_ret
  exact ⟨rfl,Below.refl _ _⟩
 ·rw [if_neg h]
  have h':0≤x:=by omega
  go_enter Tryz.func99,Tryz.ntmps99
  go_wp2
  go_ret
  exact ⟨rfl,Below.refl _ _⟩
theorem rb2 (x:Int) (hx:InR x) (w:World):
  Calls Tryz.prog 99 #[.int .i64 2,.int .i64 x] w fun e w'=>e = .returned (.int .i64 (bendI 2 x))∧Below w.heap.size w w':=by
 rw [bend_2]
 by_cases h:0 < x
 ·rw [if_pos h]
  go_enter Tryz.func99,Tryz.ntmps99
  go_wp2
  go_ret
  exact ⟨rfl,Below.refl _ _⟩
 ·rw [if_neg h]
  obtain ⟨y,ey⟩:∃ y,by8 x=y:=⟨_,rfl⟩
  rw [ey]
  have h':x≤0:=by omega
  have c8:∀ W,Calls Tryz.prog 130 #[.int .i64 8] W fun e w'=>e = .returned (.int .i64 34359738368)∧Below W.heap.size W w':=fun W=>ofr_ref 8 _ (by unfold InR;omega) (by decide) W
  have cd:∀ W,Calls Tryz.prog 129 #[.int .i64 x,.int .i64 34359738368] W fun e w'=>e = .returned (.int .i64 y)∧Below W.heap.size W w':=fun W=>div_ref x _ hx (by unfold InR;omega) y ((div8 hx).trans ey) W
  clear hx h ey
  go_enter Tryz.func99,Tryz.ntmps99
  go_wp2_with fail
  refine (c8 _).mono ?_
  rintro e w1 ⟨rfl,hB1⟩
  go_wp2_with fail
  refine (cd _).mono ?_
  rintro e w2 ⟨rfl,hB2⟩
  go_wp2
  go_ret
  exact ⟨rfl,rup hB1 hB2⟩
theorem rb3 (x:Int) (hx:InR x) (w:World):
  Calls Tryz.prog 99 #[.int .i64 3,.int .i64 x] w fun e w'=>e = .returned (.int .i64 (bendI 3 x))∧Below w.heap.size w w':=by
 rw [bend_3]
 by_cases h:4294967296 < x
 ·rw [if_pos h]
  go_enter Tryz.func99,Tryz.ntmps99
  go_wp2
  go_ret
  exact ⟨rfl,Below.refl _ _⟩
 ·rw [if_neg h]
  have h':x≤4294967296:=by omega
  by_cases h2:x < -4294967296
  ·rw [if_pos h2]
   go_enter Tryz.func99,Tryz.ntmps99
   go_wp2
   go_ret
   exact ⟨rfl,Below.refl _ _⟩
  ·rw [if_neg h2]
   have h2':-4294967296≤x:=by omega
   go_enter Tryz.func99,Tryz.ntmps99
   go_wp2
   go_ret
   exact ⟨rfl,Below.refl _ _⟩
theorem rb4 (x:Int) (hx:InR x) (w:World):
  Calls Tryz.prog 99 #[.int .i64 4,.int .i64 x] w fun e w'=>e = .returned (.int .i64 (bendI 4 x))∧Below w.heap.size w w':=by
 rw [bend_4]
 by_cases h:x < 0
 ·rw [if_pos h]
  have cn:=neg_ref x hx _ rfl w
  go_enter Tryz.func99,Tryz.ntmps99
  go_wp2_with fail
  refine cn.mono ?_
  rintro e w1 ⟨rfl,hB1⟩
  go_wp2
  go_ret
  exact ⟨rfl,hB1⟩
 ·rw [if_neg h]
  have h':0≤x:=by omega
  go_enter Tryz.func99,Tryz.ntmps99
  go_wp2
  go_ret
  exact ⟨rfl,Below.refl _ _⟩
theorem rb5 (x:Int) (hx:InR x) (w:World):
  Calls Tryz.prog 99 #[.int .i64 5,.int .i64 x] w fun e w'=>e = .returned (.int .i64 (bendI 5 x))∧Below w.heap.size w w':=by
 rw [bend_5]
 obtain ⟨a,ea⟩:∃ a,by2 x=a:=⟨_,rfl⟩
 have ha:InR a:=by rw [← ea];exact by2_rng hx
 obtain ⟨b,eb⟩:∃ b,hold (a+2147483648)=b:=⟨_,rfl⟩
 rw [ea,eb]
 have c8:∀ W,Calls Tryz.prog 130 #[.int .i64 2] W fun e w'=>e = .returned (.int .i64 8589934592)∧Below W.heap.size W w':=fun W=>ofr_ref 2 _ (by unfold InR;omega) (by decide) W
 have cd:∀ W,Calls Tryz.prog 129 #[.int .i64 x,.int .i64 8589934592] W fun e w'=>e = .returned (.int .i64 a)∧Below W.heap.size W w':=fun W=>div_ref x _ hx (by unfold InR;omega) a ((div2 hx).trans ea) W
 have ca:∀ W,Calls Tryz.prog 70 #[.int .i64 a,.int .i64 2147483648] W fun e w'=>e = .returned (.int .i64 b)∧Below W.heap.size W w':=fun W=>add_ref a _ ha (by unfold InR;omega) b eb W
 clear hx ha ea eb
 by_cases h:b < 0
 ·rw [if_pos h]
  go_enter Tryz.func99,Tryz.ntmps99
  go_wp2_with fail
  refine (c8 _).mono ?_
  rintro e w1 ⟨rfl,hB1⟩
  go_wp2_with fail
  refine (cd _).mono ?_
  rintro e w2 ⟨rfl,hB2⟩
  go_wp2_with fail
  refine (ca _).mono ?_
  rintro e w3 ⟨rfl,hB3⟩
  have HB:Hid (Below w.heap.size w w3):=rup (rup hB1 hB2) hB3
  clear hB1 hB2 hB3 c8 cd ca
  go_wp2
  go_ret
  exact ⟨rfl,HB.out⟩
 ·rw [if_neg h]
  have h':0≤b:=by omega
  by_cases h2:4294967296 < b
  ·rw [if_pos h2]
   go_enter Tryz.func99,Tryz.ntmps99
   go_wp2_with fail
   refine (c8 _).mono ?_
   rintro e w1 ⟨rfl,hB1⟩
   go_wp2_with fail
   refine (cd _).mono ?_
   rintro e w2 ⟨rfl,hB2⟩
   go_wp2_with fail
   refine (ca _).mono ?_
   rintro e w3 ⟨rfl,hB3⟩
   have HB:Hid (Below w.heap.size w w3):=rup (rup hB1 hB2) hB3
   clear hB1 hB2 hB3 c8 cd ca
   go_wp2
   go_ret
   exact ⟨rfl,HB.out⟩
  ·rw [if_neg h2]
   have h2':b≤4294967296:=by omega
   go_enter Tryz.func99,Tryz.ntmps99
   go_wp2_with fail
   refine (c8 _).mono ?_
   rintro e w1 ⟨rfl,hB1⟩
   go_wp2_with fail
   refine (cd _).mono ?_
   rintro e w2 ⟨rfl,hB2⟩
   go_wp2_with fail
   refine (ca _).mono ?_
   rintro e w3 ⟨rfl,hB3⟩
   have HB:Hid (Below w.heap.size w w3):=rup (rup hB1 hB2) hB3
   clear hB1 hB2 hB3 c8 cd ca
   go_wp2
   go_ret
   exact ⟨rfl,HB.out⟩
theorem rbend_any (k x:Int) (hk:1≤k∧k≤5) (hx:InR x) (y:Int) (ey:bendI k x=y) (w:World):
  Calls Tryz.prog 99 #[.int .i64 k,.int .i64 x] w fun e w'=>e = .returned (.int .i64 y)∧Below w.heap.size w w':=by
 subst ey
 have:k=1∨k=2∨k=3∨k=4∨k=5:=by omega
 rcases this with rfl|rfl|rfl|rfl|rfl
 ·exact rb1 x hx w
 ·exact rb2 x hx w
 ·exact rb3 x hx w
 ·exact rb4 x hx w
 ·exact rb5 x hx w
theorem rs1 (x:Int) (hx:InR x) (w:World):
  Calls Tryz.prog 93 #[.int .i64 1,.int .i64 x] w fun e w'=>e = .returned (.int .i64 (slopeI 1 x))∧Below w.heap.size w w':=by
 rw [slope_1]
 by_cases h:0 < x
 ·rw [if_pos h]
  go_enter Tryz.func93,Tryz.ntmps93
  go_wp2
  go_ret
  exact ⟨rfl,Below.refl _ _⟩
 ·rw [if_neg h]
  have h':x≤0:=by omega
  go_enter Tryz.func93,Tryz.ntmps93
  go_wp2
  go_ret
  exact ⟨rfl,Below.refl _ _⟩
theorem rs2 (x:Int) (hx:InR x) (w:World):
  Calls Tryz.prog 93 #[.int .i64 2,.int .i64 x] w fun e w'=>e = .returned (.int .i64 (slopeI 2 x))∧Below w.heap.size w w':=by
 rw [slope_2]
 by_cases h:0 < x
 ·rw [if_pos h]
  go_enter Tryz.func93,Tryz.ntmps93
  go_wp2
  go_ret
  exact ⟨rfl,Below.refl _ _⟩
 ·rw [if_neg h]
  have h':x≤0:=by omega
  go_enter Tryz.func93,Tryz.ntmps93
  go_wp2
  go_ret
  exact ⟨rfl,Below.refl _ _⟩
theorem rs3 (x:Int) (hx:InR x) (w:World):
  Calls Tryz.prog 93 #[.int .i64 3,.int .i64 x] w fun e w'=>e = .returned (.int .i64 (slopeI 3 x))∧Below w.heap.size w w':=by
 rw [slope_3]
 by_cases h1:-4294967296 < x
 ·by_cases h2:x < 4294967296
  ·rw [if_pos ⟨h1,h2⟩]
   go_enter Tryz.func93,Tryz.ntmps93
   go_wp2
   go_ret
   exact ⟨rfl,Below.refl _ _⟩
  ·rw [if_neg fun h=>h2 h.2]
   have h2':4294967296≤x:=by omega
   go_enter Tryz.func93,Tryz.ntmps93
   go_wp2
   go_ret
   exact ⟨rfl,Below.refl _ _⟩
 ·rw [if_neg fun h=>h1 h.1]
  have h1':x≤-4294967296:=by omega
  go_enter Tryz.func93,Tryz.ntmps93
  go_wp2
  go_ret
  exact ⟨rfl,Below.refl _ _⟩
theorem rs5 (x:Int) (hx:InR x) (w:World):
  Calls Tryz.prog 93 #[.int .i64 5,.int .i64 x] w fun e w'=>e = .returned (.int .i64 (slopeI 5 x))∧Below w.heap.size w w':=by
 rw [slope_5]
 by_cases h1:-4294967296 < x
 ·by_cases h2:x < 4294967296
  ·rw [if_pos ⟨h1,h2⟩]
   go_enter Tryz.func93,Tryz.ntmps93
   go_wp2
   go_ret
   exact ⟨rfl,Below.refl _ _⟩
  ·rw [if_neg fun h=>h2 h.2]
   have h2':4294967296≤x:=by omega
   go_enter Tryz.func93,Tryz.ntmps93
   go_wp2
   go_ret
   exact ⟨rfl,Below.refl _ _⟩
 ·rw [if_neg fun h=>h1 h.1]
  have h1':x≤-4294967296:=by omega
  go_enter Tryz.func93,Tryz.ntmps93
  go_wp2
  go_ret
  exact ⟨rfl,Below.refl _ _⟩
theorem rs4 (x:Int) (hx:InR x) (w:World):
  Calls Tryz.prog 93 #[.int .i64 4,.int .i64 x] w fun e w'=>e = .returned (.int .i64 (slopeI 4 x))∧Below w.heap.size w w':=by
 rw [slope_4]
 by_cases h:0 < x
 ·rw [if_pos h]
  go_enter Tryz.func93,Tryz.ntmps93
  go_wp2
  go_ret
  exact ⟨rfl,Below.refl _ _⟩
 ·rw [if_neg h]
  have h':x≤0:=by omega
  by_cases h2:x < 0
  ·rw [if_pos h2]
   go_enter Tryz.func93,Tryz.ntmps93
   go_wp2
   go_ret
   exact ⟨rfl,Below.refl _ _⟩
  ·rw [if_neg h2]
   have h2':0≤x:=by omega
   go_enter Tryz.func93,Tryz.ntmps93
   go_wp2
   go_ret
   exact ⟨rfl,Below.refl _ _⟩
theorem rslope_any (k x:Int) (hk:1≤k∧k≤5) (hx:InR x) (y:Int) (ey:slopeI k x=y) (w:World):
  Calls Tryz.prog 93 #[.int .i64 k,.int .i64 x] w fun e w'=>e = .returned (.int .i64 y)∧Below w.heap.size w w':=by
 subst ey
 have:k=1∨k=2∨k=3∨k=4∨k=5:=by omega
 rcases this with rfl|rfl|rfl|rfl|rfl
 ·exact rs1 x hx w
 ·exact rs2 x hx w
 ·exact rs3 x hx w
 ·exact rs4 x hx w
 ·exact rs5 x hx w
end Go.Proofs.YtpdkkcnmgiihcaaGreatDoor.Rf
namespace Go.Proofs.YtpdkkcnmgiihcaaGreatDoor.Wd
open Go.RowKit Fx
theorem runbent_no (k:Int) (p p2 p3 p4:Option Addr) (n c n2 c2 n3 c3 n4 c4:Nat) (d x d' y:List Int) (hd:RI d) (hx:RI x) (hd':RI d') (hy:RI y) (w:World) (h1:Nums .i64 w (.slice p n c) d) (h2:Nums .i64 w (.slice p2 n2 c2) x) (h3:Nums .i64 w (.slice p3 n3 c3) d') (h4:Nums .i64 w (.slice p4 n4 c4) y) (hno:¬ (((1≤k∧k≤5)∧isP d x∧isP d' y)∧d=d')):
  Calls Tryz.prog 63 #[.int .i64 k,.agg #[.slice p n c,.slice p2 n2 c2],.agg #[.slice p3 n3 c3,.slice p4 n4 c4]] w fun e w'=>∃ v',e = .returned (.tuple #[v',.int .i64 (unbE k d x d' y)])∧TRes w' w.heap.size v' (unbD k d x d' y) (unbV k d x d' y)∧Below w.heap.size w w':=by
 have cA:=fun W (hW:Below w.heap.size w W)=>ris_any _ _ d x hd W (h1.up hW) (h2.up hW)
 have cB:=fun W (hW:Below w.heap.size w W)=>ris_any _ _ d' y hd' W (h3.up hW) (h4.up hW)
 by_cases hk:1≤k∧k≤5
 ·have hk1:=hk.1
  have hk2:=hk.2
  by_cases hp:isP d x
  ·rw [decide_eq_true hp] at cA
   by_cases hp':isP d' y
   ·rw [decide_eq_true hp'] at cB
    have hP:isP d x∧isP d' y:=⟨hp,hp'⟩
    have hne:¬ d=d':=fun h=>hno ⟨⟨hk,hp,hp'⟩,h⟩
    have cQ:=fun W (hW:Below w.heap.size w W)=>rsame_any _ _ d d' (by have:=hP.1.1.1;rw [ntl_len] at this;omega) W (h1.up hW) (h3.up hW)
    rw [decide_eq_false hne] at cQ
    obtain ⟨q1,q2,q3⟩:=unb_off (k:=k) ⟨hk,hp,hp'⟩ hne
    rw [q1,q2,q3]
    clear q1 q2 q3 hP hne hno hp hp' hk h1 h2 h3 h4 hd hx hd' hy
    go_enter Tryz.func63,Tryz.ntmps63
    go_wp2_with fail
    generalize hW0:World.alloc _ _=W0
    have HB0:=hidB (w:=w) hW0 (by go_grown)
    have XA:Hid (Cel W0 w.heap.size (.slice p n c) (.slice p2 n2 c2)):=celW hW0 (by simp [go_sem])
    have XB:Hid (Cel W0 (w.heap.size+1) (.slice p3 n3 c3) (.slice p4 n4 c4)):=celW hW0 (by simp [go_sem])
    have XR:Hid (Cel W0 (w.heap.size+2) (.slice none 0 0) (.slice none 0 0)):=celW hW0 (by simp [go_sem])
    clear hW0
    refine (cA W0 HB0.out).mono ?_
    rintro e w1 ⟨rfl,hB1⟩
    have HB1:=hid2 (bstep HB0.out hB1) hB1
    clear hB1 cA
    obtain ⟨b0,b1,_,_⟩:=XB.out.up HB1.out.2
    have z1:=cell_lt b0
    go_wp2_with fail
    refine (cB w1 HB1.out.1).mono ?_
    rintro e w2 ⟨rfl,hB2⟩
    have HB2:=hid2 (bstep HB1.out.1 hB2) (bstep HB1.out.2 hB2)
    clear hB2 cB b0 b1 z1
    obtain ⟨a0,a1,_,_⟩:=XA.out.up HB2.out.2
    obtain ⟨b0,b1,_,_⟩:=XB.out.up HB2.out.2
    have z0:=cell_lt a0
    have z1:=cell_lt b0
    go_wp2_with fail
    refine (cQ w2 HB2.out.1).mono ?_
    rintro e w5 ⟨rfl,mq,rfl⟩
    have HBz:Hid (Below w.heap.size w (w2.drewN mq)∧Below W0.heap.size W0 (w2.drewN mq)):=⟨bstep HB2.out.1 (bdrew _ _),bstep HB2.out.2 (bdrew _ _)⟩
    obtain ⟨wz,hwz⟩:∃ wz:World,w2.drewN mq=wz:=⟨_,rfl⟩
    rw [hwz] at HBz ⊢
    clear cQ a0 a1 z0 b0 b1 z1 hwz
    have xr:=(XR.out.up (HBz.out).2)
    have BF:=below_cell ((HBz.out).1) (w.heap.size+2) (by omega) (.slice none 0 0) (.slice none 0 0)
    have cf:=xr.set (.slice none 0 0) (.slice none 0 0)
    obtain ⟨r0,r1,r2,r3⟩:=xr
    obtain ⟨y0,y1,_,_⟩:=cf
    go_wp2
    exact bodyPost_ret (v:=.tuple #[.agg #[.slice none 0 0,.slice none 0 0],.int .i64 4]) (by simp [results,Tryz.results63,go_sem,y0,y1]) rfl ⟨_,rfl,TRes.none _ _,BF⟩
   ·rw [decide_eq_false hp'] at cB
    obtain ⟨q1,q2,q3⟩:=unb_no (k:=k) (d:=d) (x:=x) (d':=d') (y:=y) fun h=>hp' h.2.2
    rw [q1,q2,q3]
    clear q1 q2 q3 hno hp hp' hk h1 h2 h3 h4 hd hx hd' hy
    go_enter Tryz.func63,Tryz.ntmps63
    go_wp2_with fail
    generalize hW0:World.alloc _ _=W0
    have HB0:=hidB (w:=w) hW0 (by go_grown)
    have XA:Hid (Cel W0 w.heap.size (.slice p n c) (.slice p2 n2 c2)):=celW hW0 (by simp [go_sem])
    have XB:Hid (Cel W0 (w.heap.size+1) (.slice p3 n3 c3) (.slice p4 n4 c4)):=celW hW0 (by simp [go_sem])
    have XR:Hid (Cel W0 (w.heap.size+2) (.slice none 0 0) (.slice none 0 0)):=celW hW0 (by simp [go_sem])
    clear hW0
    refine (cA W0 HB0.out).mono ?_
    rintro e w1 ⟨rfl,hB1⟩
    have HB1:=hid2 (bstep HB0.out hB1) hB1
    clear hB1 cA
    obtain ⟨b0,b1,_,_⟩:=XB.out.up HB1.out.2
    have z1:=cell_lt b0
    go_wp2_with fail
    refine (cB w1 HB1.out.1).mono ?_
    rintro e w2 ⟨rfl,hB2⟩
    have HB2:=hid2 (bstep HB1.out.1 hB2) (bstep HB1.out.2 hB2)
    clear hB2 cB b0 b1 z1
    have xr:=(XR.out.up (HB2.out).2)
    have BF:=below_cell ((HB2.out).1) (w.heap.size+2) (by omega) (.slice none 0 0) (.slice none 0 0)
    have cf:=xr.set (.slice none 0 0) (.slice none 0 0)
    obtain ⟨r0,r1,r2,r3⟩:=xr
    obtain ⟨y0,y1,_,_⟩:=cf
    go_wp2
    exact bodyPost_ret (v:=.tuple #[.agg #[.slice none 0 0,.slice none 0 0],.int .i64 1]) (by simp [results,Tryz.results63,go_sem,y0,y1]) rfl ⟨_,rfl,TRes.none _ _,BF⟩
  ·rw [decide_eq_false hp] at cA
   obtain ⟨q1,q2,q3⟩:=unb_no (k:=k) (d:=d) (x:=x) (d':=d') (y:=y) fun h=>hp h.2.1
   rw [q1,q2,q3]
   clear q1 q2 q3 hno hp hk h1 h2 h3 h4 hd hx hd' hy cB
   go_enter Tryz.func63,Tryz.ntmps63
   go_wp2_with fail
   generalize hW0:World.alloc _ _=W0
   have HB0:=hidB (w:=w) hW0 (by go_grown)
   have XA:Hid (Cel W0 w.heap.size (.slice p n c) (.slice p2 n2 c2)):=celW hW0 (by simp [go_sem])
   have XB:Hid (Cel W0 (w.heap.size+1) (.slice p3 n3 c3) (.slice p4 n4 c4)):=celW hW0 (by simp [go_sem])
   have XR:Hid (Cel W0 (w.heap.size+2) (.slice none 0 0) (.slice none 0 0)):=celW hW0 (by simp [go_sem])
   clear hW0
   refine (cA W0 HB0.out).mono ?_
   rintro e w1 ⟨rfl,hB1⟩
   have HB1:=hid2 (bstep HB0.out hB1) hB1
   clear hB1 cA
   have xr:=(XR.out.up (HB1.out).2)
   have BF:=below_cell ((HB1.out).1) (w.heap.size+2) (by omega) (.slice none 0 0) (.slice none 0 0)
   have cf:=xr.set (.slice none 0 0) (.slice none 0 0)
   obtain ⟨r0,r1,r2,r3⟩:=xr
   obtain ⟨y0,y1,_,_⟩:=cf
   go_wp2
   exact bodyPost_ret (v:=.tuple #[.agg #[.slice none 0 0,.slice none 0 0],.int .i64 1]) (by simp [results,Tryz.results63,go_sem,y0,y1]) rfl ⟨_,rfl,TRes.none _ _,BF⟩
 ·obtain ⟨q1,q2,q3⟩:=unb_no (k:=k) (d:=d) (x:=x) (d':=d') (y:=y) fun h=>hk h.1
  rw [q1,q2,q3]
  clear q1 q2 q3 hno h1 h2 h3 h4 hd hx hd' hy cA cB
  by_cases hk1:k < 1
  ·go_enter Tryz.func63,Tryz.ntmps63
   go_wp2
   exact bodyPost_ret (v:=.tuple #[.agg #[.slice none 0 0,.slice none 0 0],.int .i64 1]) (by simp [results,Tryz.results63,go_sem]) rfl ⟨_,rfl,TRes.none _ _,by go_grown⟩
  ·have hk2:5 < k:=by omega
   have hk3:1≤k:=by omega
   go_enter Tryz.func63,Tryz.ntmps63
   go_wp2
   exact bodyPost_ret (v:=.tuple #[.agg #[.slice none 0 0,.slice none 0 0],.int .i64 1]) (by simp [results,Tryz.results63,go_sem]) rfl ⟨_,rfl,TRes.none _ _,by go_grown⟩
theorem runbent_yes (k:Int) (p p2 p3 p4:Option Addr) (n c n2 c2 n3 c3 n4 c4:Nat) (d x d' y:List Int) (hd:RI d) (hx:RI x) (hd':RI d') (hy:RI y) (w:World) (h1:Nums .i64 w (.slice p n c) d) (h2:Nums .i64 w (.slice p2 n2 c2) x) (h3:Nums .i64 w (.slice p3 n3 c3) d') (h4:Nums .i64 w (.slice p4 n4 c4) y) (hall:((1≤k∧k≤5)∧isP d x∧isP d' y)∧d=d'):
  Calls Tryz.prog 63 #[.int .i64 k,.agg #[.slice p n c,.slice p2 n2 c2],.agg #[.slice p3 n3 c3,.slice p4 n4 c4]] w fun e w'=>∃ v',e = .returned (.tuple #[v',.int .i64 (unbE k d x d' y)])∧TRes w' w.heap.size v' (unbD k d x d' y) (unbV k d x d' y)∧Below w.heap.size w w':=by
 have cA:=fun W (hW:Below w.heap.size w W)=>ris_any _ _ d x hd W (h1.up hW) (h2.up hW)
 have cB:=fun W (hW:Below w.heap.size w W)=>ris_any _ _ d' y hd' W (h3.up hW) (h4.up hW)
 have hk1:=hall.1.1.1
 have hk2:=hall.1.1.2
 rw [decide_eq_true hall.1.2.1] at cA
 rw [decide_eq_true hall.1.2.2] at cB
 have hP:isP d x∧isP d' y:=hall.1.2
 have cQ:=fun W (hW:Below w.heap.size w W)=>rsame_any _ _ d d' (by have:=hP.1.1.1;rw [ntl_len] at this;omega) W (h1.up hW) (h3.up hW)
 rw [decide_eq_true hall.2] at cQ
 obtain ⟨q1,q2,q3⟩:=unb_yes hall.1 hall.2
 rw [q1,q2,q3]
 have cN:=fun W (hW:Below w.heap.size w W)=>rnew_any _ d hd hP.1.1 0 W (h1.up hW)
 obtain ⟨V,eV⟩:∃ V,((List.range x.length).map fun i=>Fx.mulI (y.getD i 0) (Fx.slopeI k (x.getD i 0)))=V:=⟨_,rfl⟩
 rw [eV,← hall.2]
 obtain ⟨_,_,_,e4,HX⟩:=h2.lst
 cases e4
 obtain ⟨_,_,_,e4,HY⟩:=h4.lst
 cases e4
 have hxy:x.length=y.length:=by rw [hall.1.2.1.2,hall.1.2.2.2,hall.2]
 have hlen:x.length≤4096:=by rw [hall.1.2.1.2];exact hall.1.2.1.1.2.2
 rw [← hP.1.2] at cN
 rw [HX.out.1] at hlen cN
 obtain rfl:n2=n4:=by rw [← HX.out.1,← HY.out.1,hxy]
 obtain ⟨N,eN⟩:∃ N,N=n2:=⟨_,rfl⟩
 obtain rfl:=eN
 have hlen':(N:Int)≤4096:=by omega
 have HL:Hid (V.length=N):=by show _=_;rw [← eV,List.length_map,List.length_range];exact HX.out.1
 have HV:Hid (((List.range x.length).map fun i=>Fx.mulI (y.getD i 0) (Fx.slopeI k (x.getD i 0)))=V∧RI x∧RI y∧x.length=N∧y.length=N∧1≤k∧k≤5):=⟨eV,hx,hy,HX.out.1,HY.out.1,hall.1.1⟩
 haveI:Nonempty World:=⟨w⟩
 clear q1 q2 q3 eV h1 h2 h3 h4 hd hx hd' hy hall hP hxy
 go_enter Tryz.func63,Tryz.ntmps63
 go_wp2_with fail
 generalize hW0:World.alloc _ _=W0
 have HB0:=hidB (w:=w) hW0 (by go_grown)
 have XA:Hid (Cel W0 w.heap.size (.slice p n c) (.slice p2 N c2)):=celW hW0 (by simp [go_sem])
 have XB:Hid (Cel W0 (w.heap.size+1) (.slice p3 n3 c3) (.slice p4 N c4)):=celW hW0 (by simp [go_sem])
 have XR:Hid (Cel W0 (w.heap.size+2) (.slice none 0 0) (.slice none 0 0)):=celW hW0 (by simp [go_sem])
 clear hW0
 refine (cA W0 HB0.out).mono ?_
 rintro e w1 ⟨rfl,hB1⟩
 have HB1:=hid2 (bstep HB0.out hB1) hB1
 clear hB1 cA
 obtain ⟨b0,b1,_,_⟩:=XB.out.up HB1.out.2
 have z1:=cell_lt b0
 go_wp2_with fail
 refine (cB w1 HB1.out.1).mono ?_
 rintro e w2 ⟨rfl,hB2⟩
 have HB2:=hid2 (bstep HB1.out.1 hB2) (bstep HB1.out.2 hB2)
 clear hB2 cB b0 b1 z1
 obtain ⟨a0,a1,_,_⟩:=XA.out.up HB2.out.2
 obtain ⟨b0,b1,_,_⟩:=XB.out.up HB2.out.2
 have z0:=cell_lt a0
 have z1:=cell_lt b0
 go_wp2_with fail
 refine (cQ w2 HB2.out.1).mono ?_
 rintro e w5 ⟨rfl,mq,rfl⟩
 have HBz:Hid (Below w.heap.size w (w2.drewN mq)∧Below W0.heap.size W0 (w2.drewN mq)):=⟨bstep HB2.out.1 (bdrew _ _),bstep HB2.out.2 (bdrew _ _)⟩
 obtain ⟨wz,hwz⟩:∃ wz:World,w2.drewN mq=wz:=⟨_,rfl⟩
 rw [hwz] at HBz ⊢
 clear cQ a0 a1 z0 b0 b1 z1 hwz
 obtain ⟨a0,a1,_,_⟩:=XA.out.up HBz.out.2
 go_wp2_with fail
 refine (cN wz HBz.out.1).mono ?_
 rintro e w4 ⟨v4,rfl,⟨s4,g,cg,rfl,hs4,ht4,hOff,hgB⟩,hB4⟩
 obtain ⟨p8,n8,c8,rfl,_⟩:=hs4.nums.lst
 have HOff:Hid (Off g (.slice p8 n8 c8)):=hOff
 go_wp2_with fail
 generalize hW5:World.alloc _ _=W5
 obtain ⟨b5,hb5⟩:∃ b5,w4.heap.size=b5:=⟨_,rfl⟩
 have B5:Below w4.heap.size w4 W5:=by rw [← hW5];exact up_alloc w4 _
 have XT:Hid (Cel W5 b5 (.slice p8 n8 c8) (.slice (some ⟨g,0,none⟩) N cg)):=by
  show Cel _ _ _ _
  unfold Cel
  rw [← hW5,← hb5]
  simp [go_sem]
 have HB5:Hid (Below w.heap.size w W5∧Below W0.heap.size W0 W5):=⟨bstep HBz.out.1 (bstep hB4 B5),bstep HBz.out.2 (bstep hB4 B5)⟩
 have HD5:Hid (OwnK .i64 3 W5 wz.heap.size (.slice p8 n8 c8) d):=hs4.up B5
 have HO5:Hid (OwnK .i64 33 W5 g (.slice (some ⟨g,0,none⟩) N cg) (rowF V 0)):=by
  show OwnK _ _ _ _ _ _
  rw [rowF_zero,HL.out]
  exact (ht4.up B5).base
 have hz:=cell_lt XR.out.1
 have hgl:=ht4.size
 have Hg:Hid (W0.heap.size≤g∧w.heap.size+2 < W0.heap.size∧g < b5∧wz.heap.size≤g∧W0.heap.size≤wz.heap.size):=⟨Nat.le_trans HBz.out.2.size hgB,hz,by omega,hgB,HBz.out.2.size⟩
 rw [hb5]
 clear a0 a1 hW5 B5 hb5 hz hgl hs4 ht4 hB4 hgB hOff cN
 go_loopg [9] N (fun gg i wr=>∃ (q:Nat),q≤N∧gg=N - q∧i = .int .i64 (q:Int)∧Hid (OwnK .i64 33 wr g (.slice (some ⟨g,0,none⟩) N cg) (rowF V q))∧Hid (Below w.heap.size w wr∧Stay g W5 wr))
 case atStart=>exact ⟨0,by omega,by omega,by first|rfl|simp,HO5,HB5.out.1,Stay.refl _ _⟩
 case round=>
  obtain ⟨j,hj,hgg,rfl,HRk,hBS⟩:=hrel
  obtain ⟨R1,hR1⟩:∃ R1:World,R1=wr:=⟨_,rfl⟩
  subst hR1
  by_cases hjn:j < N
  ·have hj':(j:Int) < (N:Int):=by omega
   have hnb:b5≠g:=by have:=Hg.out;omega
   have hne0:w.heap.size≠g:=by have:=Hg.out;omega
   obtain ⟨t0,t1,_,_⟩:=XT.out.stay hBS.out.2 hnb
   obtain ⟨a0,a1,_,_⟩:=(XA.out.up HB5.out.2).stay hBS.out.2 hne0
   have hne1:w.heap.size+1≠g:=by have:=Hg.out;omega
   obtain ⟨b0,b1,_,_⟩:=(XB.out.up HB5.out.2).stay hBS.out.2 hne1
   obtain ⟨q,o,rfl,hc0⟩:=HX.out.2 j hjn
   have hc1:=cell_low hc0 hBS.out.1
   obtain ⟨q',o',rfl,hd0⟩:=HY.out.2 j hjn
   have hd1:=cell_low hd0 hBS.out.1
   have rx:=HV.out.2.1.at j (by rw [HV.out.2.2.2.1];exact hjn)
   have ry:=HV.out.2.2.1.at j (by rw [HV.out.2.2.2.2.1];exact hjn)
   obtain ⟨X,eX⟩:∃ X,x.getD j 0=X:=⟨_,rfl⟩
   obtain ⟨Y,eY⟩:∃ Y,y.getD j 0=Y:=⟨_,rfl⟩
   rw [eX] at hc1 rx
   rw [eY] at hd1 ry
   obtain ⟨SL,eS⟩:∃ SL,Fx.slopeI k X=SL:=⟨_,rfl⟩
   obtain ⟨Z,eZ⟩:∃ Z,Fx.mulI Y SL=Z:=⟨_,rfl⟩
   have HZ:Hid (V.getD j 0=Z):=by
    show _=_
    rw [← HV.out.1,getD_map_range _ _ _ _ (by rw [HV.out.2.2.2.1];exact hjn),eX,eY,eS,eZ]
   have rs:InR SL:=by rw [← eS];exact slope_rng _ _
   have cs:∀ W,Calls Tryz.prog 93 #[.int .i64 k,.int .i64 X] W fun e w'=>e = .returned (.int .i64 SL)∧Below W.heap.size W w':=fun W=>Rf.rslope_any k X HV.out.2.2.2.2.2 rx SL eS W
   have cm:∀ W,Calls Tryz.prog 72 #[.int .i64 Y,.int .i64 SL] W fun e w'=>e = .returned (.int .i64 Z)∧Below W.heap.size W w':=fun W=>Rf.mul_ref Y SL ry rs Z eZ W
   have z5:=cell_lt b0
   have z6:=cell_lt hd1
   clear eX eY eS eZ hc0 hd0 rx ry rs hne1
   have z0:=cell_lt a0
   have z1:=cell_lt t0
   have z2:=cell_lt hc1
   have z3:=HRk.out.size
   clear hnb hne0
   go_wp2_with fail
   refine flow 17 62 (by kernel_rfl) rfl rfl (by kernel_rfl) ?_
   apply Exists.intro
   refine ⟨?_,?_⟩
   ·intro F hF
    have hFc:=hF.cell
    have hFf:=hF.frozen
    simp only [List.take_succ_cons,List.take_zero,List.eraseIdx_cons_succ,List.eraseIdx_cons_zero]
    repeat (go_big_quiet_step (first|(go_at_call 93;with_reducible exact hF.call (cs _))|(go_at_call 72;with_reducible exact hF.call (cm _))))
    refine wpQuiet_nil ?_
    exact rfl
   ·intro W1 hb1
    simp only [List.drop_succ_cons,List.drop_zero]
    have HR2:=HRk.out.up hb1
    obtain ⟨hown,hfz⟩:=HR2.cell (by rw [rowF_len];exact HL.out) j hjn
    have H5:Hid (OwnK .i64 33 (W1.setCell ⟨g,j,none⟩ (.int .i64 Z)) g (.slice (some ⟨g,0,none⟩) N cg) (rowF V (j+1))):=by
     have:=HR2.store (by rw [rowF_len];exact HL.out) j Z
     have e2:=rowF_set V j (by rw [HL.out];exact hjn)
     rw [HZ.out] at e2
     rw [e2] at this
     exact this
    have hgw:w.heap.size≤g:=by have:=Hg.out;omega
    have H6:Hid (Below w.heap.size w (W1.setCell ⟨g,j,none⟩ (.int .i64 Z))∧Stay g W5 (W1.setCell ⟨g,j,none⟩ (.int .i64 Z))):=⟨(bstep hBS.out.1 hb1).setCell (p:=⟨g,j,none⟩) hgw _,(hBS.out.2.up hb1).set _ _⟩
    clear HR2 hb1 z0 z1 z2 z3 a0 a1 t0 t1 hgw cs cm b0 b1 z5 z6
    go_wp2
    go_roundg (N - (j+1))
    case measure=>omega
    case rel=>exact ⟨j+1,by omega,rfl,by first|rfl|simp,H5,H6⟩
  ·obtain rfl:j=N:=by omega
   have hfin:=HRk.out
   rw [← HL.out,rowF_full,HL.out] at hfin
   have HXR:Hid (Cel W5 (w.heap.size+2) (.slice none 0 0) (.slice none 0 0)):=XR.out.up HB5.out.2
   have hnb:b5≠g:=by have:=Hg.out;omega
   obtain ⟨t0,t1,_,_⟩:=XT.out.stay hBS.out.2 hnb
   have hne1:w.heap.size+2≠g:=by have:=Hg.out;omega
   have hfd:=HD5.out.stay hBS.out.2 (fun ad n1 c1 e1=>HOff.out ad n1 c1 e1)
   have HF:Hid (TRes (set2 R1 (w.heap.size+2) (.slice p8 n8 c8) (.slice (some ⟨g,0,none⟩) j cg)) w.heap.size (.agg #[.slice p8 n8 c8,.slice (some ⟨g,0,none⟩) j cg]) d V∧Below w.heap.size w (set2 R1 (w.heap.size+2) (.slice p8 n8 c8) (.slice (some ⟨g,0,none⟩) j cg))):=
    ⟨(TRes.set (hfd.low Hg.out.2.2.2.2) (hfin.low Hg.out.1) Hg.out.2.1).low HB0.out.size,below_cell hBS.out.1 _ (by omega) _ _⟩
   have xr:=HXR.out.stay hBS.out.2 hne1
   have cf:=xr.set (.slice p8 n8 c8) (.slice (some ⟨g,0,none⟩) j cg)
   obtain ⟨r0,r1,r2,r3⟩:=xr
   obtain ⟨y0,y1,_,_⟩:=cf
   clear hfin hfd hne1 hnb
   go_wp2
   exact bodyPost_ret (v:=.tuple #[.agg #[.slice p8 n8 c8,.slice (some ⟨g,0,none⟩) j cg],.int .i64 0]) (by simp [results,Tryz.results63,go_sem,y0,y1]) rfl ⟨_,rfl,HF.out⟩
theorem runbent_any (k:Int) (p p2 p3 p4:Option Addr) (n c n2 c2 n3 c3 n4 c4:Nat) (d x d' y:List Int) (hd:RI d) (hx:RI x) (hd':RI d') (hy:RI y) (w:World) (h1:Nums .i64 w (.slice p n c) d) (h2:Nums .i64 w (.slice p2 n2 c2) x) (h3:Nums .i64 w (.slice p3 n3 c3) d') (h4:Nums .i64 w (.slice p4 n4 c4) y):
  Calls Tryz.prog 63 #[.int .i64 k,.agg #[.slice p n c,.slice p2 n2 c2],.agg #[.slice p3 n3 c3,.slice p4 n4 c4]] w fun e w'=>∃ v',e = .returned (.tuple #[v',.int .i64 (unbE k d x d' y)])∧TRes w' w.heap.size v' (unbD k d x d' y) (unbV k d x d' y)∧Below w.heap.size w w':=by
 by_cases h:((1≤k∧k≤5)∧isP d x∧isP d' y)∧d=d'
 ·exact runbent_yes k p p2 p3 p4 n c n2 c2 n3 c3 n4 c4 d x d' y hd hx hd' hy w h1 h2 h3 h4 h
 ·exact runbent_no k p p2 p3 p4 n c n2 c2 n3 c3 n4 c4 d x d' y hd hx hd' hy w h1 h2 h3 h4 h
end Go.Proofs.YtpdkkcnmgiihcaaGreatDoor.Wd
