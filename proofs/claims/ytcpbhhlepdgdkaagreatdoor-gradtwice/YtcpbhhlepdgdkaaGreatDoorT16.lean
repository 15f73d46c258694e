/- conv.BackKernel, where all fits. -/
import Derived.Test.YtcpbhhlepdgdkaaGreatDoorT10
set_option linter.unusedVariables false
set_option linter.unusedSimpArgs false
set_option maxHeartbeats 16000000
set_option maxRecDepth 16000
namespace Go.Proofs.YtcpbhhlepdgdkaaGreatDoor.Wd
open Go.RowKit Fx
theorem q_U (p p2 p3 p4:Option Addr) (n c n2 c2 n3 c3 n4 c4:Nat) (d x d' y:List Int) (st lg:Int) (hd:RI d) (hx:RI x) (aR:RI d') (hy:RI y) (H:bkE d x d' y st lg=0) (w:World) (hT:Hid (Tz w)) (h1:Nums .i64 w (.slice p n c) d) (h2:Nums .i64 w (.slice p2 n2 c2) x) (h3:Nums .i64 w (.slice p3 n3 c3) d') (h4:Nums .i64 w (.slice p4 n4 c4) y):
  Calls Tryz.prog 105 #[.agg #[.slice p n c,.slice p2 n2 c2],.agg #[.slice p3 n3 c3,.slice p4 n4 c4],.int .i64 st,.int .i64 lg] w fun e w'=>∃ v',e = .returned (.tuple #[v',.int .i64 (bkE d x d' y st lg)])/\TRes w' w.heap.size v' (bkD d x d' y st lg) (bkV d x d' y st lg)/\Below w.heap.size w w':=by
 have cA:=fun W (hW:Below w.heap.size w W)=>a_B _ _ d x hd W (h1.up hW) (h2.up hW);have cB:=fun W (hW:Below w.heap.size w W)=>a_B _ _ d' y aR W (h3.up hW) (h4.up hW);have az:∀ W:World,Calls Tryz.prog 126 #[.int .i64 st] W fun e w'=>e = .returned (.bool (decide (1<=st/\st<=64)))/\Below W.heap.size W w':=fun W=>d_g st W;have aB:∀ W:World,Calls Tryz.prog 127 #[.int .i64 lg] W fun e w'=>e = .returned (.bool (decide (1<=lg/\lg<=4096)))/\Below W.heap.size W w':=fun W=>d_N lg W;obtain ⟨_,_,_,e4,HD⟩:=h1.lst;cases e4;obtain ⟨_,_,_,e4,af⟩:=h3.lst;cases e4;have HN:Hid (Nums .i64 w (.slice p2 n2 c2) x/\Nums .i64 w (.slice p4 n4 c4) y):=⟨h2,h4⟩
 haveI:Nonempty World:=⟨w⟩
 by_cases hp:isP d x
 ·rw [decide_eq_true hp] at cA;by_cases hq:isP d' y
  ·rw [decide_eq_true hq] at cB;by_cases hs:1<=st/\st<=64
   ·rw [decide_eq_true hs] at az;by_cases hl:1<=lg/\lg<=4096
    ·rw [decide_eq_true hl] at aB;have hA:biA d x d' y st lg:=⟨hp,hq,hs,hl⟩
     obtain ⟨stN,rfl⟩:∃ q:Nat,st=q:=⟨st.toNat,by omega⟩
     obtain ⟨D,rfl⟩:∃ q:Nat,lg=q:=⟨lg.toNat,by omega⟩
     have bg:n<=4:=by have:=hp.1.1;rw [a_Q,HD.out.1] at this;exact this
     have be:(n:Int)<=4:=by omega
     have bf:n3<=4:=by have:=hq.1.1;rw [a_Q,af.out.1] at this;exact this
     have bd:(n3:Int)<=4:=by omega
     by_cases hn:n=2
     ·subst hn;by_cases a2:n3=2
      ·subst a2;obtain ⟨J,D1,rfl,aZ,k0,k1,k2⟩:=a_W hp HD.out.1;obtain ⟨I,E1,rfl,aP,l0,l1,l3⟩:=a_W hq af.out.1
       have aS:Hid ((∃ q o,p=some ⟨q,o,none⟩/\w.cell? ⟨q,o,none⟩=some (.int .i64 (J:Int))/\w.cell? ⟨q,o+1,none⟩=some (.int .i64 (D1:Int)))/\(∃ q o,p3=some ⟨q,o,none⟩/\w.cell? ⟨q,o,none⟩=some (.int .i64 (I:Int))/\w.cell? ⟨q,o+1,none⟩=some (.int .i64 (E1:Int)))):=by
        obtain ⟨q,o,rfl,bb⟩:=HD.out.2 0 (by omega);obtain ⟨q',o',e',ba⟩:=HD.out.2 1 (by omega);cases e';obtain ⟨r,s,rfl,a7⟩:=af.out.2 0 (by omega);obtain ⟨r',s',e',ak⟩:=af.out.2 1 (by omega);cases e';exact ⟨⟨_,_,rfl,bb,ba⟩,_,_,rfl,a7,ak⟩
       obtain ⟨⟨qa,oa,rfl,aL,aK⟩,qb,ob,rfl,aD,aH⟩:=aS.out;have zD:=c_N k2 k0 k1;have zE:=c_N l3 l0 l1;have bh:(J:Int)<=4096/\(D1:Int)<=4096:=by omega
       have bn:(I:Int)<=4096/\(E1:Int)<=4096:=by omega
       by_cases hw:D<=E1
       ·have bl:(D:Int)<=(E1:Int):=by omega
        by_cases hS:a_M E1 D stN=D1
        ·obtain ⟨O,e2,e3⟩:=i_P hA hw hS;clear H;rw [O,e2,e3];have HG:Hid (∀ (gs:Nat) (pd:Option Addr) (nd cd:Nat) (W:World),Below w.heap.size w W->Nums .i64 W (.slice pd nd cd) [(J:Int),(I:Int),(D:Int)]->SlC W gs I E1 J D stN->W.cell? ⟨w.heap.size,1,none⟩=some (.slice p2 n2 c2)->W.cell? ⟨w.heap.size+1,1,none⟩=some (.slice p4 n4 c4)->Calls Tryz.prog 129 #[.slice pd nd cd,.func (.func 134) #[] #[.pointer (some ⟨gs,0,none⟩),.pointer (some ⟨w.heap.size,0,none⟩),.pointer (some ⟨w.heap.size+1,0,none⟩)]] W fun e w'=>∃ v',e = .returned (.tuple #[v',.int .i64 (f_7 [(J:Int),(I:Int),(D:Int)])])/\TRes w' W.heap.size v' (d_Y [(J:Int),(I:Int),(D:Int)]) (if goodN (ntl [(J:Int),(I:Int),(D:Int)]) then p_o J I D1 E1 D stN x y else [])/\Below W.heap.size W w'):=fun gs pd nd cd W hW hN hs a5 bc=>o_u I E1 J D stN D1 hS (by omega) hw zE.2 (by omega) (by omega) l0 k0 k2 l3 zD.1 zE.1 gs _ _ p2 n2 c2 p4 n4 c4 x y hx hy aZ aP pd nd cd W (Hid.up_tz hT hW) hN hs a5 bc (HN.out.1.up hW) (HN.out.2.up hW);obtain ⟨EE,aY⟩:∃ E,f_7 [(J:Int),(I:Int),(D:Int)]=E:=⟨_,rfl⟩
         obtain ⟨DD,aX⟩:∃ E,d_Y [(J:Int),(I:Int),(D:Int)]=E:=⟨_,rfl⟩
         obtain ⟨VV,a4⟩:∃ E,(if goodN (ntl [(J:Int),(I:Int),(D:Int)]) then p_o J I D1 E1 D stN x y else [])=E:=⟨_,rfl⟩
         rw [aY,aX,a4] at HG ⊢
         have aO:∀ W:World,Calls Tryz.prog 128 #[.agg #[.int .i64 (I:Int),.int .i64 (E1:Int),.int .i64 (J:Int),.int .i64 (D:Int),.int .i64 (stN:Int)]] W fun e w'=>e = .returned (.int .i64 (D1:Int))/\Below W.heap.size W w':=fun W=>by
          have:=e_g I E1 J D stN hw (by omega) (by omega) (by omega) W;rw [hS] at this;exact this
         have bj:((D1:Int) != (D1:Int))=false:=by simp
         have bp:∀ (fn:Fn) (first aQ:Array Value) (w:World),(Instr.makeFunc fn first aQ).run Tryz.prog w = .ok (.func fn first aQ) w:=fun _ _ _ _=>rfl;clear O e2 e3 hA hp hq hd hx aR hy h1 h2 h3 h4 HD af aS aZ aP HN hS aY aX a4;go_enter Tryz.func105,Tryz.ntmps105;go_wp2_with fail
         generalize ag:World.alloc _ _=W0;have aW:=b_1 (w:=w) ag (by go_grown);have XA:Hid (Cel W0 w.heap.size (.slice (some ⟨qa,oa,none⟩) 2 c) (.slice p2 n2 c2)):=a_F ag (by simp [go_sem]);have XB:Hid (Cel W0 (w.heap.size+1) (.slice (some ⟨qb,ob,none⟩) 2 c3) (.slice p4 n4 c4)):=a_F ag (by simp [go_sem]);have XR:Hid (Cel W0 (w.heap.size+1+1) (.slice none 0 0) (.slice none 0 0)):=a_F ag (by simp [go_sem]);clear ag;refine (cA W0 aW.out).mono ?_;rintro e w1 ⟨rfl,ak⟩;have ai:=a_N (a_c aW.out ak) ak;clear ak cA;obtain ⟨b0,b1,_,_⟩:=XB.out.up ai.out.2;go_wp2_with fail
         refine (cB w1 ai.out.1).mono ?_;rintro e w2 ⟨rfl,aM⟩;have aI:=a_N (a_c ai.out.1 aM) (a_c ai.out.2 aM);clear aM cB b0 b1 ai;go_wp2_with fail
         refine (az w2).mono ?_;rintro e w3 ⟨rfl,aJ⟩;have aF:=a_N (a_c aI.out.1 aJ) (a_c aI.out.2 aJ);clear aJ az aI;go_wp2_with fail
         refine (aB w3).mono ?_;rintro e w4 ⟨rfl,aG⟩;have ad:=a_N (a_c aF.out.1 aG) (a_c aF.out.2 aG);clear aG aB aF;obtain ⟨a0,a1,_,_⟩:=XA.out.up ad.out.2;obtain ⟨b0,b1,_,_⟩:=XB.out.up ad.out.2;have a9:=a_a a0;have b9:=a_a b0;have aa:=a_d aL ad.out.1;have au:=a_a aa;have ab:=a_d aK ad.out.1;have aw:=a_a ab;have V:=a_d aD ad.out.1;have an:=a_a V;have R:=a_d aH ad.out.1;have aj:=a_a R;go_wp2_with fail
         refine a_P (fun w5 aU=>?_);have L:Hid (Below w.heap.size w w5/\Below W0.heap.size W0 w5):=by rw [aU];exact ad.out
         clear aU;clear a0 a1 b0 b1 a9 b9 aa au ab aw V an R aj;obtain ⟨a0,a1,_,_⟩:=XA.out.up L.out.2;obtain ⟨b0,b1,_,_⟩:=XB.out.up L.out.2;have a9:=a_a a0;have b9:=a_a b0;have aa:=a_d aL L.out.1;have au:=a_a aa;have ab:=a_d aK L.out.1;have aw:=a_a ab;have V:=a_d aD L.out.1;have an:=a_a V;have R:=a_d aH L.out.1;have aj:=a_a R;go_wp2_with fail
         refine d_7 (.cells #[.int .i64 0,.int .i64 0,.int .i64 0,.int .i64 0,.int .i64 0] 195) 15 16 83 10 (by kernel_rfl) rfl rfl (by kernel_rfl) rfl rfl rfl ?_;apply Exists.intro;refine ⟨?_,?_,?_⟩
         ·intro F hF;have hFc:=hF.cell;have hFf:=hF.frozen;simp only [List.take_succ_cons,List.take_zero,List.eraseIdx_cons_succ,List.eraseIdx_cons_zero]
          repeat (go_big_quiet_step (fail))
          refine wpQuiet_nil ?_;exact rfl
         ·intro W
          kernel_rfl
         intro W6 g8 hW hM;have Y0:=hM.cell (i:=0) rfl;have Y1:=hM.cell (i:=1) rfl;have Y2:=hM.cell (i:=2) rfl;have Y3:=hM.cell (i:=3) rfl;have Y4:=hM.cell (i:=4) rfl;have Z0:=hM.frozen 0;have Z1:=hM.frozen 1;have Z2:=hM.frozen 2;have Z3:=hM.frozen 3;have Z4:=hM.frozen 4;have a8:g8 < W6.heap.size:=hM.1;have aE:w5.heap.size<=g8:=hM.2.1;have N5:=t_a W6 g8 (.int .i64 (I:Int)) (.int .i64 (E1:Int)) (.int .i64 (J:Int)) (.int .i64 (D:Int)) (.int .i64 (stN:Int)) Y0 Y1 Y2 Y3 Y4;have N6:=b_8 (a_c L.out.1 hW) g8 (Nat.le_trans L.out.1.size aE) (.int .i64 (I:Int)) (.int .i64 (E1:Int)) (.int .i64 (J:Int)) (.int .i64 (D:Int)) (.int .i64 (stN:Int));have N7:=b_8 (a_c L.out.2 hW) g8 (Nat.le_trans L.out.2.size aE) (.int .i64 (I:Int)) (.int .i64 (E1:Int)) (.int .i64 (J:Int)) (.int .i64 (D:Int)) (.int .i64 (stN:Int));simp only [List.drop_succ_cons,List.drop_zero];unfold d_K;clear hM hW a0 a1 b0 b1 a9 b9 aa au ab aw V an R aj aE;go_wp2_with fail
         refine a_P (fun w7 a3=>?_);rw [<- a3] at N5 N6 N7;clear a3 Y0 Y1 Y2 Y3 Y4 Z0 Z1 Z2 Z3 Z4 a8;have M:Hid (Below w.heap.size w w7/\Below W0.heap.size W0 w7):=⟨N6,N7⟩
         have X7:Hid (SlC w7 g8 I E1 J D stN):=N5;clear N5 N6 N7;obtain ⟨a0,a1,_,_⟩:=XA.out.up M.out.2;obtain ⟨b0,b1,_,_⟩:=XB.out.up M.out.2;have a9:=a_a a0;have b9:=a_a b0;have aa:=a_d aL M.out.1;have au:=a_a aa;have ab:=a_d aK M.out.1;have aw:=a_a ab;have V:=a_d aD M.out.1;have an:=a_a V;have R:=a_d aH M.out.1;have aj:=a_a R;obtain ⟨z0,z1,z2,z3,z4⟩:=X7.out;have zl:=a_a z0;refine j_B 7 83 (by kernel_rfl) rfl rfl (by kernel_rfl) ?_;apply Exists.intro;refine ⟨?_,?_⟩
         ·intro F hF;have hFc:=hF.cell;have hFf:=hF.frozen;simp only [List.take_succ_cons,List.take_zero,List.eraseIdx_cons_succ,List.eraseIdx_cons_zero]
          repeat (go_big_quiet_step (first|(go_at_call 128;with_reducible exact hF.call (aO _))))
          refine wpQuiet_nil ?_;exact rfl
         intro w8 aA;simp only [List.drop_succ_cons,List.drop_zero];have ax:=a_N (a_c M.out.1 aA) (a_c M.out.2 aA);have X8:Hid (SlC w8 g8 I E1 J D stN):=X7.out.up aA;clear aA a0 a1 b0 b1 a9 b9 aa au ab aw V an R aj z0 z1 z2 z3 z4 zl X7 M aO;obtain ⟨a0,a1,_,_⟩:=XA.out.up ax.out.2;obtain ⟨b0,b1,_,_⟩:=XB.out.up ax.out.2;have a9:=a_a a0;have b9:=a_a b0;obtain ⟨z0,z1,z2,z3,z4⟩:=X8.out;have zl:=a_a z0;go_wp2_with fail
         generalize aN:World.alloc _ _=W9;have ay:Below w8.heap.size w8 W9:=by rw [<- aN];exact a_b w8 _
         have aT:Nums .i64 W9 (.slice (some ⟨w8.heap.size,0,none⟩) 3 3) [(J:Int),(I:Int),(D:Int)]:=by rw [<- aN];exact a_5 (k:=.i64) w8 [(J:Int),(I:Int),(D:Int)] 3 (0,0) rfl
         have ae:=a_N (a_c ax.out.1 ay) (a_c ax.out.2 ay);refine (HG.out g8 _ _ _ W9 ae.out.1 aT (X8.out.up ay) (XA.out.up ae.out.2).2.1 (XB.out.up ae.out.2).2.1).mono ?_;rintro e aV ⟨bm,rfl,⟨bk,bi,rfl,ah,ap⟩,ar⟩;obtain ⟨aq,am,ac,rfl,_⟩:=ah.nums.lst;obtain ⟨ao,av,U,rfl,_⟩:=ap.nums.lst;have aC:=a_N (a_c ae.out.1 ar) (a_c ae.out.2 ar);have xr:=XR.out.up aC.out.2;have hz:=a_a XR.out.1;have bo:=ae.out.2.size;have HF:Hid (TRes (set2 aV (w.heap.size+1+1) (.slice aq am ac) (.slice ao av U)) w.heap.size (.agg #[.slice aq am ac,.slice ao av U]) DD VV/\Below w.heap.size w (set2 aV (w.heap.size+1+1) (.slice aq am ac) (.slice ao av U))):=⟨(TRes.set ah ap (by omega)).low (by have:=ae.out.1.size;omega),a_j aC.out.1 _ (by omega) _ _⟩
         have cf:=xr.set (.slice aq am ac) (.slice ao av U);obtain ⟨r0,r1,r2,r3⟩:=xr;obtain ⟨y0,y1,_,_⟩:=cf;have r9:=a_a r0;clear ah ap ar aT ay aN a0 a1 b0 b1 a9 b9 z0 z1 z2 z3 z4 zl HG;go_wp2;exact bodyPost_ret (v:=.tuple #[.agg #[.slice aq am ac,.slice ao av U],.int .i64 EE]) (by simp [results,Tryz.results105,go_sem,y0,y1]) rfl ⟨_,rfl,HF.out⟩
        ·obtain ⟨SX,a6⟩:∃ S,a_M E1 D stN=S:=⟨_,rfl⟩
         rw [a6] at hS;obtain ⟨O,e2,e3⟩:=e_Z hA (fun h=>hS (by have:=h.2.2.2;simp at this;omega));rw [O] at H;cases H
       ·obtain ⟨O,e2,e3⟩:=e_Z hA (fun h=>hw (by have:=h.2.2.1;simp at this;omega));rw [O] at H;cases H
      ·obtain ⟨O,e2,e3⟩:=e_Z hA (fun h=>a2 (by rw [<- af.out.1];exact h.2.1));rw [O] at H;cases H
     ·obtain ⟨O,e2,e3⟩:=e_Z hA (fun h=>hn (by rw [<- HD.out.1];exact h.1));rw [O] at H;cases H
    ·rw [decide_eq_false hl] at aB;obtain ⟨O,e2,e3⟩:=j_X (d:=d) (x:=x) (d':=d') (y:=y) (st:=st) (lg:=lg) (fun h=>hl h.2.2.2);rw [O] at H;cases H
   ·rw [decide_eq_false hs] at az;obtain ⟨O,e2,e3⟩:=j_X (d:=d) (x:=x) (d':=d') (y:=y) (st:=st) (lg:=lg) (fun h=>hs h.2.2.1);rw [O] at H;cases H
  ·rw [decide_eq_false hq] at cB;obtain ⟨O,e2,e3⟩:=j_X (d:=d) (x:=x) (d':=d') (y:=y) (st:=st) (lg:=lg) (fun h=>hq h.2.1);rw [O] at H;cases H
 ·rw [decide_eq_false hp] at cA;obtain ⟨O,e2,e3⟩:=j_X (d:=d) (x:=x) (d':=d') (y:=y) (st:=st) (lg:=lg) (fun h=>hp h.1);rw [O] at H;cases H
end Go.Proofs.YtcpbhhlepdgdkaaGreatDoor.Wd
