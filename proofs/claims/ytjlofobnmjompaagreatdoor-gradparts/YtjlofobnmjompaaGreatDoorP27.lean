/- Tensors: what conv.Row hands back. -/
import Derived.Test.YtjlofobnmjompaaGreatDoorP14
set_option linter.unusedVariables false
set_option linter.unusedSimpArgs false
set_option maxHeartbeats 16000000
set_option maxRecDepth 16000
namespace Go.Proofs.YtjlofobnmjompaaGreatDoor.Wd
open Go.RowKit Fx
theorem o_G (p p2 p3 p4:Option Addr) (n c n2 c2 n3 c3 n4 c4:Nat) (d x d' y:List Int) (st:Int) (hd:RI d) (hx:RI x) (ao:RI d') (hy:RI y) (w:World) (hT:Hid (Tz w)) (h1:Nums .i64 w (.slice p n c) d) (h2:Nums .i64 w (.slice p2 n2 c2) x) (h3:Nums .i64 w (.slice p3 n3 c3) d') (h4:Nums .i64 w (.slice p4 n4 c4) y):
  Calls Tryz.prog 127 #[.agg #[.slice p n c,.slice p2 n2 c2],.agg #[.slice p3 n3 c3,.slice p4 n4 c4],.int .i64 st] w fun e w'=>∃ v',e = .returned (.tuple #[v',.int .i64 (rwE d x d' y st)])/\TRes w' w.heap.size v' (rwD d x d' y st) (rwV d x d' y st)/\Below w.heap.size w w':=by
 have cA:=fun W (hW:Below w.heap.size w W)=>a_C _ _ d x hd W (h1.up hW) (h2.up hW);have cB:=fun W (hW:Below w.heap.size w W)=>a_C _ _ d' y ao W (h3.up hW) (h4.up hW);have aa:∀ W:World,Calls Tryz.prog 137 #[.int .i64 st] W fun e w'=>e = .returned (.bool (decide (1<=st/\st<=64)))/\Below W.heap.size W w':=fun W=>d_c st W;obtain ⟨_,_,_,e4,HD⟩:=h1.lst;cases e4;obtain ⟨_,_,_,e4,ag⟩:=h3.lst;cases e4;have HN:Hid (Nums .i64 w (.slice p2 n2 c2) x/\Nums .i64 w (.slice p4 n4 c4) y):=⟨h2,h4⟩
 haveI:Nonempty World:=⟨w⟩
 by_cases hp:isP d x
 ·rw [decide_eq_true hp] at cA;by_cases hq:isP d' y
  ·rw [decide_eq_true hq] at cB;by_cases hs:1<=st/\st<=64
   ·rw [decide_eq_true hs] at aa;have hA:rwA d x d' y st:=⟨hp,hq,hs⟩
    obtain ⟨stN,rfl⟩:∃ q:Nat,st=q:=⟨st.toNat,by omega⟩
    have bd:n<=4:=by have:=hp.1.1;rw [a_R,HD.out.1] at this;exact this
    have a4:(n:Int)<=4:=by omega
    have ba:n3<=4:=by have:=hq.1.1;rw [a_R,ag.out.1] at this;exact this
    have a3:(n3:Int)<=4:=by omega
    by_cases hn:n=2
    ·subst hn;by_cases aJ:n3=3
     ·subst aJ;obtain ⟨D0,D1,rfl,aN,k0,k1,k2⟩:=a_Y hp HD.out.1;obtain ⟨E0,E1,E2,rfl,aO,l0,l1,l2,l3⟩:=c_d hq ag.out.1
      have aE:Hid ((∃ q o,p=some ⟨q,o,none⟩/\w.cell? ⟨q,o,none⟩=some (.int .i64 (D0:Int))/\w.cell? ⟨q,o+1,none⟩=some (.int .i64 (D1:Int)))/\(∃ q o,p3=some ⟨q,o,none⟩/\w.cell? ⟨q,o,none⟩=some (.int .i64 (E0:Int))/\w.cell? ⟨q,o+1,none⟩=some (.int .i64 (E1:Int))/\w.cell? ⟨q,o+2,none⟩=some (.int .i64 (E2:Int)))):=by
       obtain ⟨q,o,rfl,aU⟩:=HD.out.2 0 (by omega);obtain ⟨q',o',e',aY⟩:=HD.out.2 1 (by omega);cases e';obtain ⟨r,s,rfl,aS⟩:=ag.out.2 0 (by omega);obtain ⟨r',s',e',J⟩:=ag.out.2 1 (by omega);cases e';obtain ⟨r',s',e',L⟩:=ag.out.2 2 (by omega);cases e';exact ⟨⟨_,_,rfl,aU,aY⟩,_,_,rfl,aS,J,L⟩
      obtain ⟨⟨qa,oa,rfl,av,ay⟩,qb,ob,rfl,aD,aA,ax⟩:=aE.out;have zD:=c_L k2 k0 k1;have a2:E0*E1<=4096:=Nat.le_trans (Nat.le_mul_of_pos_right _ l2) l3;have zE:=c_L a2 l0 l1;have a6:E2<=4096:=by have:=Nat.mul_le_mul (Nat.mul_le_mul l0 l1) (Nat.le_refl E2);omega
      have a5:(D0:Int)<=4096/\(D1:Int)<=4096:=by omega
      have a8:(E0:Int)<=4096/\(E1:Int)<=4096/\(E2:Int)<=4096:=by omega
      by_cases hm:D0=E1
      ·subst hm;have aH:((D0:Int) != (D0:Int))=false:=by simp
       by_cases hw:E2<=D1
       ·have aT:(E2:Int)<=(D1:Int):=by omega
        obtain ⟨S,hS⟩:∃ S,a_M D1 E2 stN=S:=⟨_,rfl⟩
        obtain ⟨e1,e2,e3⟩:=q_h hA hw hS;rw [e1,e2,e3];have HG:Hid (∀ (gs:Nat) (pd:Option Addr) (nd cd:Nat) (W:World),Below w.heap.size w W->Nums .i64 W (.slice pd nd cd) [(E0:Int),(S:Int)]->SlC W gs D0 D1 E0 E2 stN->W.cell? ⟨w.heap.size,1,none⟩=some (.slice p2 n2 c2)->W.cell? ⟨w.heap.size+1,1,none⟩=some (.slice p4 n4 c4)->Calls Tryz.prog 140 #[.slice pd nd cd,.func (.func 155) #[] #[.pointer (some ⟨gs,0,none⟩),.pointer (some ⟨w.heap.size,0,none⟩),.pointer (some ⟨w.heap.size+1,0,none⟩)]] W fun e w'=>∃ v',e = .returned (.tuple #[v',.int .i64 (f_1 [(E0:Int),(S:Int)])])/\TRes w' W.heap.size v' (d_V [(E0:Int),(S:Int)]) (if goodN (ntl [(E0:Int),(S:Int)]) then h_V D0 D1 E2 E0 S stN x y else [])/\Below W.heap.size W w'):=fun gs pd nd cd W hW hN hs aR aV=>o_l D0 D1 E0 E2 stN S hS l2 hw zD.2 (by omega) (by omega) k0 l0 l3 k2 zE.1 zD.1 gs _ _ p2 n2 c2 p4 n4 c4 x y hx hy aN aO pd nd cd W (Hid.up_tz hT hW) hN hs aR aV (HN.out.1.up hW) (HN.out.2.up hW);obtain ⟨EE,aK⟩:∃ E,f_1 [(E0:Int),(S:Int)]=E:=⟨_,rfl⟩
        obtain ⟨DD,aL⟩:∃ E,d_V [(E0:Int),(S:Int)]=E:=⟨_,rfl⟩
        obtain ⟨VV,aM⟩:∃ E,(if goodN (ntl [(E0:Int),(S:Int)]) then h_V D0 D1 E2 E0 S stN x y else [])=E:=⟨_,rfl⟩
        rw [aK,aL,aM] at HG ⊢
        have aP:∀ W:World,Calls Tryz.prog 139 #[.agg #[.int .i64 (D0:Int),.int .i64 (D1:Int),.int .i64 (E0:Int),.int .i64 (E2:Int),.int .i64 (stN:Int)]] W fun e w'=>e = .returned (.int .i64 (S:Int))/\Below W.heap.size W w':=fun W=>by
         have:=e_d D0 D1 E0 E2 stN hw (by omega) (by omega) (by omega) W;rw [hS] at this;exact this
        have bc:∀ (fn:Fn) (first cap:Array Value) (w:World),(Instr.makeFunc fn first cap).run Tryz.prog w = .ok (.func fn first cap) w:=fun _ _ _ _=>rfl;clear e1 e2 e3 hA hp hq hd hx ao hy h1 h2 h3 h4 HD ag aE aN aO HN hS aK aL aM;go_enter Tryz.func127,Tryz.ntmps127;go_wp2_with fail
        generalize D:World.alloc _ _=W0;have O:=b_W (w:=w) D (by go_grown);have XA:Hid (Cel W0 w.heap.size (.slice (some ⟨qa,oa,none⟩) 2 c) (.slice p2 n2 c2)):=a_F D (by simp [go_sem]);have XB:Hid (Cel W0 (w.heap.size+1) (.slice (some ⟨qb,ob,none⟩) 3 c3) (.slice p4 n4 c4)):=a_F D (by simp [go_sem]);have XR:Hid (Cel W0 (w.heap.size+1+1) (.slice none 0 0) (.slice none 0 0)):=a_F D (by simp [go_sem]);clear D;refine (cA W0 O.out).mono ?_;rintro e w1 ⟨rfl,J⟩;have H:=a_N (a_c O.out J) J;clear J cA;obtain ⟨V,b1,_,_⟩:=XB.out.up H.out.2;go_wp2_with fail
        refine (cB w1 H.out.1).mono ?_;rintro e w2 ⟨rfl,L⟩;have M:=a_N (a_c H.out.1 L) (a_c H.out.2 L);clear L cB V b1 H;go_wp2_with fail
        refine (aa w2).mono ?_;rintro e w3 ⟨rfl,R⟩;have I:=a_N (a_c M.out.1 R) (a_c M.out.2 R);clear R aa M;obtain ⟨a0,a1,_,_⟩:=XA.out.up I.out.2;obtain ⟨V,b1,_,_⟩:=XB.out.up I.out.2;have a9:=a_a a0;have b9:=a_a V;have af:=a_d av I.out.1;have ap:=a_a af;have ai:=a_d ay I.out.1;have an:=a_a ai;have ae:=a_d aD I.out.1;have ak:=a_a ae;have ah:=a_d aA I.out.1;have am:=a_a ah;have ab:=a_d ax I.out.1;have aj:=a_a ab;go_wp2_with fail
        go_quiet (fail)
        generalize ac:World.drewN w3 nq=w5;have U:Hid (Below w.heap.size w w5/\Below W0.heap.size W0 w5):=by rw [<- ac];exact ⟨a_m I.out.1 nq,a_m I.out.2 nq⟩
        clear ac;clear a0 a1 V b1 a9 b9 af ap ai an ae ak ah am ab aj;obtain ⟨a0,a1,_,_⟩:=XA.out.up U.out.2;obtain ⟨V,b1,_,_⟩:=XB.out.up U.out.2;have a9:=a_a a0;have b9:=a_a V;have af:=a_d av U.out.1;have ap:=a_a af;have ai:=a_d ay U.out.1;have an:=a_a ai;have ae:=a_d aD U.out.1;have ak:=a_a ae;have ah:=a_d aA U.out.1;have am:=a_a ah;have ab:=a_d ax U.out.1;have aj:=a_a ab;go_wp2_with fail
        refine d_4 (.cells #[.int .i64 0,.int .i64 0,.int .i64 0,.int .i64 0,.int .i64 0] 204) 18 19 83 8 (by kernel_rfl) rfl rfl (by kernel_rfl) rfl rfl rfl ?_;apply Exists.intro;refine ⟨?_,?_,?_⟩
        ·intro F hF;have hFc:=hF.cell;have hFf:=hF.frozen;simp only [List.take_succ_cons,List.take_zero,List.eraseIdx_cons_succ,List.eraseIdx_cons_zero]
         repeat (go_big_quiet_step (fail))
         refine wpQuiet_nil ?_;exact rfl
        ·intro W
         kernel_rfl
        intro W6 g8 hW hM;have Y0:=hM.cell (i:=0) rfl;have Y1:=hM.cell (i:=1) rfl;have Y2:=hM.cell (i:=2) rfl;have Y3:=hM.cell (i:=3) rfl;have Y4:=hM.cell (i:=4) rfl;have Z0:=hM.frozen 0;have Z1:=hM.frozen 1;have Z2:=hM.frozen 2;have Z3:=hM.frozen 3;have Z4:=hM.frozen 4;have aZ:g8 < W6.heap.size:=hM.1;have aI:w5.heap.size<=g8:=hM.2.1;have N5:=s_U W6 g8 (.int .i64 (D0:Int)) (.int .i64 (D1:Int)) (.int .i64 (E0:Int)) (.int .i64 (E2:Int)) (.int .i64 (stN:Int)) Y0 Y1 Y2 Y3 Y4;have N6:=b_3 (a_c U.out.1 hW) g8 (Nat.le_trans U.out.1.size aI) (.int .i64 (D0:Int)) (.int .i64 (D1:Int)) (.int .i64 (E0:Int)) (.int .i64 (E2:Int)) (.int .i64 (stN:Int));have N7:=b_3 (a_c U.out.2 hW) g8 (Nat.le_trans U.out.2.size aI) (.int .i64 (D0:Int)) (.int .i64 (D1:Int)) (.int .i64 (E0:Int)) (.int .i64 (E2:Int)) (.int .i64 (stN:Int));simp only [List.drop_succ_cons,List.drop_zero];unfold d_H;clear hM hW a0 a1 V b1 a9 b9 af ap ai an ae ak ah am ab aj aI;go_wp2_with fail
        refine a_Q (fun w7 aQ=>?_);rw [<- aQ] at N5 N6 N7;clear aQ Y0 Y1 Y2 Y3 Y4 Z0 Z1 Z2 Z3 Z4 aZ;have ad:Hid (Below w.heap.size w w7/\Below W0.heap.size W0 w7):=⟨N6,N7⟩
        have X7:Hid (SlC w7 g8 D0 D1 E0 E2 stN):=N5;clear N5 N6 N7;obtain ⟨a0,a1,_,_⟩:=XA.out.up ad.out.2;obtain ⟨V,b1,_,_⟩:=XB.out.up ad.out.2;have a9:=a_a a0;have b9:=a_a V;have af:=a_d av ad.out.1;have ap:=a_a af;have ai:=a_d ay ad.out.1;have an:=a_a ai;have ae:=a_d aD ad.out.1;have ak:=a_a ae;have ah:=a_d aA ad.out.1;have am:=a_a ah;have ab:=a_d ax ad.out.1;have aj:=a_a ab;obtain ⟨z0,z1,z2,z3,z4⟩:=X7.out;have zl:=a_a z0;refine l_A [⟨4,78,LitN [(E0:Int),(S:Int)]⟩,⟨6,80,TupP w7.heap.size DD VV EE⟩,⟨7,81,OwnT w7.heap.size DD VV⟩] 9 83 (by kernel_rfl) rfl rfl 8 _ rfl (by decide) rfl (by kernel_rfl) (by kernel_rfl) (fun _ _ _ _ h=>h) (by rfl) ?_ ?_
        ·intro e he v W W' h hb;simp only [List.mem_cons,List.not_mem_nil,or_false] at he;rcases he with rfl|rfl|rfl
         ·exact LitN.up h hb
         ·exact TupP.up h hb
         ·exact OwnT.up h hb
        apply Exists.intro;refine ⟨?yl1,?wk1,?pk1,?rest1⟩
        case wk1=>
         intro x;simp only [List.take_succ_cons,List.take_zero]
         iterate 3
          refine a_l rfl rfl ?_;apply Exists.intro;refine ⟨fun F hF hf K hK=>?_,?_⟩
          ·have hFc:=hF.cell;have hFf:=hF.frozen
           go_big_quiet_op
           exact hK
          (try simp only [c_I])
         refine a_l rfl rfl ?_;apply Exists.intro;refine ⟨fun F hF hf K hK=>?_,?_⟩
         ·have hFc:=hF.cell;have hFf:=hF.frozen
          go_big_quiet_op
          first|exact hK|(apply Exists.intro;refine ⟨fun _=>?_,?_⟩;(· exact hF.call (aP _));exact hK)
         (try simp only [c_I])
         refine a_o rfl rfl ?_ ?_
         ·intro F hF hf d;have hFc:=hF.cell;have hFf:=hF.frozen;simp [a_j,a_f,go_sem];exact ⟨⟨(F d).heap.size,rfl,a_5 (k:=.i64) (F d) [(E0:Int),(S:Int)] 2 (0,0) rfl⟩,a_b _ _⟩
         (try simp only [c_I])
         refine a_l rfl rfl ?_;apply Exists.intro;refine ⟨fun F hF hf K hK=>?_,?_⟩
         ·have hFc:=hF.cell;have hFf:=hF.frozen
          go_big_quiet_op
          exact hK
         (try simp only [c_I])
         refine a_o rfl rfl ?_ ?_
         ·intro F hF hf d;have hFc:=hF.cell;have hFf:=hF.frozen;have h9:=hf _ List.mem_cons_self (by rfl) d;obtain ⟨g9,e9,n9⟩:=h9;simp only [] at e9 n9;rw [e9] at n9;simp [a_j,a_f,go_sem,e9];have hB:=hF.below d;refine (HG.out g8 _ _ _ (F d) (a_c ad.out.1 hB) n9 (X7.out.up hB) (XA.out.up (a_c ad.out.2 hB)).2.1 (XB.out.up (a_c ad.out.2 hB)).2.1).mono ?_;rintro e' w8 ⟨v8,rfl,h8,aX⟩;exact ⟨_,rfl,⟨v8,rfl,(h8.low hB.size).own⟩,aX⟩
         (try simp only [c_I])
         refine a_o rfl rfl ?_ ?_
         ·intro F hF hf d;have hFc:=hF.cell;have hFf:=hF.frozen;have h9:=hf _ (List.mem_cons_of_mem _ List.mem_cons_self) (by rfl) d;obtain ⟨u9,e9,n9⟩:=h9;simp only [] at e9 n9;simp [a_j,a_f,go_sem,e9];exact ⟨n9,Below.refl _ _⟩
         (try simp only [c_I])
         refine a_l rfl rfl ?_;apply Exists.intro;refine ⟨fun F hF hf K hK=>?_,?_⟩
         ·have hFc:=hF.cell;have hFf:=hF.frozen;have h9:=hf _ (List.mem_cons_of_mem _ List.mem_cons_self) (by rfl);obtain ⟨u9,e9,_⟩:=h9 w;simp only [] at e9
          go_big_quiet_op
          exact hK
         (try simp only [c_I])
         refine b_a ?_;exact rfl
        case pk1=>
         intro x;simp only [b_k,List.foldl_cons,List.foldl_nil,Act.put,sA_,sB_,sC_]
        case yl1=>
         intro x hx;obtain ⟨W9,u9,e9,_⟩:=hx _ (List.mem_cons_of_mem _ List.mem_cons_self) (by rfl);simp only [] at e9;refine ⟨.int .i64 EE,fun t ht=>?_,.inl ⟨by rfl,fun w=>?_⟩⟩
         ·cases ht;rfl
         ·simp [execOp,Act.eval,e9,go_sem]
        intro zz xs aC hf;simp only [List.drop_succ_cons,List.drop_zero];have aW:=hf _ (List.mem_cons_of_mem _ (List.mem_cons_of_mem _ List.mem_cons_self));obtain ⟨az,au,ar,aB,aw,aq,ev,o1,o2⟩:=aW;simp only [] at ev;obtain ⟨x4,e4⟩:∃ q,xs 4=q:=⟨_,rfl⟩
        obtain ⟨x6,e6⟩:∃ q,xs 6=q:=⟨_,rfl⟩
        simp only [ev,e4,e6];have aF:=a_N (a_c ad.out.1 aC) (a_c ad.out.2 aC);have xr:=XR.out.up aF.out.2;have hz:=a_a XR.out.1;have a7:=ad.out.2.size;have HF:Hid (TRes (set2 zz (w.heap.size+1+1) (.slice az au ar) (.slice aB aw aq)) w.heap.size (.agg #[.slice az au ar,.slice aB aw aq]) DD VV/\Below w.heap.size w (set2 zz (w.heap.size+1+1) (.slice az au ar) (.slice aB aw aq))):=⟨(TRes.set o1 o2 (by omega)).low (by have:=ad.out.1.size;omega),a_k aF.out.1 _ (by omega) _ _⟩
        have cf:=xr.set (.slice az au ar) (.slice aB aw aq);obtain ⟨r0,r1,r2,r3⟩:=xr;obtain ⟨y0,y1,_,_⟩:=cf;have r9:=a_a r0;clear o1 o2 aC hf a0 a1 V b1 a9 b9 af ap ai an ae ak ah am ab aj z0 z1 z2 z3 z4 zl HG aP;go_wp2;exact bodyPost_ret (v:=.tuple #[.agg #[.slice az au ar,.slice aB aw aq],.int .i64 EE]) (by simp [results,Tryz.results127,go_sem,y0,y1]) rfl ⟨_,rfl,HF.out⟩
       ·obtain ⟨e1,e2,e3⟩:=e_U hA (fun h=>hw (by have:=h.2.2.2;simp at this;omega));rw [e1,e2,e3];have aT:¬ ((E2:Int)<=(D1:Int)):=by omega
        have bb:(D1:Int) < (E2:Int):=by omega
        clear e1 e2 e3 hA hp hq hd hx ao hy h1 h2 h3 h4 HD ag HN hw aE;go_enter Tryz.func127,Tryz.ntmps127;go_wp2_with fail
        generalize D:World.alloc _ _=W0;have O:=b_W (w:=w) D (by go_grown);have XA:Hid (Cel W0 w.heap.size (.slice (some ⟨qa,oa,none⟩) 2 c) (.slice p2 n2 c2)):=a_F D (by simp [go_sem]);have XB:Hid (Cel W0 (w.heap.size+1) (.slice (some ⟨qb,ob,none⟩) 3 c3) (.slice p4 n4 c4)):=a_F D (by simp [go_sem]);have XR:Hid (Cel W0 (w.heap.size+1+1) (.slice none 0 0) (.slice none 0 0)):=a_F D (by simp [go_sem]);clear D;refine (cA W0 O.out).mono ?_;rintro e w1 ⟨rfl,J⟩;have H:=a_N (a_c O.out J) J;clear J cA;obtain ⟨V,b1,_,_⟩:=XB.out.up H.out.2;go_wp2_with fail
        refine (cB w1 H.out.1).mono ?_;rintro e w2 ⟨rfl,L⟩;have M:=a_N (a_c H.out.1 L) (a_c H.out.2 L);clear L cB V b1 H;go_wp2_with fail
        refine (aa w2).mono ?_;rintro e w3 ⟨rfl,R⟩;have I:=a_N (a_c M.out.1 R) (a_c M.out.2 R);clear R aa M;obtain ⟨a0,a1,_,_⟩:=XA.out.up I.out.2;obtain ⟨V,b1,_,_⟩:=XB.out.up I.out.2;have a9:=a_a a0;have b9:=a_a V;have af:=a_d av I.out.1;have ap:=a_a af;have ai:=a_d ay I.out.1;have an:=a_a ai;have ae:=a_d aD I.out.1;have ak:=a_a ae;have ah:=a_d aA I.out.1;have am:=a_a ah;have ab:=a_d ax I.out.1;have aj:=a_a ab;go_wp2_with fail
        go_quiet (fail)
        generalize ac:World.drewN w3 nq=w5;have U:Hid (Below w.heap.size w w5/\Below W0.heap.size W0 w5):=by rw [<- ac];exact ⟨a_m I.out.1 nq,a_m I.out.2 nq⟩
        clear ac;clear a0 a1 V b1 a9 b9 af ap ai an ae ak ah am ab aj;have xr:=XR.out.up U.out.2;have BF:=a_k U.out.1 (w.heap.size+1+1) (by omega) (.slice none 0 0) (.slice none 0 0);have cf:=xr.set (.slice none 0 0) (.slice none 0 0);obtain ⟨r0,r1,r2,r3⟩:=xr;obtain ⟨y0,y1,_,_⟩:=cf;go_wp2;exact bodyPost_ret (v:=.tuple #[.agg #[.slice none 0 0,.slice none 0 0],.int .i64 4]) (by simp [results,Tryz.results127,go_sem,y0,y1]) rfl ⟨_,rfl,TRes.none _ _,BF⟩
      ·obtain ⟨e1,e2,e3⟩:=e_U hA (fun h=>hm (by have:=h.2.2.1;simp at this;omega));rw [e1,e2,e3];have aH:((D0:Int) != (E1:Int))=true:=by simp;omega
       have aG:¬ ((D0:Int)=(E1:Int)):=by omega
       clear e1 e2 e3 hA hp hq hd hx ao hy h1 h2 h3 h4 HD ag HN hm aE;go_enter Tryz.func127,Tryz.ntmps127;go_wp2_with fail
       generalize D:World.alloc _ _=W0;have O:=b_W (w:=w) D (by go_grown);have XA:Hid (Cel W0 w.heap.size (.slice (some ⟨qa,oa,none⟩) 2 c) (.slice p2 n2 c2)):=a_F D (by simp [go_sem]);have XB:Hid (Cel W0 (w.heap.size+1) (.slice (some ⟨qb,ob,none⟩) 3 c3) (.slice p4 n4 c4)):=a_F D (by simp [go_sem]);have XR:Hid (Cel W0 (w.heap.size+1+1) (.slice none 0 0) (.slice none 0 0)):=a_F D (by simp [go_sem]);clear D;refine (cA W0 O.out).mono ?_;rintro e w1 ⟨rfl,J⟩;have H:=a_N (a_c O.out J) J;clear J cA;obtain ⟨V,b1,_,_⟩:=XB.out.up H.out.2;go_wp2_with fail
       refine (cB w1 H.out.1).mono ?_;rintro e w2 ⟨rfl,L⟩;have M:=a_N (a_c H.out.1 L) (a_c H.out.2 L);clear L cB V b1 H;go_wp2_with fail
       refine (aa w2).mono ?_;rintro e w3 ⟨rfl,R⟩;have I:=a_N (a_c M.out.1 R) (a_c M.out.2 R);clear R aa M;obtain ⟨a0,a1,_,_⟩:=XA.out.up I.out.2;obtain ⟨V,b1,_,_⟩:=XB.out.up I.out.2;have a9:=a_a a0;have b9:=a_a V;have af:=a_d av I.out.1;have ap:=a_a af;have ai:=a_d ay I.out.1;have an:=a_a ai;have ae:=a_d aD I.out.1;have ak:=a_a ae;have ah:=a_d aA I.out.1;have am:=a_a ah;have ab:=a_d ax I.out.1;have aj:=a_a ab;go_wp2_with fail
       go_quiet (fail)
       generalize ac:World.drewN w3 nq=w5;have U:Hid (Below w.heap.size w w5/\Below W0.heap.size W0 w5):=by rw [<- ac];exact ⟨a_m I.out.1 nq,a_m I.out.2 nq⟩
       clear ac;clear a0 a1 V b1 a9 b9 af ap ai an ae ak ah am ab aj;have xr:=XR.out.up U.out.2;have BF:=a_k U.out.1 (w.heap.size+1+1) (by omega) (.slice none 0 0) (.slice none 0 0);have cf:=xr.set (.slice none 0 0) (.slice none 0 0);obtain ⟨r0,r1,r2,r3⟩:=xr;obtain ⟨y0,y1,_,_⟩:=cf;go_wp2;exact bodyPost_ret (v:=.tuple #[.agg #[.slice none 0 0,.slice none 0 0],.int .i64 4]) (by simp [results,Tryz.results127,go_sem,y0,y1]) rfl ⟨_,rfl,TRes.none _ _,BF⟩
     ·obtain ⟨e1,e2,e3⟩:=e_U hA (fun h=>aJ (by rw [<- ag.out.1];exact h.2.1));rw [e1,e2,e3];have aH:((n3:Int) != 3)=true:=by simp;omega
      have aG:¬ ((n3:Int)=3):=by omega
      clear e1 e2 e3 hA hp hq hd hx ao hy h1 h2 h3 h4 HD ag HN aJ;go_enter Tryz.func127,Tryz.ntmps127;go_wp2_with fail
      generalize D:World.alloc _ _=W0;have O:=b_W (w:=w) D (by go_grown);have XA:Hid (Cel W0 w.heap.size (.slice p 2 c) (.slice p2 n2 c2)):=a_F D (by simp [go_sem]);have XB:Hid (Cel W0 (w.heap.size+1) (.slice p3 n3 c3) (.slice p4 n4 c4)):=a_F D (by simp [go_sem]);have XR:Hid (Cel W0 (w.heap.size+1+1) (.slice none 0 0) (.slice none 0 0)):=a_F D (by simp [go_sem]);clear D;refine (cA W0 O.out).mono ?_;rintro e w1 ⟨rfl,J⟩;have H:=a_N (a_c O.out J) J;clear J cA;obtain ⟨V,b1,_,_⟩:=XB.out.up H.out.2;go_wp2_with fail
      refine (cB w1 H.out.1).mono ?_;rintro e w2 ⟨rfl,L⟩;have M:=a_N (a_c H.out.1 L) (a_c H.out.2 L);clear L cB V b1 H;go_wp2_with fail
      refine (aa w2).mono ?_;rintro e w3 ⟨rfl,R⟩;have I:=a_N (a_c M.out.1 R) (a_c M.out.2 R);clear R aa M;obtain ⟨a0,a1,_,_⟩:=XA.out.up I.out.2;obtain ⟨V,b1,_,_⟩:=XB.out.up I.out.2;have a9:=a_a a0;have b9:=a_a V;go_wp2_with fail
      go_quiet (fail)
      generalize ac:World.drewN w3 nq=w5;have U:Hid (Below w.heap.size w w5/\Below W0.heap.size W0 w5):=by rw [<- ac];exact ⟨a_m I.out.1 nq,a_m I.out.2 nq⟩
      clear ac;clear a0 a1 V b1 a9 b9;have xr:=XR.out.up U.out.2;have BF:=a_k U.out.1 (w.heap.size+1+1) (by omega) (.slice none 0 0) (.slice none 0 0);have cf:=xr.set (.slice none 0 0) (.slice none 0 0);obtain ⟨r0,r1,r2,r3⟩:=xr;obtain ⟨y0,y1,_,_⟩:=cf;go_wp2;exact bodyPost_ret (v:=.tuple #[.agg #[.slice none 0 0,.slice none 0 0],.int .i64 4]) (by simp [results,Tryz.results127,go_sem,y0,y1]) rfl ⟨_,rfl,TRes.none _ _,BF⟩
    ·obtain ⟨e1,e2,e3⟩:=e_U hA (fun h=>hn (by rw [<- HD.out.1];exact h.1));rw [e1,e2,e3];have aH:((n:Int) != 2)=true:=by simp;omega
     have aG:¬ ((n:Int)=2):=by omega
     clear e1 e2 e3 hA hp hq hd hx ao hy h1 h2 h3 h4 HD ag HN hn;go_enter Tryz.func127,Tryz.ntmps127;go_wp2_with fail
     generalize D:World.alloc _ _=W0;have O:=b_W (w:=w) D (by go_grown);have XA:Hid (Cel W0 w.heap.size (.slice p n c) (.slice p2 n2 c2)):=a_F D (by simp [go_sem]);have XB:Hid (Cel W0 (w.heap.size+1) (.slice p3 n3 c3) (.slice p4 n4 c4)):=a_F D (by simp [go_sem]);have XR:Hid (Cel W0 (w.heap.size+1+1) (.slice none 0 0) (.slice none 0 0)):=a_F D (by simp [go_sem]);clear D;refine (cA W0 O.out).mono ?_;rintro e w1 ⟨rfl,J⟩;have H:=a_N (a_c O.out J) J;clear J cA;obtain ⟨V,b1,_,_⟩:=XB.out.up H.out.2;go_wp2_with fail
     refine (cB w1 H.out.1).mono ?_;rintro e w2 ⟨rfl,L⟩;have M:=a_N (a_c H.out.1 L) (a_c H.out.2 L);clear L cB V b1 H;go_wp2_with fail
     refine (aa w2).mono ?_;rintro e w3 ⟨rfl,R⟩;have I:=a_N (a_c M.out.1 R) (a_c M.out.2 R);clear R aa M;obtain ⟨a0,a1,_,_⟩:=XA.out.up I.out.2;obtain ⟨V,b1,_,_⟩:=XB.out.up I.out.2;have a9:=a_a a0;have b9:=a_a V;go_wp2_with fail
     go_quiet (fail)
     generalize ac:World.drewN w3 nq=w5;have U:Hid (Below w.heap.size w w5/\Below W0.heap.size W0 w5):=by rw [<- ac];exact ⟨a_m I.out.1 nq,a_m I.out.2 nq⟩
     clear ac;clear a0 a1 V b1 a9 b9;have xr:=XR.out.up U.out.2;have BF:=a_k U.out.1 (w.heap.size+1+1) (by omega) (.slice none 0 0) (.slice none 0 0);have cf:=xr.set (.slice none 0 0) (.slice none 0 0);obtain ⟨r0,r1,r2,r3⟩:=xr;obtain ⟨y0,y1,_,_⟩:=cf;go_wp2;exact bodyPost_ret (v:=.tuple #[.agg #[.slice none 0 0,.slice none 0 0],.int .i64 4]) (by simp [results,Tryz.results127,go_sem,y0,y1]) rfl ⟨_,rfl,TRes.none _ _,BF⟩
   ·rw [decide_eq_false hs] at aa;obtain ⟨e1,e2,e3⟩:=m_l (d:=d) (x:=x) (d':=d') (y:=y) (st:=st) (fun h=>hs h.2.2);rw [e1,e2,e3];clear e1 e2 e3 hd hx ao hy h1 h2 h3 h4 HD ag HN ;go_enter Tryz.func127,Tryz.ntmps127;go_wp2_with fail
    generalize D:World.alloc _ _=W0;have O:=b_W (w:=w) D (by go_grown);have XA:Hid (Cel W0 w.heap.size (.slice p n c) (.slice p2 n2 c2)):=a_F D (by simp [go_sem]);have XB:Hid (Cel W0 (w.heap.size+1) (.slice p3 n3 c3) (.slice p4 n4 c4)):=a_F D (by simp [go_sem]);have XR:Hid (Cel W0 (w.heap.size+1+1) (.slice none 0 0) (.slice none 0 0)):=a_F D (by simp [go_sem]);clear D;refine (cA W0 O.out).mono ?_;rintro e w1 ⟨rfl,J⟩;have H:=a_N (a_c O.out J) J;clear J cA;obtain ⟨V,b1,_,_⟩:=XB.out.up H.out.2;go_wp2_with fail
    refine (cB w1 H.out.1).mono ?_;rintro e w2 ⟨rfl,L⟩;have M:=a_N (a_c H.out.1 L) (a_c H.out.2 L);clear L cB V b1 H;go_wp2_with fail
    refine (aa w2).mono ?_;rintro e w3 ⟨rfl,R⟩;have I:=a_N (a_c M.out.1 R) (a_c M.out.2 R);clear R aa M;have xr:=XR.out.up I.out.2;have BF:=a_k I.out.1 (w.heap.size+1+1) (by omega) (.slice none 0 0) (.slice none 0 0);have cf:=xr.set (.slice none 0 0) (.slice none 0 0);obtain ⟨r0,r1,r2,r3⟩:=xr;obtain ⟨y0,y1,_,_⟩:=cf;go_wp2;exact bodyPost_ret (v:=.tuple #[.agg #[.slice none 0 0,.slice none 0 0],.int .i64 1]) (by simp [results,Tryz.results127,go_sem,y0,y1]) rfl ⟨_,rfl,TRes.none _ _,BF⟩
  ·rw [decide_eq_false hq] at cB;obtain ⟨e1,e2,e3⟩:=m_l (d:=d) (x:=x) (d':=d') (y:=y) (st:=st) (fun h=>hq h.2.1);rw [e1,e2,e3];clear e1 e2 e3 hd hx ao hy h1 h2 h3 h4 HD ag HN aa;go_enter Tryz.func127,Tryz.ntmps127;go_wp2_with fail
   generalize D:World.alloc _ _=W0;have O:=b_W (w:=w) D (by go_grown);have XA:Hid (Cel W0 w.heap.size (.slice p n c) (.slice p2 n2 c2)):=a_F D (by simp [go_sem]);have XB:Hid (Cel W0 (w.heap.size+1) (.slice p3 n3 c3) (.slice p4 n4 c4)):=a_F D (by simp [go_sem]);have XR:Hid (Cel W0 (w.heap.size+1+1) (.slice none 0 0) (.slice none 0 0)):=a_F D (by simp [go_sem]);clear D;refine (cA W0 O.out).mono ?_;rintro e w1 ⟨rfl,J⟩;have H:=a_N (a_c O.out J) J;clear J cA;obtain ⟨V,b1,_,_⟩:=XB.out.up H.out.2;go_wp2_with fail
   refine (cB w1 H.out.1).mono ?_;rintro e w2 ⟨rfl,L⟩;have M:=a_N (a_c H.out.1 L) (a_c H.out.2 L);clear L cB V b1 H;have xr:=XR.out.up M.out.2;have BF:=a_k M.out.1 (w.heap.size+1+1) (by omega) (.slice none 0 0) (.slice none 0 0);have cf:=xr.set (.slice none 0 0) (.slice none 0 0);obtain ⟨r0,r1,r2,r3⟩:=xr;obtain ⟨y0,y1,_,_⟩:=cf;go_wp2;exact bodyPost_ret (v:=.tuple #[.agg #[.slice none 0 0,.slice none 0 0],.int .i64 1]) (by simp [results,Tryz.results127,go_sem,y0,y1]) rfl ⟨_,rfl,TRes.none _ _,BF⟩
 ·rw [decide_eq_false hp] at cA;obtain ⟨e1,e2,e3⟩:=m_l (d:=d) (x:=x) (d':=d') (y:=y) (st:=st) (fun h=>hp h.1);rw [e1,e2,e3];clear e1 e2 e3 hd hx ao hy h1 h2 h3 h4 HD ag HN cB aa;go_enter Tryz.func127,Tryz.ntmps127;go_wp2_with fail
  generalize D:World.alloc _ _=W0;have O:=b_W (w:=w) D (by go_grown);have XA:Hid (Cel W0 w.heap.size (.slice p n c) (.slice p2 n2 c2)):=a_F D (by simp [go_sem]);have XB:Hid (Cel W0 (w.heap.size+1) (.slice p3 n3 c3) (.slice p4 n4 c4)):=a_F D (by simp [go_sem]);have XR:Hid (Cel W0 (w.heap.size+1+1) (.slice none 0 0) (.slice none 0 0)):=a_F D (by simp [go_sem]);clear D;refine (cA W0 O.out).mono ?_;rintro e w1 ⟨rfl,J⟩;have H:=a_N (a_c O.out J) J;clear J cA;have xr:=XR.out.up H.out.2;have BF:=a_k H.out.1 (w.heap.size+1+1) (by omega) (.slice none 0 0) (.slice none 0 0);have cf:=xr.set (.slice none 0 0) (.slice none 0 0);obtain ⟨r0,r1,r2,r3⟩:=xr;obtain ⟨y0,y1,_,_⟩:=cf;go_wp2;exact bodyPost_ret (v:=.tuple #[.agg #[.slice none 0 0,.slice none 0 0],.int .i64 1]) (by simp [results,Tryz.results127,go_sem,y0,y1]) rfl ⟨_,rfl,TRes.none _ _,BF⟩
end Go.Proofs.YtjlofobnmjompaaGreatDoor.Wd
