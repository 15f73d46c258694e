/- Tensors: what conv.Row hands back. -/
import Derived.Test.YtcpbhhlepdgdkaaGreatDoorT10
set_option linter.unusedVariables false
set_option linter.unusedSimpArgs false
set_option maxHeartbeats 16000000
set_option maxRecDepth 16000
namespace Go.Proofs.YtcpbhhlepdgdkaaGreatDoor.Wd
open Go.RowKit Fx
theorem o_O (p p2 p3 p4:Option Addr) (n c n2 c2 n3 c3 n4 c4:Nat) (d x d' y:List Int) (st:Int) (hd:RI d) (hx:RI x) (aj:RI d') (hy:RI y) (w:World) (hT:Hid (Tz w)) (h1:Nums .i64 w (.slice p n c) d) (h2:Nums .i64 w (.slice p2 n2 c2) x) (h3:Nums .i64 w (.slice p3 n3 c3) d') (h4:Nums .i64 w (.slice p4 n4 c4) y):
  Calls Tryz.prog 116 #[.agg #[.slice p n c,.slice p2 n2 c2],.agg #[.slice p3 n3 c3,.slice p4 n4 c4],.int .i64 st] w fun e w'=>∃ v',e = .returned (.tuple #[v',.int .i64 (rwE d x d' y st)])/\TRes w' w.heap.size v' (rwD d x d' y st) (rwV d x d' y st)/\Below w.heap.size w w':=by
 have cA:=fun W (hW:Below w.heap.size w W)=>a_B _ _ d x hd W (h1.up hW) (h2.up hW);have cB:=fun W (hW:Below w.heap.size w W)=>a_B _ _ d' y aj W (h3.up hW) (h4.up hW);have aa:∀ W:World,Calls Tryz.prog 126 #[.int .i64 st] W fun e w'=>e = .returned (.bool (decide (1<=st/\st<=64)))/\Below W.heap.size W w':=fun W=>d_g st W;obtain ⟨_,_,_,e4,HD⟩:=h1.lst;cases e4;obtain ⟨_,_,_,e4,ac⟩:=h3.lst;cases e4;have HN:Hid (Nums .i64 w (.slice p2 n2 c2) x/\Nums .i64 w (.slice p4 n4 c4) y):=⟨h2,h4⟩
 haveI:Nonempty World:=⟨w⟩
 by_cases hp:isP d x
 ·rw [decide_eq_true hp] at cA;by_cases hq:isP d' y
  ·rw [decide_eq_true hq] at cB;by_cases hs:1<=st/\st<=64
   ·rw [decide_eq_true hs] at aa;have hA:rwA d x d' y st:=⟨hp,hq,hs⟩
    obtain ⟨stN,rfl⟩:∃ q:Nat,st=q:=⟨st.toNat,by omega⟩
    have a8:n<=4:=by have:=hp.1.1;rw [a_Q,HD.out.1] at this;exact this
    have a5:(n:Int)<=4:=by omega
    have a6:n3<=4:=by have:=hq.1.1;rw [a_Q,ac.out.1] at this;exact this
    have a4:(n3:Int)<=4:=by omega
    by_cases hn:n=2
    ·subst hn;by_cases aJ:n3=3
     ·subst aJ;obtain ⟨D0,D1,rfl,aP,k0,k1,k2⟩:=a_W hp HD.out.1;obtain ⟨E0,E1,E2,rfl,aL,l0,l1,l2,l3⟩:=c_h hq ac.out.1
      have aE:Hid ((∃ q o,p=some ⟨q,o,none⟩/\w.cell? ⟨q,o,none⟩=some (.int .i64 (D0:Int))/\w.cell? ⟨q,o+1,none⟩=some (.int .i64 (D1:Int)))/\(∃ q o,p3=some ⟨q,o,none⟩/\w.cell? ⟨q,o,none⟩=some (.int .i64 (E0:Int))/\w.cell? ⟨q,o+1,none⟩=some (.int .i64 (E1:Int))/\w.cell? ⟨q,o+2,none⟩=some (.int .i64 (E2:Int)))):=by
       obtain ⟨q,o,rfl,aZ⟩:=HD.out.2 0 (by omega);obtain ⟨q',o',e',aY⟩:=HD.out.2 1 (by omega);cases e';obtain ⟨r,s,rfl,aT⟩:=ac.out.2 0 (by omega);obtain ⟨r',s',e',J⟩:=ac.out.2 1 (by omega);cases e';obtain ⟨r',s',e',L⟩:=ac.out.2 2 (by omega);cases e';exact ⟨⟨_,_,rfl,aZ,aY⟩,_,_,rfl,aT,J,L⟩
      obtain ⟨⟨qa,oa,rfl,aB,az⟩,qb,ob,rfl,au,av,aD⟩:=aE.out;have zD:=c_N k2 k0 k1;have aV:E0*E1<=4096:=Nat.le_trans (Nat.le_mul_of_pos_right _ l2) l3;have zE:=c_N aV l0 l1;have bb:E2<=4096:=by have:=Nat.mul_le_mul (Nat.mul_le_mul l0 l1) (Nat.le_refl E2);omega
      have ba:(D0:Int)<=4096/\(D1:Int)<=4096:=by omega
      have bc:(E0:Int)<=4096/\(E1:Int)<=4096/\(E2:Int)<=4096:=by omega
      by_cases hm:D0=E1
      ·subst hm;have aH:((D0:Int) != (D0:Int))=false:=by simp
       by_cases hw:E2<=D1
       ·have aU:(E2:Int)<=(D1:Int):=by omega
        obtain ⟨S,hS⟩:∃ S,a_M D1 E2 stN=S:=⟨_,rfl⟩
        obtain ⟨e1,e2,e3⟩:=q_w hA hw hS;rw [e1,e2,e3];have HG:Hid (∀ (gs:Nat) (pd:Option Addr) (nd cd:Nat) (W:World),Below w.heap.size w W->Nums .i64 W (.slice pd nd cd) [(E0:Int),(S:Int)]->SlC W gs D0 D1 E0 E2 stN->W.cell? ⟨w.heap.size,1,none⟩=some (.slice p2 n2 c2)->W.cell? ⟨w.heap.size+1,1,none⟩=some (.slice p4 n4 c4)->Calls Tryz.prog 129 #[.slice pd nd cd,.func (.func 144) #[] #[.pointer (some ⟨gs,0,none⟩),.pointer (some ⟨w.heap.size,0,none⟩),.pointer (some ⟨w.heap.size+1,0,none⟩)]] W fun e w'=>∃ v',e = .returned (.tuple #[v',.int .i64 (f_7 [(E0:Int),(S:Int)])])/\TRes w' W.heap.size v' (d_Y [(E0:Int),(S:Int)]) (if goodN (ntl [(E0:Int),(S:Int)]) then h_6 D0 D1 E2 E0 S stN x y else [])/\Below W.heap.size W w'):=fun gs pd nd cd W hW hN hs aS a2=>o_t D0 D1 E0 E2 stN S hS l2 hw zD.2 (by omega) (by omega) k0 l0 l3 k2 zE.1 zD.1 gs _ _ p2 n2 c2 p4 n4 c4 x y hx hy aP aL pd nd cd W (Hid.up_tz hT hW) hN hs aS a2 (HN.out.1.up hW) (HN.out.2.up hW);obtain ⟨EE,aO⟩:∃ E,f_7 [(E0:Int),(S:Int)]=E:=⟨_,rfl⟩
        obtain ⟨DD,aN⟩:∃ E,d_Y [(E0:Int),(S:Int)]=E:=⟨_,rfl⟩
        obtain ⟨VV,aR⟩:∃ E,(if goodN (ntl [(E0:Int),(S:Int)]) then h_6 D0 D1 E2 E0 S stN x y else [])=E:=⟨_,rfl⟩
        rw [aO,aN,aR] at HG ⊢
        have aK:∀ W:World,Calls Tryz.prog 128 #[.agg #[.int .i64 (D0:Int),.int .i64 (D1:Int),.int .i64 (E0:Int),.int .i64 (E2:Int),.int .i64 (stN:Int)]] W fun e w'=>e = .returned (.int .i64 (S:Int))/\Below W.heap.size W w':=fun W=>by
         have:=e_g D0 D1 E0 E2 stN hw (by omega) (by omega) (by omega) W;rw [hS] at this;exact this
        have be:∀ (fn:Fn) (first aM:Array Value) (w:World),(Instr.makeFunc fn first aM).run Tryz.prog w = .ok (.func fn first aM) w:=fun _ _ _ _=>rfl;clear e1 e2 e3 hA hp hq hd hx aj hy h1 h2 h3 h4 HD ac aE aP aL HN hS aO aN aR;go_enter Tryz.func116,Tryz.ntmps116;go_wp2_with fail
        generalize D:World.alloc _ _=W0;have R:=b_1 (w:=w) D (by go_grown);have XA:Hid (Cel W0 w.heap.size (.slice (some ⟨qa,oa,none⟩) 2 c) (.slice p2 n2 c2)):=a_F D (by simp [go_sem]);have XB:Hid (Cel W0 (w.heap.size+1) (.slice (some ⟨qb,ob,none⟩) 3 c3) (.slice p4 n4 c4)):=a_F D (by simp [go_sem]);have XR:Hid (Cel W0 (w.heap.size+1+1) (.slice none 0 0) (.slice none 0 0)):=a_F D (by simp [go_sem]);clear D;refine (cA W0 R.out).mono ?_;rintro e w1 ⟨rfl,J⟩;have H:=a_N (a_c R.out J) J;clear J cA;obtain ⟨V,b1,_,_⟩:=XB.out.up H.out.2;go_wp2_with fail
        refine (cB w1 H.out.1).mono ?_;rintro e w2 ⟨rfl,L⟩;have M:=a_N (a_c H.out.1 L) (a_c H.out.2 L);clear L cB V b1 H;go_wp2_with fail
        refine (aa w2).mono ?_;rintro e w3 ⟨rfl,O⟩;have I:=a_N (a_c M.out.1 O) (a_c M.out.2 O);clear O aa M;obtain ⟨a0,a1,_,_⟩:=XA.out.up I.out.2;obtain ⟨V,b1,_,_⟩:=XB.out.up I.out.2;have a9:=a_a a0;have b9:=a_a V;have ah:=a_d aB I.out.1;have ao:=a_a ah;have ai:=a_d az I.out.1;have ap:=a_a ai;have ag:=a_d au I.out.1;have am:=a_a ag;have ad:=a_d av I.out.1;have ak:=a_a ad;have ab:=a_d aD I.out.1;have an:=a_a ab;go_wp2_with fail
        go_quiet (fail)
        generalize ae:World.drewN w3 nq=w5;have U:Hid (Below w.heap.size w w5/\Below W0.heap.size W0 w5):=by rw [<- ae];exact ⟨a_m I.out.1 nq,a_m I.out.2 nq⟩
        clear ae;clear a0 a1 V b1 a9 b9 ah ao ai ap ag am ad ak ab an;obtain ⟨a0,a1,_,_⟩:=XA.out.up U.out.2;obtain ⟨V,b1,_,_⟩:=XB.out.up U.out.2;have a9:=a_a a0;have b9:=a_a V;have ah:=a_d aB U.out.1;have ao:=a_a ah;have ai:=a_d az U.out.1;have ap:=a_a ai;have ag:=a_d au U.out.1;have am:=a_a ag;have ad:=a_d av U.out.1;have ak:=a_a ad;have ab:=a_d aD U.out.1;have an:=a_a ab;go_wp2_with fail
        refine d_7 (.cells #[.int .i64 0,.int .i64 0,.int .i64 0,.int .i64 0,.int .i64 0] 195) 18 19 83 8 (by kernel_rfl) rfl rfl (by kernel_rfl) rfl rfl rfl ?_;apply Exists.intro;refine ⟨?_,?_,?_⟩
        ·intro F hF;have hFc:=hF.cell;have hFf:=hF.frozen;simp only [List.take_succ_cons,List.take_zero,List.eraseIdx_cons_succ,List.eraseIdx_cons_zero]
         repeat (go_big_quiet_step (fail))
         refine wpQuiet_nil ?_;exact rfl
        ·intro W
         kernel_rfl
        intro W6 g8 hW hM;have Y0:=hM.cell (i:=0) rfl;have Y1:=hM.cell (i:=1) rfl;have Y2:=hM.cell (i:=2) rfl;have Y3:=hM.cell (i:=3) rfl;have Y4:=hM.cell (i:=4) rfl;have Z0:=hM.frozen 0;have Z1:=hM.frozen 1;have Z2:=hM.frozen 2;have Z3:=hM.frozen 3;have Z4:=hM.frozen 4;have aW:g8 < W6.heap.size:=hM.1;have aI:w5.heap.size<=g8:=hM.2.1;have N5:=t_a W6 g8 (.int .i64 (D0:Int)) (.int .i64 (D1:Int)) (.int .i64 (E0:Int)) (.int .i64 (E2:Int)) (.int .i64 (stN:Int)) Y0 Y1 Y2 Y3 Y4;have N6:=b_8 (a_c U.out.1 hW) g8 (Nat.le_trans U.out.1.size aI) (.int .i64 (D0:Int)) (.int .i64 (D1:Int)) (.int .i64 (E0:Int)) (.int .i64 (E2:Int)) (.int .i64 (stN:Int));have N7:=b_8 (a_c U.out.2 hW) g8 (Nat.le_trans U.out.2.size aI) (.int .i64 (D0:Int)) (.int .i64 (D1:Int)) (.int .i64 (E0:Int)) (.int .i64 (E2:Int)) (.int .i64 (stN:Int));simp only [List.drop_succ_cons,List.drop_zero];unfold d_K;clear hM hW a0 a1 V b1 a9 b9 ah ao ai ap ag am ad ak ab an aI;go_wp2_with fail
        refine a_P (fun w7 aQ=>?_);rw [<- aQ] at N5 N6 N7;clear aQ Y0 Y1 Y2 Y3 Y4 Z0 Z1 Z2 Z3 Z4 aW;have af:Hid (Below w.heap.size w w7/\Below W0.heap.size W0 w7):=⟨N6,N7⟩
        have X7:Hid (SlC w7 g8 D0 D1 E0 E2 stN):=N5;clear N5 N6 N7;obtain ⟨a0,a1,_,_⟩:=XA.out.up af.out.2;obtain ⟨V,b1,_,_⟩:=XB.out.up af.out.2;have a9:=a_a a0;have b9:=a_a V;have ah:=a_d aB af.out.1;have ao:=a_a ah;have ai:=a_d az af.out.1;have ap:=a_a ai;have ag:=a_d au af.out.1;have am:=a_a ag;have ad:=a_d av af.out.1;have ak:=a_a ad;have ab:=a_d aD af.out.1;have an:=a_a ab;obtain ⟨z0,z1,z2,z3,z4⟩:=X7.out;have zl:=a_a z0;refine l_F [⟨4,78,LitN [(E0:Int),(S:Int)]⟩,⟨6,80,TupP w7.heap.size DD VV EE⟩,⟨7,81,OwnT w7.heap.size DD VV⟩] 9 83 (by kernel_rfl) rfl rfl 8 _ rfl (by decide) rfl (by kernel_rfl) (by kernel_rfl) (fun _ _ _ _ h=>h) (by rfl) ?_ ?_
        ·intro e he v W W' h hb;simp only [List.mem_cons,List.not_mem_nil,or_false] at he;rcases he with rfl|rfl|rfl
         ·exact LitN.up h hb
         ·exact TupP.up h hb
         ·exact OwnT.up h hb
        apply Exists.intro;refine ⟨?yl1,?wk1,?pk1,?rest1⟩
        case wk1=>
         intro x;simp only [List.take_succ_cons,List.take_zero]
         iterate 3
          refine a_l rfl rfl ?_;apply Exists.intro;refine ⟨fun F hF hf K hK=>?_,?_⟩
          ·have hFc:=hF.cell;have hFf:=hF.frozen
           go_big_quiet_op
           exact hK
          (try simp only [c_K])
         refine a_l rfl rfl ?_;apply Exists.intro;refine ⟨fun F hF hf K hK=>?_,?_⟩
         ·have hFc:=hF.cell;have hFf:=hF.frozen
          go_big_quiet_op
          first|exact hK|(apply Exists.intro;refine ⟨fun _=>?_,?_⟩;(· exact hF.call (aK _));exact hK)
         (try simp only [c_K])
         refine a_q rfl rfl ?_ ?_
         ·intro F hF hf d;have hFc:=hF.cell;have hFf:=hF.frozen;simp [a_k,a_f,go_sem];exact ⟨⟨(F d).heap.size,rfl,a_5 (k:=.i64) (F d) [(E0:Int),(S:Int)] 2 (0,0) rfl⟩,a_b _ _⟩
         (try simp only [c_K])
         refine a_l rfl rfl ?_;apply Exists.intro;refine ⟨fun F hF hf K hK=>?_,?_⟩
         ·have hFc:=hF.cell;have hFf:=hF.frozen
          go_big_quiet_op
          exact hK
         (try simp only [c_K])
         refine a_q rfl rfl ?_ ?_
         ·intro F hF hf d;have hFc:=hF.cell;have hFf:=hF.frozen;have h9:=hf _ List.mem_cons_self (by rfl) d;obtain ⟨g9,e9,n9⟩:=h9;simp only [] at e9 n9;rw [e9] at n9;simp [a_k,a_f,go_sem,e9];have hB:=hF.below d;refine (HG.out g8 _ _ _ (F d) (a_c af.out.1 hB) n9 (X7.out.up hB) (XA.out.up (a_c af.out.2 hB)).2.1 (XB.out.up (a_c af.out.2 hB)).2.1).mono ?_;rintro e' w8 ⟨v8,rfl,h8,a3⟩;exact ⟨_,rfl,⟨v8,rfl,(h8.low hB.size).own⟩,a3⟩
         (try simp only [c_K])
         refine a_q rfl rfl ?_ ?_
         ·intro F hF hf d;have hFc:=hF.cell;have hFf:=hF.frozen;have h9:=hf _ (List.mem_cons_of_mem _ List.mem_cons_self) (by rfl) d;obtain ⟨u9,e9,n9⟩:=h9;simp only [] at e9 n9;simp [a_k,a_f,go_sem,e9];exact ⟨n9,Below.refl _ _⟩
         (try simp only [c_K])
         refine a_l rfl rfl ?_;apply Exists.intro;refine ⟨fun F hF hf K hK=>?_,?_⟩
         ·have hFc:=hF.cell;have hFf:=hF.frozen;have h9:=hf _ (List.mem_cons_of_mem _ List.mem_cons_self) (by rfl);obtain ⟨u9,e9,_⟩:=h9 w;simp only [] at e9
          go_big_quiet_op
          exact hK
         (try simp only [c_K])
         refine b_c ?_;exact rfl
        case pk1=>
         intro x;simp only [b_l,List.foldl_cons,List.foldl_nil,Act.put,sA_,sB_,sC_]
        case yl1=>
         intro x hx;obtain ⟨W9,u9,e9,_⟩:=hx _ (List.mem_cons_of_mem _ List.mem_cons_self) (by rfl);simp only [] at e9;refine ⟨.int .i64 EE,fun t ht=>?_,.inl ⟨by rfl,fun w=>?_⟩⟩
         ·cases ht;rfl
         ·simp [execOp,Act.eval,e9,go_sem]
        intro zz xs ay hf;simp only [List.drop_succ_cons,List.drop_zero];have aX:=hf _ (List.mem_cons_of_mem _ (List.mem_cons_of_mem _ List.mem_cons_self));obtain ⟨aA,aw,ar,ax,aC,aq,ev,o1,o2⟩:=aX;simp only [] at ev;obtain ⟨x4,e4⟩:∃ q,xs 4=q:=⟨_,rfl⟩
        obtain ⟨x6,e6⟩:∃ q,xs 6=q:=⟨_,rfl⟩
        simp only [ev,e4,e6];have aG:=a_N (a_c af.out.1 ay) (a_c af.out.2 ay);have xr:=XR.out.up aG.out.2;have hz:=a_a XR.out.1;have bd:=af.out.2.size;have HF:Hid (TRes (set2 zz (w.heap.size+1+1) (.slice aA aw ar) (.slice ax aC aq)) w.heap.size (.agg #[.slice aA aw ar,.slice ax aC aq]) DD VV/\Below w.heap.size w (set2 zz (w.heap.size+1+1) (.slice aA aw ar) (.slice ax aC aq))):=⟨(TRes.set o1 o2 (by omega)).low (by have:=af.out.1.size;omega),a_j aG.out.1 _ (by omega) _ _⟩
        have cf:=xr.set (.slice aA aw ar) (.slice ax aC aq);obtain ⟨r0,r1,r2,r3⟩:=xr;obtain ⟨y0,y1,_,_⟩:=cf;have r9:=a_a r0;clear o1 o2 ay hf a0 a1 V b1 a9 b9 ah ao ai ap ag am ad ak ab an z0 z1 z2 z3 z4 zl HG aK;go_wp2;exact bodyPost_ret (v:=.tuple #[.agg #[.slice aA aw ar,.slice ax aC aq],.int .i64 EE]) (by simp [results,Tryz.results116,go_sem,y0,y1]) rfl ⟨_,rfl,HF.out⟩
       ·obtain ⟨e1,e2,e3⟩:=e_Y hA (fun h=>hw (by have:=h.2.2.2;simp at this;omega));rw [e1,e2,e3];have aU:¬ ((E2:Int)<=(D1:Int)):=by omega
        have a7:(D1:Int) < (E2:Int):=by omega
        clear e1 e2 e3 hA hp hq hd hx aj hy h1 h2 h3 h4 HD ac HN hw aE;go_enter Tryz.func116,Tryz.ntmps116;go_wp2_with fail
        generalize D:World.alloc _ _=W0;have R:=b_1 (w:=w) D (by go_grown);have XA:Hid (Cel W0 w.heap.size (.slice (some ⟨qa,oa,none⟩) 2 c) (.slice p2 n2 c2)):=a_F D (by simp [go_sem]);have XB:Hid (Cel W0 (w.heap.size+1) (.slice (some ⟨qb,ob,none⟩) 3 c3) (.slice p4 n4 c4)):=a_F D (by simp [go_sem]);have XR:Hid (Cel W0 (w.heap.size+1+1) (.slice none 0 0) (.slice none 0 0)):=a_F D (by simp [go_sem]);clear D;refine (cA W0 R.out).mono ?_;rintro e w1 ⟨rfl,J⟩;have H:=a_N (a_c R.out J) J;clear J cA;obtain ⟨V,b1,_,_⟩:=XB.out.up H.out.2;go_wp2_with fail
        refine (cB w1 H.out.1).mono ?_;rintro e w2 ⟨rfl,L⟩;have M:=a_N (a_c H.out.1 L) (a_c H.out.2 L);clear L cB V b1 H;go_wp2_with fail
        refine (aa w2).mono ?_;rintro e w3 ⟨rfl,O⟩;have I:=a_N (a_c M.out.1 O) (a_c M.out.2 O);clear O aa M;obtain ⟨a0,a1,_,_⟩:=XA.out.up I.out.2;obtain ⟨V,b1,_,_⟩:=XB.out.up I.out.2;have a9:=a_a a0;have b9:=a_a V;have ah:=a_d aB I.out.1;have ao:=a_a ah;have ai:=a_d az I.out.1;have ap:=a_a ai;have ag:=a_d au I.out.1;have am:=a_a ag;have ad:=a_d av I.out.1;have ak:=a_a ad;have ab:=a_d aD I.out.1;have an:=a_a ab;go_wp2_with fail
        go_quiet (fail)
        generalize ae:World.drewN w3 nq=w5;have U:Hid (Below w.heap.size w w5/\Below W0.heap.size W0 w5):=by rw [<- ae];exact ⟨a_m I.out.1 nq,a_m I.out.2 nq⟩
        clear ae;clear a0 a1 V b1 a9 b9 ah ao ai ap ag am ad ak ab an;have xr:=XR.out.up U.out.2;have BF:=a_j U.out.1 (w.heap.size+1+1) (by omega) (.slice none 0 0) (.slice none 0 0);have cf:=xr.set (.slice none 0 0) (.slice none 0 0);obtain ⟨r0,r1,r2,r3⟩:=xr;obtain ⟨y0,y1,_,_⟩:=cf;go_wp2;exact bodyPost_ret (v:=.tuple #[.agg #[.slice none 0 0,.slice none 0 0],.int .i64 4]) (by simp [results,Tryz.results116,go_sem,y0,y1]) rfl ⟨_,rfl,TRes.none _ _,BF⟩
      ·obtain ⟨e1,e2,e3⟩:=e_Y hA (fun h=>hm (by have:=h.2.2.1;simp at this;omega));rw [e1,e2,e3];have aH:((D0:Int) != (E1:Int))=true:=by simp;omega
       have aF:¬ ((D0:Int)=(E1:Int)):=by omega
       clear e1 e2 e3 hA hp hq hd hx aj hy h1 h2 h3 h4 HD ac HN hm aE;go_enter Tryz.func116,Tryz.ntmps116;go_wp2_with fail
       generalize D:World.alloc _ _=W0;have R:=b_1 (w:=w) D (by go_grown);have XA:Hid (Cel W0 w.heap.size (.slice (some ⟨qa,oa,none⟩) 2 c) (.slice p2 n2 c2)):=a_F D (by simp [go_sem]);have XB:Hid (Cel W0 (w.heap.size+1) (.slice (some ⟨qb,ob,none⟩) 3 c3) (.slice p4 n4 c4)):=a_F D (by simp [go_sem]);have XR:Hid (Cel W0 (w.heap.size+1+1) (.slice none 0 0) (.slice none 0 0)):=a_F D (by simp [go_sem]);clear D;refine (cA W0 R.out).mono ?_;rintro e w1 ⟨rfl,J⟩;have H:=a_N (a_c R.out J) J;clear J cA;obtain ⟨V,b1,_,_⟩:=XB.out.up H.out.2;go_wp2_with fail
       refine (cB w1 H.out.1).mono ?_;rintro e w2 ⟨rfl,L⟩;have M:=a_N (a_c H.out.1 L) (a_c H.out.2 L);clear L cB V b1 H;go_wp2_with fail
       refine (aa w2).mono ?_;rintro e w3 ⟨rfl,O⟩;have I:=a_N (a_c M.out.1 O) (a_c M.out.2 O);clear O aa M;obtain ⟨a0,a1,_,_⟩:=XA.out.up I.out.2;obtain ⟨V,b1,_,_⟩:=XB.out.up I.out.2;have a9:=a_a a0;have b9:=a_a V;have ah:=a_d aB I.out.1;have ao:=a_a ah;have ai:=a_d az I.out.1;have ap:=a_a ai;have ag:=a_d au I.out.1;have am:=a_a ag;have ad:=a_d av I.out.1;have ak:=a_a ad;have ab:=a_d aD I.out.1;have an:=a_a ab;go_wp2_with fail
       go_quiet (fail)
       generalize ae:World.drewN w3 nq=w5;have U:Hid (Below w.heap.size w w5/\Below W0.heap.size W0 w5):=by rw [<- ae];exact ⟨a_m I.out.1 nq,a_m I.out.2 nq⟩
       clear ae;clear a0 a1 V b1 a9 b9 ah ao ai ap ag am ad ak ab an;have xr:=XR.out.up U.out.2;have BF:=a_j U.out.1 (w.heap.size+1+1) (by omega) (.slice none 0 0) (.slice none 0 0);have cf:=xr.set (.slice none 0 0) (.slice none 0 0);obtain ⟨r0,r1,r2,r3⟩:=xr;obtain ⟨y0,y1,_,_⟩:=cf;go_wp2;exact bodyPost_ret (v:=.tuple #[.agg #[.slice none 0 0,.slice none 0 0],.int .i64 4]) (by simp [results,Tryz.results116,go_sem,y0,y1]) rfl ⟨_,rfl,TRes.none _ _,BF⟩
     ·obtain ⟨e1,e2,e3⟩:=e_Y hA (fun h=>aJ (by rw [<- ac.out.1];exact h.2.1));rw [e1,e2,e3];have aH:((n3:Int) != 3)=true:=by simp;omega
      have aF:¬ ((n3:Int)=3):=by omega
      clear e1 e2 e3 hA hp hq hd hx aj hy h1 h2 h3 h4 HD ac HN aJ;go_enter Tryz.func116,Tryz.ntmps116;go_wp2_with fail
      generalize D:World.alloc _ _=W0;have R:=b_1 (w:=w) D (by go_grown);have XA:Hid (Cel W0 w.heap.size (.slice p 2 c) (.slice p2 n2 c2)):=a_F D (by simp [go_sem]);have XB:Hid (Cel W0 (w.heap.size+1) (.slice p3 n3 c3) (.slice p4 n4 c4)):=a_F D (by simp [go_sem]);have XR:Hid (Cel W0 (w.heap.size+1+1) (.slice none 0 0) (.slice none 0 0)):=a_F D (by simp [go_sem]);clear D;refine (cA W0 R.out).mono ?_;rintro e w1 ⟨rfl,J⟩;have H:=a_N (a_c R.out J) J;clear J cA;obtain ⟨V,b1,_,_⟩:=XB.out.up H.out.2;go_wp2_with fail
      refine (cB w1 H.out.1).mono ?_;rintro e w2 ⟨rfl,L⟩;have M:=a_N (a_c H.out.1 L) (a_c H.out.2 L);clear L cB V b1 H;go_wp2_with fail
      refine (aa w2).mono ?_;rintro e w3 ⟨rfl,O⟩;have I:=a_N (a_c M.out.1 O) (a_c M.out.2 O);clear O aa M;obtain ⟨a0,a1,_,_⟩:=XA.out.up I.out.2;obtain ⟨V,b1,_,_⟩:=XB.out.up I.out.2;have a9:=a_a a0;have b9:=a_a V;go_wp2_with fail
      go_quiet (fail)
      generalize ae:World.drewN w3 nq=w5;have U:Hid (Below w.heap.size w w5/\Below W0.heap.size W0 w5):=by rw [<- ae];exact ⟨a_m I.out.1 nq,a_m I.out.2 nq⟩
      clear ae;clear a0 a1 V b1 a9 b9;have xr:=XR.out.up U.out.2;have BF:=a_j U.out.1 (w.heap.size+1+1) (by omega) (.slice none 0 0) (.slice none 0 0);have cf:=xr.set (.slice none 0 0) (.slice none 0 0);obtain ⟨r0,r1,r2,r3⟩:=xr;obtain ⟨y0,y1,_,_⟩:=cf;go_wp2;exact bodyPost_ret (v:=.tuple #[.agg #[.slice none 0 0,.slice none 0 0],.int .i64 4]) (by simp [results,Tryz.results116,go_sem,y0,y1]) rfl ⟨_,rfl,TRes.none _ _,BF⟩
    ·obtain ⟨e1,e2,e3⟩:=e_Y hA (fun h=>hn (by rw [<- HD.out.1];exact h.1));rw [e1,e2,e3];have aH:((n:Int) != 2)=true:=by simp;omega
     have aF:¬ ((n:Int)=2):=by omega
     clear e1 e2 e3 hA hp hq hd hx aj hy h1 h2 h3 h4 HD ac HN hn;go_enter Tryz.func116,Tryz.ntmps116;go_wp2_with fail
     generalize D:World.alloc _ _=W0;have R:=b_1 (w:=w) D (by go_grown);have XA:Hid (Cel W0 w.heap.size (.slice p n c) (.slice p2 n2 c2)):=a_F D (by simp [go_sem]);have XB:Hid (Cel W0 (w.heap.size+1) (.slice p3 n3 c3) (.slice p4 n4 c4)):=a_F D (by simp [go_sem]);have XR:Hid (Cel W0 (w.heap.size+1+1) (.slice none 0 0) (.slice none 0 0)):=a_F D (by simp [go_sem]);clear D;refine (cA W0 R.out).mono ?_;rintro e w1 ⟨rfl,J⟩;have H:=a_N (a_c R.out J) J;clear J cA;obtain ⟨V,b1,_,_⟩:=XB.out.up H.out.2;go_wp2_with fail
     refine (cB w1 H.out.1).mono ?_;rintro e w2 ⟨rfl,L⟩;have M:=a_N (a_c H.out.1 L) (a_c H.out.2 L);clear L cB V b1 H;go_wp2_with fail
     refine (aa w2).mono ?_;rintro e w3 ⟨rfl,O⟩;have I:=a_N (a_c M.out.1 O) (a_c M.out.2 O);clear O aa M;obtain ⟨a0,a1,_,_⟩:=XA.out.up I.out.2;obtain ⟨V,b1,_,_⟩:=XB.out.up I.out.2;have a9:=a_a a0;have b9:=a_a V;go_wp2_with fail
     go_quiet (fail)
     generalize ae:World.drewN w3 nq=w5;have U:Hid (Below w.heap.size w w5/\Below W0.heap.size W0 w5):=by rw [<- ae];exact ⟨a_m I.out.1 nq,a_m I.out.2 nq⟩
     clear ae;clear a0 a1 V b1 a9 b9;have xr:=XR.out.up U.out.2;have BF:=a_j U.out.1 (w.heap.size+1+1) (by omega) (.slice none 0 0) (.slice none 0 0);have cf:=xr.set (.slice none 0 0) (.slice none 0 0);obtain ⟨r0,r1,r2,r3⟩:=xr;obtain ⟨y0,y1,_,_⟩:=cf;go_wp2;exact bodyPost_ret (v:=.tuple #[.agg #[.slice none 0 0,.slice none 0 0],.int .i64 4]) (by simp [results,Tryz.results116,go_sem,y0,y1]) rfl ⟨_,rfl,TRes.none _ _,BF⟩
   ·rw [decide_eq_false hs] at aa;obtain ⟨e1,e2,e3⟩:=m_r (d:=d) (x:=x) (d':=d') (y:=y) (st:=st) (fun h=>hs h.2.2);rw [e1,e2,e3];clear e1 e2 e3 hd hx aj hy h1 h2 h3 h4 HD ac HN ;go_enter Tryz.func116,Tryz.ntmps116;go_wp2_with fail
    generalize D:World.alloc _ _=W0;have R:=b_1 (w:=w) D (by go_grown);have XA:Hid (Cel W0 w.heap.size (.slice p n c) (.slice p2 n2 c2)):=a_F D (by simp [go_sem]);have XB:Hid (Cel W0 (w.heap.size+1) (.slice p3 n3 c3) (.slice p4 n4 c4)):=a_F D (by simp [go_sem]);have XR:Hid (Cel W0 (w.heap.size+1+1) (.slice none 0 0) (.slice none 0 0)):=a_F D (by simp [go_sem]);clear D;refine (cA W0 R.out).mono ?_;rintro e w1 ⟨rfl,J⟩;have H:=a_N (a_c R.out J) J;clear J cA;obtain ⟨V,b1,_,_⟩:=XB.out.up H.out.2;go_wp2_with fail
    refine (cB w1 H.out.1).mono ?_;rintro e w2 ⟨rfl,L⟩;have M:=a_N (a_c H.out.1 L) (a_c H.out.2 L);clear L cB V b1 H;go_wp2_with fail
    refine (aa w2).mono ?_;rintro e w3 ⟨rfl,O⟩;have I:=a_N (a_c M.out.1 O) (a_c M.out.2 O);clear O aa M;have xr:=XR.out.up I.out.2;have BF:=a_j I.out.1 (w.heap.size+1+1) (by omega) (.slice none 0 0) (.slice none 0 0);have cf:=xr.set (.slice none 0 0) (.slice none 0 0);obtain ⟨r0,r1,r2,r3⟩:=xr;obtain ⟨y0,y1,_,_⟩:=cf;go_wp2;exact bodyPost_ret (v:=.tuple #[.agg #[.slice none 0 0,.slice none 0 0],.int .i64 1]) (by simp [results,Tryz.results116,go_sem,y0,y1]) rfl ⟨_,rfl,TRes.none _ _,BF⟩
  ·rw [decide_eq_false hq] at cB;obtain ⟨e1,e2,e3⟩:=m_r (d:=d) (x:=x) (d':=d') (y:=y) (st:=st) (fun h=>hq h.2.1);rw [e1,e2,e3];clear e1 e2 e3 hd hx aj hy h1 h2 h3 h4 HD ac HN aa;go_enter Tryz.func116,Tryz.ntmps116;go_wp2_with fail
   generalize D:World.alloc _ _=W0;have R:=b_1 (w:=w) D (by go_grown);have XA:Hid (Cel W0 w.heap.size (.slice p n c) (.slice p2 n2 c2)):=a_F D (by simp [go_sem]);have XB:Hid (Cel W0 (w.heap.size+1) (.slice p3 n3 c3) (.slice p4 n4 c4)):=a_F D (by simp [go_sem]);have XR:Hid (Cel W0 (w.heap.size+1+1) (.slice none 0 0) (.slice none 0 0)):=a_F D (by simp [go_sem]);clear D;refine (cA W0 R.out).mono ?_;rintro e w1 ⟨rfl,J⟩;have H:=a_N (a_c R.out J) J;clear J cA;obtain ⟨V,b1,_,_⟩:=XB.out.up H.out.2;go_wp2_with fail
   refine (cB w1 H.out.1).mono ?_;rintro e w2 ⟨rfl,L⟩;have M:=a_N (a_c H.out.1 L) (a_c H.out.2 L);clear L cB V b1 H;have xr:=XR.out.up M.out.2;have BF:=a_j M.out.1 (w.heap.size+1+1) (by omega) (.slice none 0 0) (.slice none 0 0);have cf:=xr.set (.slice none 0 0) (.slice none 0 0);obtain ⟨r0,r1,r2,r3⟩:=xr;obtain ⟨y0,y1,_,_⟩:=cf;go_wp2;exact bodyPost_ret (v:=.tuple #[.agg #[.slice none 0 0,.slice none 0 0],.int .i64 1]) (by simp [results,Tryz.results116,go_sem,y0,y1]) rfl ⟨_,rfl,TRes.none _ _,BF⟩
 ·rw [decide_eq_false hp] at cA;obtain ⟨e1,e2,e3⟩:=m_r (d:=d) (x:=x) (d':=d') (y:=y) (st:=st) (fun h=>hp h.1);rw [e1,e2,e3];clear e1 e2 e3 hd hx aj hy h1 h2 h3 h4 HD ac HN cB aa;go_enter Tryz.func116,Tryz.ntmps116;go_wp2_with fail
  generalize D:World.alloc _ _=W0;have R:=b_1 (w:=w) D (by go_grown);have XA:Hid (Cel W0 w.heap.size (.slice p n c) (.slice p2 n2 c2)):=a_F D (by simp [go_sem]);have XB:Hid (Cel W0 (w.heap.size+1) (.slice p3 n3 c3) (.slice p4 n4 c4)):=a_F D (by simp [go_sem]);have XR:Hid (Cel W0 (w.heap.size+1+1) (.slice none 0 0) (.slice none 0 0)):=a_F D (by simp [go_sem]);clear D;refine (cA W0 R.out).mono ?_;rintro e w1 ⟨rfl,J⟩;have H:=a_N (a_c R.out J) J;clear J cA;have xr:=XR.out.up H.out.2;have BF:=a_j H.out.1 (w.heap.size+1+1) (by omega) (.slice none 0 0) (.slice none 0 0);have cf:=xr.set (.slice none 0 0) (.slice none 0 0);obtain ⟨r0,r1,r2,r3⟩:=xr;obtain ⟨y0,y1,_,_⟩:=cf;go_wp2;exact bodyPost_ret (v:=.tuple #[.agg #[.slice none 0 0,.slice none 0 0],.int .i64 1]) (by simp [results,Tryz.results116,go_sem,y0,y1]) rfl ⟨_,rfl,TRes.none _ _,BF⟩
end Go.Proofs.YtcpbhhlepdgdkaaGreatDoor.Wd
