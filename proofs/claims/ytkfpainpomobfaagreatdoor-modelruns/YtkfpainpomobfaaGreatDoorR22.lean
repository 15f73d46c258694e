/- ModelRuns: any net, any parameters, anyt -/
import Derived.Test.YtkfpainpomobfaaGreatDoorR18
import Derived.Test.YtkfpainpomobfaaGreatDoorR20
import Derived.Test.YtkfpainpomobfaaGreatDoorR21
set_option linter.unusedVariables false
set_option linter.unusedSimpArgs false
set_option maxHeartbeats 16000000
set_option maxRecDepth 16000
namespace Go.Proofs.YtkfpainpomobfaaGreatDoor.Wd
open Go.RowKit Fx List World Nat
theorem LyE.only {e:TypeId} {S:List TypeId} {W W':World} {B:Nat} {v:Value} {ls:List Ly} (h:LyE e W B v ls) (A:Only S W W') (he:e∉S):LyE e W' B v ls:=a_z h A he
theorem s_8 (d:List Int) (ls:List Ly) (S:List (List Int)) (P X:List Int) (i:Nat) (st:Sp) (A:st∈(plF d ls S P X i).1) (E:st.op≠1):RkC st.op:=by
 rcases (q_m _ _ _ _ _ _ st A).1 with h|h|h|h|h|h|h|h
 ·exact absurd h E
 ·rw [h];exact RkC.of (by decide) ck2
 ·rw [h];exact RkC.of (by decide) ck4
 ·rw [h];exact RkC.of (by decide) ck8
 ·rw [h];exact RkC.of (by decide) u_R
 ·rw [h];exact RkC.of (by decide) u_S
 ·rw [h];exact RkC.of (by decide) u_T
 ·rw [h];exact RkC.of (by decide) u_U
theorem r_L {d:List Int} {ls:List Ly} {P X:List Int} (M:RI P) (O:RI X):(rnF d ls [] P X).2.2.2.length<=1000/\((rnF d ls [] P X).1=0->NodesG (rnF d ls [] P X).2.1/\(rnF d ls [] P X).2.1.length<=1000):=by
 by_cases A:nE d ls=0
 ·by_cases E:(P.length:Int)=b_Q ls (nS d ls) ls.length/\(X.length:Int)=a_o d
  ·obtain ⟨L,I,e⟩:=q_j A M E.1 O E.2;obtain ⟨S,hf,Z,H⟩:=c_H A
   have J:ls.length<=16:=by
    unfold d_7 at H;simp only [Bool.or_eq_false_iff,decide_eq_false_iff_not] at H;omega
   have V:=d_J d ls (nS d ls) P X ls.length;have R:=j_t (plF d ls (nS d ls) P X ls.length).1 0;have h4:=I.l;rw [e];exact ⟨by show (pnL 0 _).length<=1000;omega,fun _=>⟨I.g,by show L.length<=1000;omega⟩⟩
  ·have e:rnF d ls [] P X=(1,[],0,[]):=by
    unfold rnF;rw [if_pos A,if_neg E]
   rw [e];exact ⟨by simp,fun h=>absurd h (by simp)⟩
 ·have e:rnF d ls [] P X=(nE d ls,[],0,[]):=by
   unfold rnF;rw [if_neg A]
  rw [e];exact ⟨by simp,fun h=>absurd h A⟩
theorem p_K (cL:RLfC) (cD:RDoC) (w:World) (hT:Hid (Tz w)) (hK:Hid (Kz w)) (hP:Hid (Pz w)) (z:Nat->Int) (n c:Nat) (p:Option Addr) (ls:List Ly) (n2 c2:Nat) (p2:Option Addr) (zp:Nat->Int) (np cp:Nat) (pp:Option Addr) (zx:Nat->Int) (nx cx:Nat) (px:Option Addr) (aj:Bool) (h1:RowN .i64 w p n c z) (h2:LayN w p2 n2 c2 ls) (h3:RowN .i64 w pp np cp zp) (h4:RowN .i64 w px nx cx zx):
  Calls Tryz.prog 3 #[.agg #[.slice p n c,.slice p2 n2 c2],.slice pp np cp,.slice px nx cx,.bool aj] w fun e w'=>e = .returned (.bool true)/\Bw w w':=by
 haveI:Nonempty World:=⟨w⟩
 obtain ⟨d,hd⟩:∃ d:List Int,Nums .i64 w (.slice p n c) d:=⟨o_j n z,h1.nums⟩
 obtain ⟨P,bt⟩:∃ P:List Int,RowI w pp np cp P:=⟨_,h3.rowI⟩
 obtain ⟨X,bD⟩:∃ X:List Int,RowI w px nx cx X:=⟨_,h4.rowI⟩
 have HN:Hid (Nums .i64 w (.slice p n c) d/\LyR 0 w p2 n2 ls/\RowI w pp np cp P/\RowI w px nx cx X):=⟨hd,h2.2.2,bt,bD⟩
 have HC:Hid (RLfC/\RDoC):=⟨cL,cD⟩
 clear h1 h2 h3 h4 hd bt bD cL cD;go_enter Tryz.func3,Tryz.ntmps3;go_wp2_with fail
 generalize a6:alloc _ _=W0;have ak:Hid (Bw w W0):=by rw [<- a6];exact a_a w _
 obtain ⟨g0,g1⟩:W0.cell? ⟨w.heap.size,0,none⟩=some (.slice p n c)/\W0.cell? ⟨w.heap.size,1,none⟩=some (.slice p2 n2 c2):=by rw [<- a6];simp [go_sem]
 clear a6;refine (j_w W0 (Hid.up_tz hT ak) (Hid.up_kz hK ak) (Hid.up_pz hP ak)).mono ?_;rintro e w1 ⟨rfl,I⟩;have ae:Hid (Bw w w1):=a_c ak I;replace g0:=a_g I g0;replace g1:=a_g I g1;have kg:=a_h g0;clear I ak hP;by_cases hn:10 < n
 ·have bR:(10:Int) < (n:Int):=by omega
  go_wp2;go_ret;exact ⟨rfl,ae⟩
 have bR:(n:Int)<=10:=by omega
 by_cases hm:12 < n2
 ·have bQ:(12:Int) < (n2:Int):=by omega
  go_wp2;go_ret;exact ⟨rfl,ae⟩
 have bQ:(n2:Int)<=12:=by omega
 by_cases hp:300 < np
 ·have bP:(300:Int) < (np:Int):=by omega
  go_wp2;go_ret;exact ⟨rfl,ae⟩
 have bP:(np:Int)<=300:=by omega
 by_cases hx:100 < nx
 ·have bT:(100:Int) < (nx:Int):=by omega
  go_wp2;go_ret;exact ⟨rfl,ae⟩
 have bT:(nx:Int)<=100:=by omega
 have aa:Hid (n2<=12/\np<=300/\nx<=100):=⟨by omega,by omega,by omega⟩
 clear hn hm hp hx;go_wp2_with fail
 refine (n_j p p2 n c n2 c2 ls (by have:=aa.1;omega) w1 (HN.2.1.up ae)).mono ?_;rintro e w4 ⟨p3,c3,rfl,bw,I⟩;obtain ⟨p4,c4,e4,be⟩:=bw.rd;rw [HN.2.1.1] at e4 be;cases e4;have bu:Hid (LyR 0 w4 p3 n2 ls):=be;have O:Hid (Bw w w4):=a_c ae I;replace g0:=a_g I g0;replace g1:=a_g I g1;replace kg:=a_h g0;clear I ae bw be;go_wp2_with fail
 refine (g_p p p3 n c n2 c3 d ls (by have:=aa.1;omega) w4 (HN.1.up O) bu.out).mono ?_;rintro e w5 ⟨⟨v5,rfl,bN⟩,I⟩;have ab:Hid (Bw w w5):=a_c O I;replace g0:=a_g I g0;replace g1:=a_g I g1;replace kg:=a_h g0;clear I O bu bN;obtain ⟨E,eE⟩:∃ E,nE d ls=E:=⟨_,rfl⟩
 obtain ⟨M,eM⟩:∃ M,nP d ls=M:=⟨_,rfl⟩
 have HE:Hid (nE d ls=E/\nP d ls=M):=⟨eE,eM⟩
 rw [eE,eM];clear eE eM;obtain ⟨D,eD⟩:∃ D,a_o d=D:=⟨_,rfl⟩
 have CZ:Hid (E=0->(0<=M/\0<=D)/\∀ W,Bw w W->Calls Tryz.prog 7 #[.slice p n c] W fun e w'=>e = .returned (.int .i64 D)/\w'=W):=fun h0=>by
  obtain ⟨S,hf,hS,ht⟩:=c_H (HE.1.trans h0);have hi:InOk d:=((b_a d ls).1 hf).1
  have ao:0<=M:=by
   have:=j_q (NetOk.of hf hS) 0 (zero_le _);rw [<- HE.2,(h_O hf hS ht).2.2];exact this
  have b4:=hi.prod;refine ⟨⟨ao,by omega⟩,fun W hW=>?_⟩;rw [<- eD];exact l_v (.slice p n c) d hi W (HN.1.up hW)
 clear eD;go_upto_region 6 with fail
 go_cut [63] from 52 to 63 (fun bO wx=>w5=wx/\∃ b:Bool,bO = .bool b/\Hid (b=false->E=0->M<=150/\D<=60))
 case first=>
  by_cases hE:E=0
  ·subst hE;obtain ⟨⟨ao,bq⟩,cz⟩:=CZ.out rfl;have cz:=cz w5 ab;by_cases hM:150 < M
   ·go_wp2;go_meet
    case rel=>exact ⟨rfl,_,rfl,fun h=>by simp at h⟩
   have bb:M<=150:=by omega
   clear ao;go_wp2_with fail
   refine cz.mono ?_;rintro e w6 ⟨rfl,e⟩;have e':=e.symm;subst e';clear e cz;by_cases hD:60 < D
   ·go_wp2;go_meet
    case rel=>exact ⟨rfl,_,rfl,fun h=>by simp at h⟩
   have bc:D<=60:=by omega
   go_wp2;go_meet
   case rel=>exact ⟨rfl,_,rfl,fun _ _=>⟨bb,bc⟩⟩
  ·have aB:(E==0)=false:=by simpa using hE
   go_wp2;go_meet
   case rel=>exact ⟨rfl,_,rfl,fun _ h=>absurd h hE⟩
 case rest=>
 obtain ⟨rfl,b,rfl,aw⟩:=hcut;cases b
 case true=>
  go_wp2;go_ret;exact ⟨rfl,ab⟩
 replace aw:Hid (E=0->M<=150/\D<=60):=aw.out rfl;go_upto_region 8 with fail
 go_cut [68] from 64 to 68 (fun bU wx=>w5=wx/\bU = .bool (aj && (E==0)))
 case first=>
  by_cases hE:E=0
  ·subst hE;cases aj <;> go_wp2 <;> go_meet
   all_goals (case rel=>exact ⟨rfl,rfl⟩)
  ·have aB:(E==0)=false:=by simpa using hE
   cases aj <;> go_wp2 <;> go_meet
   all_goals (case rel=>exact ⟨rfl,by simp [aB]⟩)
 case rest=>
 obtain ⟨rfl,rfl⟩:=hcut
 go_upto_if 68 with fail
 go_cut [1,2] from 68 to 76 (fun v1 v2 wx=>∃ (pq xq:Option Addr) (nq cq mq dq:Nat) (PP XX:List Int),v1 = .slice pq nq cq/\v2 = .slice xq mq dq/\Hid (Bw w5 wx)/\Hid (RowI wx pq nq cq PP/\RowI wx xq mq dq XX/\PP.length<=300))
 case first=>
  have bM:Hid (RowI w5 pp np cp P/\RowI w5 px nx cx X/\P.length<=300):=⟨HN.2.2.1.up ab,HN.2.2.2.up ab,by rw [HN.2.2.1.len];exact aa.2.1⟩
  by_cases hE:E=0
  ·subst hE;cases aj
   ·go_wp2;go_meet
    case rel=>exact ⟨_,_,_,_,_,_,_,_,rfl,rfl,Below.refl _ _,bM⟩
   ·obtain ⟨⟨ao,bq⟩,cz⟩:=CZ.out rfl;obtain ⟨bb,bc⟩:=aw.out rfl;obtain ⟨Mi,rfl⟩:∃ i:Nat,M=(i:Int):=⟨M.toNat,by omega⟩
    obtain ⟨Di,rfl⟩:∃ i:Nat,D=(i:Int):=⟨D.toNat,by omega⟩
    have a4:Hid (Mi<=150/\Di<=60):=⟨by omega,by omega⟩
    have CY:Hid (∀ W,Bw w W->Calls Tryz.prog 7 #[.slice p n c] W fun e w'=>e = .returned (.int .i64 (Di:Int))/\w'=W):=cz;clear ao bq bb bc cz;go_wp2_with fail
    refine (g_Y pp np cp P Mi (by have:=a4.1;omega) (by have:=aa.2.1;omega) w5 (HN.2.2.1.1.up ab)).mono ?_;rintro e w7 ⟨vP,rfl,aD,I⟩;obtain ⟨pq,nq,cq,rfl⟩:=aD.form_;have aE:Hid (Bw w5 w7):=I;have bz:Hid (RowI w7 pq nq cq (k_u P Mi)):=⟨aD.nums,n_t HN.2.2.1.2.1 _,aD.cap⟩
    replace g0:=a_g I g0;replace g1:=a_g I g1;replace kg:=a_h g0;clear I aD;go_wp2_with fail
    refine (CY.out w7 (a_c ab aE)).mono ?_;rintro e w8 ⟨rfl,e⟩;have e':=e.symm;subst e';clear e;go_wp2_with fail
    refine (g_Y px nx cx X Di (by have:=a4.2;omega) (by have:=aa.2.2;omega) w7 (HN.2.2.2.1.up (a_c ab aE))).mono ?_;rintro e wb ⟨vX,rfl,aG,I⟩;obtain ⟨xq,mq,dq,rfl⟩:=aG.form_;have ac:Hid (Bw w5 wb):=a_c aE I;have J:Hid (RowI wb pq nq cq (k_u P Mi)/\RowI wb xq mq dq (k_u X Di)/\(k_u P Mi).length<=300):=⟨bz.out.up I,⟨aG.nums,n_t HN.2.2.2.2.1 _,aG.cap⟩,by rw [p_y];have:=a4.1;omega⟩
    clear I aG aE bz;go_wp2;go_meet
    case rel=>exact ⟨_,_,_,_,_,_,_,_,rfl,rfl,ac,J⟩
  ·have aB:(E==0)=false:=by simpa using hE
   have hb:(aj && (E==0))=false:=by simp [aB]
   rw [hb];go_wp2;go_meet
   case rel=>exact ⟨_,_,_,_,_,_,_,_,rfl,rfl,Below.refl _ _,bM⟩
 case rest=>
 obtain ⟨pq,xq,nq,cq,mq,dq,PP,XX,rfl,rfl,I,aF⟩:=hcut;have ac:Hid (Bw w wc):=a_c ab I.out;have J:Hid (RowI wc pq nq cq PP/\RowI wc xq mq dq XX):=⟨aF.1,aF.2.1⟩
 have bo:PP.length<=300:=aF.2.2;replace g0:=a_g I.out g0;replace g1:=a_g I.out g1;replace kg:=a_h g0;clear I ab aw CZ aF;go_wp2_with fail
 have bF:Hid (w.heap.size < wc.heap.size):=a_b g0;have a0:Hid (PP.length<=300):=bo;have aq:Hid (Nums .i64 wc (.slice p n c) d/\LyR 0 wc p2 n2 ls):=⟨HN.1.up ac,HN.2.1.up ac⟩
 clear bo;refine (k_n wc).mono ?_;rintro e w7 ⟨tb,rfl,bC,aC⟩;replace g0:=a_g aC g0;replace g1:=a_g aC g1;replace kg:=a_h g0;have aI:Hid (TapC w7 wc.heap.size tb []/\Bw wc w7):=⟨bC,aC⟩
 clear bC aC;go_wp2_with fail
 generalize az:alloc _ _=W8
 have V:Hid (TapC W8 wc.heap.size tb []/\d_o W8 wc.heap.size w7.heap.size []/\Bw wc W8):=by
  have h8:Bw w7 W8:=by rw [<- az];exact a_a w7 _
  exact ⟨aI.1.up h8,by rw [<- az];exact Tap.new aI.2.size,a_c aI.2 h8⟩
 have bm:Bw w7 W8:=by rw [<- az];exact a_a w7 _
 replace g0:=a_g bm g0;replace g1:=a_g bm g1;replace kg:=a_h g0;obtain ⟨tc,aN⟩:∃ t,w7.heap.size=t:=⟨_,rfl⟩
 rw [aN] at V ⊢;obtain ⟨⟨e9,ns,o9,ah⟩,bj⟩:∃ R,rnF d ls [] PP XX=R:=⟨_,rfl⟩
 have aA:=r_L (d:=d) (ls:=ls) J.1.2.1 J.2.2.1;have cr:=s_M wc.heap.size tb [] NodesG.nil (by simp) d ls PP XX J.1.2.1 J.2.2.1 (fun _ st hs ho=>s_8 _ _ _ _ _ _ st hs ho) p p2 pq xq n c n2 c2 nq cq mq dq (by have:=aa.1;omega) (by have:=a0.out;omega) W8 V.1 (show Hid _ from fun W hW=>hT.out.up (a_c ac (V.2.2.trans hW))) (Hid.up_kz hK (a_c ac V.2.2)) (Kept.below aq.1 (Nat.le_refl _) V.2.2) (fun W' hR=>aq.2.up (V.2.2.trans hR.bel)) (Kept.below J.1.1 (Nat.le_refl _) V.2.2) J.1.2.2 (Kept.below J.2.1 (Nat.le_refl _) V.2.2);rw [bj] at cr aA;dsimp only at cr aA;have aT:Hid (ah.length<=1000/\(e9=0->NodesG ns/\ns.length<=1000)):=aA;have bs:Hid (rnF d ls [] PP XX=(e9,ns,o9,ah)):=bj;clear az bm aI aN bj aA;go_wp2_with fail
 refine cr.mono ?_;rintro e w9 ⟨v9,rfl,a8,bx,ay,bI⟩;obtain ⟨qa,na,ca,rfl⟩:=a8.form_;have ba:Hid (Bw wc w9):=V.2.2.trans ay;have aH:Hid (TapC w9 wc.heap.size tb ns/\d_o w9 wc.heap.size tc []/\OwnK .i64 3 w9 W8.heap.size (.slice qa na ca) ah):=⟨bx,V.2.1.only bI (by decide) (by decide) (by decide) (by decide),a8⟩
 replace g0:=(ay.cell (p:=⟨w.heap.size,0,none⟩) bF.out).trans g0;replace g1:=(ay.cell (p:=⟨w.heap.size,1,none⟩) bF.out).trans g1;replace kg:=a_h g0;clear a8 bx ay bI cr V;go_wp2_with fail
 refine (n_j p p2 n c n2 c2 ls (by have:=aa.1;omega) w9 (aq.2.up ba)).mono ?_;rintro e ai ⟨p6,c6,rfl,bn,I⟩;have Z:Hid (Bw wc ai):=a_c ba I;have ad:Hid (TapC ai wc.heap.size tb ns/\d_o ai wc.heap.size tc []/\OwnK .i64 3 ai W8.heap.size (.slice qa na ca) ah/\LyE 68 ai w9.heap.size (.slice p6 n2 c6) ls):=⟨aH.1.up I,aH.2.1.up I,aH.2.2.up I,bn⟩
 replace g0:=a_g I g0;replace g1:=a_g I g1;replace kg:=a_h g0
 have rr:=p_E (fun p p2 n c n2 c2 d ls hb w h1 hL=>(g_p p p2 n c n2 c2 d ls hb w h1 hL).mono fun e w' ⟨⟨v,h,_⟩,I⟩=>⟨⟨v,h⟩,I⟩) e_U HC.1 HC.2 wc.heap.size tc d ls PP XX J.1.2.1 J.2.2.1 p p6 pq xq n c n2 c6 nq cq mq dq (by have:=aa.1;omega) (by have:=a0.out;omega) ai Z.size ad.2.1 (fun W hR=>aq.1.up (Z.trans hR.1)) (fun W hR=>by
  obtain ⟨p_,c_,e_,h_⟩:=(ad.2.2.2.only hR.2 (by decide)).rd;rw [HN.2.1.1] at e_ h_;cases e_;exact h_) (fun W hR=>J.1.1.up (Z.trans hR.1)) J.1.2.2 (fun W hR=>J.2.1.up (Z.trans hR.1))
 rw [bs.out] at rr;dsimp only at rr;clear I bn aH ba;go_wp2_with fail
 refine rr.mono ?_;rintro e al ⟨b1,rfl,av,aM,ag⟩;obtain ⟨qb,nb,cb,rfl⟩:=av.form_;have ar:Hid (TapC al wc.heap.size tb ns/\d_o al wc.heap.size tc ns):=⟨Tap.only ad.1 ag.2 (by decide) (by decide) (by decide) (by decide),aM⟩
 have aO:Hid (Bw wc al):=Z.trans ag.1;have cs:=e_H (.slice qa na ca) (.slice qb nb cb) ah ah (by have:=aT.1;omega) al (ad.2.2.1.only ag.2 (by decide)).nums av.nums;rw [decide_eq_true rfl] at cs;have y1:(e9 != e9)=false:=by simp
 have y2:(o9 != o9)=false:=by simp
 clear rr av aM ag ad Z g0 g1 kg;go_wp2_with fail
 refine cs.mono ?_;rintro e H ⟨rfl,dr,aR⟩
 have ap:Hid (Bw wc H):=by
  show Below _ _ _;rw [aR];exact a_c aO (a_i (Below.refl _ _) dr)
 have au:Hid (TapC H wc.heap.size tb ns/\d_o H wc.heap.size tc ns):=by
  have h:Bw al H:=by rw [aR];exact a_i (Below.refl _ _) dr
  exact ⟨ar.1.up h,ar.2.up h⟩
 clear cs y1 y2 aR ar aO;by_cases h9:e9=0
 case neg=>
  have b2:(e9 != 0)=true:=by simpa using h9
  go_wp2;go_ret;exact ⟨rfl,a_c ac ap⟩
 subst h9;have HG:Hid (NodesG ns/\ns.length<=1000):=aT.2 rfl;have bV:Hid (Bw w H):=a_c ac ap;have an:Hid (TapC H wc.heap.size tb ns/\d_o H wc.heap.size tc ns/\NodesG ns):=⟨au.1,au.2,HG.1⟩
 obtain ⟨N,eN⟩:∃ N,ns.length=N:=⟨_,rfl⟩
 have a5:Hid (ns.length=N/\N<=1000):=⟨eN,by rw [<- eN];exact HG.2⟩
 have b7:(N:Int)<=9223372036854775807:=by have:=a5.2;omega
 obtain ⟨pM,cM,bL,hv,ho,bB,_⟩:=an.2.1.head;rw [eN] at hv ho;have aX:Hid (H.ownsRow wc.heap.size 55 6 (.slice pM N cM) N bL/\NdsC H wc.heap.size ns bL/\H.cell? ⟨tc,0,none⟩=some (.slice pM N cM)):=⟨ho,bB,(a_P hv).1⟩
 clear eN hv ho bB J aq ap au aT HG bs a0 ac aa HN HC HE;go_wp2_with fail
 go_loopg [20] N (fun gg i wr=>∃ (k:Nat),k<=N/\gg=N - k/\i = .int .i64 (k:Int)/\Hid (Bw H wr))
 case atStart=>exact ⟨0,by omega,by omega,by first|rfl|simp,Below.refl _ _⟩
 case round=>
  obtain ⟨k,hk,hg,rfl,HR⟩:=hrel;obtain ⟨R1,bX⟩:∃ R1:World,R1=wr:=⟨_,rfl⟩
  subst bX;have aV:=a_d aX.2.2 HR.out;by_cases bE:k < N
  ·have b8:(k:Int) < (N:Int):=by omega
   have b6:decide (k < N)=true:=decide_eq_true bE;obtain ⟨q,nd,sx,tx,eq,aS,x0,x1,x2,x3,x4,x5,a2,aZ⟩:=b_x aX.1 aX.2.1 a5.1 k bE;obtain ⟨pX,nX,cX,rfl⟩:=a2.form_;obtain ⟨qX,mX,eX,rfl⟩:=aZ.form_;subst eq;have L:Hid ((H.cell? ⟨q,k*6,none⟩=some (.int .i64 nd.op)/\H.cell? ⟨q,k*6+1,none⟩=some (.int .i64 nd.a)/\H.cell? ⟨q,k*6+2,none⟩=some (.int .i64 nd.b)/\H.cell? ⟨q,k*6+3,none⟩=some (.int .i64 nd.k)/\H.cell? ⟨q,k*6+4,none⟩=some (.slice pX nX cX)/\H.cell? ⟨q,k*6+5,none⟩=some (.slice qX mX eX))/\Tn nd.D nd.X (.agg #[.slice pX nX cX,.slice qX mX eX]) H):=⟨⟨x0,x1,x2,x3,x4,x5⟩,_,_,_,_,_,_,rfl,a2.nums,aZ.nums⟩
   have bJ:Hid (Few nd.D/\Few nd.X):=s_N an.2.2 aS;have cA:Hid (∀ W,Bw H W->Calls Tryz.prog 13 #[.pointer (some ⟨tb,0,none⟩),.int .i64 (k:Int)] W fun e w'=>∃ s t,e = .returned (.tuple #[.agg #[.int .i64 nd.op,.int .i64 nd.a,.int .i64 nd.b,.int .i64 nd.k,s,t],.bool true])/\OwnK .i64 3 w' W.heap.size s nd.D/\OwnK .i64 48 w' W.heap.size t nd.X/\Bw W w'):=fun W hW=>n_k _ _ ns an.2.2 k nd aS W (an.1.up hW);obtain ⟨fo,bi⟩:∃ z,nd.op=z:=⟨_,rfl⟩
   obtain ⟨fa,aW⟩:∃ z,nd.a=z:=⟨_,rfl⟩
   obtain ⟨fb,a1⟩:∃ z,nd.b=z:=⟨_,rfl⟩
   obtain ⟨fk,aP⟩:∃ z,nd.k=z:=⟨_,rfl⟩
   obtain ⟨fD,ax⟩:∃ z,nd.D=z:=⟨_,rfl⟩
   obtain ⟨fX,aL⟩:∃ z,nd.X=z:=⟨_,rfl⟩
   rw [bi,aW,a1,aP,ax,aL] at L;rw [ax,aL] at bJ;rw [bi,aW,a1,aP,ax,aL] at cA;clear bi aW a1 aP ax aL a2 aZ x0 x1 x2 x3 x4 x5 aS;go_wp2_with fail
   refine (cA.out R1 HR.out).mono ?_;rintro e w2 ⟨s2,t2,rfl,aY,bg,a7⟩;obtain ⟨bh,bl,a9,rfl⟩:=aY.form_;obtain ⟨a3,aQ,bk,rfl⟩:=bg.form_;have af:Hid (Bw H w2):=a_c HR.out a7;have bH:Hid (Tn fD fX (.agg #[.slice bh bl a9,.slice a3 aQ bk]) w2):=⟨_,_,_,_,_,_,rfl,aY.nums,bg.nums⟩
   have am:=a_g a7 aV;have x0:=a_d L.1.1 af;have x1:=a_d L.1.2.1 af;have x2:=a_d L.1.2.2.1 af;have x3:=a_d L.1.2.2.2.1 af;have x4:=a_d L.1.2.2.2.2.1 af;have x5:=a_d L.1.2.2.2.2.2 af;have zc:=a_b am;have zq:=a_b x0;have m1:(fo != fo)=false:=by simp
   have m2:(fa != fa)=false:=by simp
   have m3:(fb != fb)=false:=by simp
   have m4:(fk != fk)=false:=by simp
   clear aY bg a7 cA aV;go_wp2_with fail
   generalize aU:alloc _ _=W4;have aJ:Bw w2 W4:=by rw [<- aU];go_grown
   have bd:W4.heap[w2.heap.size]?=some (.cells #[.int .i64 fo,.int .i64 fa,.int .i64 fb,.int .i64 fk,.slice bh bl a9,.slice a3 aQ bk] 52 (0,0)):=by
    rw [<- aU];exact heap_alloc_new _ _
   have O:Hid (Bw H W4):=a_c af aJ;have bZ:Hid (Tn fD fX (.agg #[.slice bh bl a9,.slice a3 aQ bk]) W4):=bH.out.up aJ;obtain ⟨⟨v0,v1,v2,v3,v4,v5⟩,_⟩:=g_i bd;have zv:=a_k bd;replace am:=a_g aJ am;replace x0:=a_d L.1.1 O;replace x1:=a_d L.1.2.1 O;replace x2:=a_d L.1.2.2.1 O;replace x3:=a_d L.1.2.2.2.1 O;replace x4:=a_d L.1.2.2.2.2.1 O;replace x5:=a_d L.1.2.2.2.2.2 O;replace zc:=a_b am;replace zq:=a_b x0;clear aU aJ bd bH;simp only [append_eq,cons_append,nil_append];have bG:Hid (Few fD/\Few fX):=bJ;refine rel [⟨65,195,EqV (.bool true)⟩] 66 206 (by kernel_rfl) rfl rfl (by kernel_rfl) (by rfl) ?_ ?_
   ·intro e he v W W' h hb;simp only [mem_cons,not_mem_nil,or_false] at he;subst he;exact h
   apply Exists.intro;refine ⟨fun x=>?_,?_,?_⟩
   ·simp only [take_succ_cons,take_zero]
    iterate 65
     apply c_w;rfl;rfl
     ·intro F hF hf K hK hFc hFf
      go_big_quiet_op
      exact hK
     (try simp only [a_v])
    refine c_g rfl rfl ?_ ?_
    ·intro F hF hf d hFc hFf;have bp:=hF.below d;have ca:=o_G (bZ.out.up bp) (L.2.up (a_c O bp)) bG.1 bG.2;rw [decide_eq_true ⟨rfl,rfl⟩] at ca;simp [a_j,a_e,go_sem];refine ca.mono ?_;rintro e' w6 ⟨rfl,bS⟩;exact ⟨_,rfl,rfl,bS⟩
    (try simp only [a_v])
    refine b_A ?_;exact rfl
   ·intro x;simp only [b_q,foldl_cons,foldl_nil,a_v]
   intro bW xs bv hf;simp only [drop_succ_cons,drop_zero];have bA:xs 65 = .bool true:=hf _ mS;have br:Hid (Bw H bW):=a_c O bv;clear x0 x1 x2 x3 x4 x5 v0 v1 v2 v3 v4 v5 zv zc zq am bv hf;rw [bA];clear bA;go_wp2;go_roundg (N - (k+1))
   case measure=>omega
   case rel=>exact ⟨k+1,by omega,rfl,by first|rfl|simp,br⟩
  ·obtain rfl:N=k:=by omega
   have cz:∀ m,Calls Tryz.prog 15 #[.pointer (some ⟨tb,0,none⟩)] (R1.drewN m) fun e w'=>e = .returned (.int .i64 (N:Int))/\w'=R1.drewN m:=fun m=>by
    have:=h_y wc.heap.size tb ns (R1.drewN m) (an.1.up (a_c HR.out (l_m _ _)));rw [a5.1] at this;exact this
   have b5:((N:Int)==(N:Int))=true:=by simp
   have b0:(N==N)=true:=by simp
   have b3:=a_b aV;go_wp2_with fail
   go_quiet (exact Calls.quiet_of_same (cz _))
   generalize bK:drewN R1 nq=wc;have bY:Hid (Bw R1 wc):=by show Below _ _ _;rw [<- bK];exact l_m _ _
   clear bK cz;go_wp2;go_ret;exact ⟨rfl,a_c bV (a_c HR.out bY)⟩
theorem r_M {k:Int} (h:InR k):InR (whI k):=by
 unfold whI InR at *
 split <;> omega
theorem k_F (op:Int) (q:Bool) (E:decide (d_H op)=q) (w:World):
  Calls Tryz.prog 43 #[.int .i64 op] w fun e O=>e = .returned (.bool q)/\O=w:=by
 by_cases L:op=2
 ·subst L;have A:q=true:=by rw [<- E];decide
  subst A;clear E;go_enter Tryz.func43,Tryz.ntmps43;go_wp2;go_ret;exact ⟨rfl,rfl⟩
 by_cases J:op=3
 ·subst J;have A:q=true:=by rw [<- E];decide
  subst A;clear E;go_enter Tryz.func43,Tryz.ntmps43;go_wp2;go_ret;exact ⟨rfl,rfl⟩
 by_cases M:op=4
 ·subst M;have A:q=true:=by rw [<- E];decide
  subst A;clear E;go_enter Tryz.func43,Tryz.ntmps43;go_wp2;go_ret;exact ⟨rfl,rfl⟩
 by_cases I:op=6
 ·subst I;have A:q=true:=by rw [<- E];decide
  subst A;clear E;go_enter Tryz.func43,Tryz.ntmps43;go_wp2;go_ret;exact ⟨rfl,rfl⟩
 by_cases H:op=12
 ·subst H;have A:q=true:=by rw [<- E];decide
  subst A;clear E;go_enter Tryz.func43,Tryz.ntmps43;go_wp2;go_ret;exact ⟨rfl,rfl⟩
 have Z:(op==2)=false:=by simpa using L
 have g3:(op==3)=false:=by simpa using J
 have V:(op==4)=false:=by simpa using M
 have g6:(op==6)=false:=by simpa using I
 have R:(op==12)=false:=by simpa using H
 have A:q=false:=by rw [<- E];exact decide_eq_false (by omega)
 subst A;clear E L J M I H;go_enter Tryz.func43,Tryz.ntmps43;go_wp2;go_ret;exact ⟨rfl,rfl⟩
theorem n_P (op:Int) (q:Bool) (E:decide (byP op)=q) (w:World):
  Calls Tryz.prog 44 #[.int .i64 op] w fun e V=>e = .returned (.bool q)/\V=w:=by
 by_cases L:op=5
 ·subst L;have A:q=true:=by rw [<- E];decide
  subst A;clear E;go_enter Tryz.func44,Tryz.ntmps44;go_wp2;go_ret;exact ⟨rfl,rfl⟩
 by_cases M:op=8
 ·subst M;have A:q=true:=by rw [<- E];decide
  subst A;clear E;go_enter Tryz.func44,Tryz.ntmps44;go_wp2;go_ret;exact ⟨rfl,rfl⟩
 by_cases I:op=11
 ·subst I;have A:q=true:=by rw [<- E];decide
  subst A;clear E;go_enter Tryz.func44,Tryz.ntmps44;go_wp2;go_ret;exact ⟨rfl,rfl⟩
 by_cases J:op=12
 ·subst J;have A:q=true:=by rw [<- E];decide
  subst A;clear E;go_enter Tryz.func44,Tryz.ntmps44;go_wp2;go_ret;exact ⟨rfl,rfl⟩
 by_cases H:op=13
 ·subst H;have A:q=true:=by rw [<- E];decide
  subst A;clear E;go_enter Tryz.func44,Tryz.ntmps44;go_wp2;go_ret;exact ⟨rfl,rfl⟩
 have g5:(op==5)=false:=by simpa using L
 have g8:(op==8)=false:=by simpa using M
 have O:(op==11)=false:=by simpa using I
 have Z:(op==12)=false:=by simpa using J
 have R:(op==13)=false:=by simpa using H
 have A:q=false:=by rw [<- E];exact decide_eq_false (by omega)
 subst A;clear E L M I J H;go_enter Tryz.func44,Tryz.ntmps44;go_wp2;go_ret;exact ⟨rfl,rfl⟩
theorem g_2 (k z:Int) (A:whI k=z) (w:World):
  Calls Tryz.prog 72 #[.int .i64 k] w fun e J=>e = .returned (.int .i64 z)/\J=w:=by
 unfold whI at A;by_cases H:k < -1000000
 ·rw [if_pos (.inl H)] at A;subst A;go_enter Tryz.func72,Tryz.ntmps72;go_wp2;go_ret;exact ⟨rfl,rfl⟩
 ·by_cases I:1000000 < k
  ·rw [if_pos (.inr I)] at A;subst A;have E:-1000000<=k:=by omega
   go_enter Tryz.func72,Tryz.ntmps72;go_wp2;go_ret;exact ⟨rfl,rfl⟩
  ·rw [if_neg (fun h=>h.elim H I)] at A;subst A;have E:-1000000<=k:=by omega
   have L:k<=1000000:=by omega
   go_enter Tryz.func72,Tryz.ntmps72;go_wp2;go_ret;exact ⟨rfl,rfl⟩
/-- What reckon tells at one Op. -/
def RkP (op:Int):Prop:=∀ (p p2 p3 p4:Option Addr) (n c n2 c2 n3 c3 n4 c4:Nat) (dd yy d' y':List Int) (K:Int) (hK:InR K) (hg:f_q dd yy) (hd':RI d') (hy':RI y') (hnc:n<=c) (w:World) (h1:Nums .i64 w (.slice p n c) dd) (h2:Nums .i64 w (.slice p2 n2 c2) yy) (h3:Nums .i64 w (.slice p3 n3 c3) d') (h4:Nums .i64 w (.slice p4 n4 c4) y'),
  Calls Tryz.prog 45 #[.int .i64 op,.agg #[.slice p n c,.slice p2 n2 c2],.agg #[.slice p3 n3 c3,.slice p4 n4 c4],.int .i64 K] w fun e w'=>∃ v',e = .returned (.tuple #[v',.int .i64 (rkE op dd yy d' y' K)])/\TRes w' w.heap.size v' (rkD op dd yy d' y' K) (rkV op dd yy d' y' K)/\Bw w w'
end Go.Proofs.YtkfpainpomobfaaGreatDoor.Wd
