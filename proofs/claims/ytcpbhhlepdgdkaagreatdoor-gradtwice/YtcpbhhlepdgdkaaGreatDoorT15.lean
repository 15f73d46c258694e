/- The code's back: what two calls of other -/
import Derived.Test.YtcpbhhlepdgdkaaGreatDoorT14
set_option linter.unusedVariables false
set_option linter.unusedSimpArgs false
set_option maxHeartbeats 16000000
set_option maxRecDepth 16000
namespace Go.Proofs.YtcpbhhlepdgdkaaGreatDoor.Wd
open Go.RowKit Fx
theorem f_S (p1 q1:Option Addr) (n1 c1 m1 e1:Nat) (p2 q2:Option Addr) (n2 c2 m2 e2:Nat) (p3:Option Addr) (n3 c3:Nat) (g o:Ten) (d:List Int) (hg:b_b g) (ho:b_b o) (hd:RI d) (hE:b_C g.1 g.2 o.1 o.2=0) (hm:b_b (i_s g o)) (hF:c_3 (i_s g o).1 (i_s g o).2 d=0) (w:World) (ab:Nums .i64 w (.slice p1 n1 c1) g.1) (ad:Nums .i64 w (.slice q1 m1 e1) g.2) (am:m1<=e1) (ah:Nums .i64 w (.slice p2 n2 c2) o.1) (af:Nums .i64 w (.slice q2 m2 e2) o.2) (ai:m2<=e2) (h3:Nums .i64 w (.slice p3 n3 c3) d):
  Calls Tryz.prog 93 #[(.agg #[.slice p1 n1 c1,.slice q1 m1 e1]),(.agg #[.slice p2 n2 c2,.slice q2 m2 e2]),.slice p3 n3 c3] w fun e I=>∃ J,e = .returned (.tuple #[J,.int .i64 0])/\TRes I w.heap.size J (c_m (i_s g o) d).1 (c_m (i_s g o) d).2/\Below w.heap.size w I:=by
 obtain ⟨M,eM⟩:∃ M,i_s g o=M:=⟨_,rfl⟩
 have cF:Hid (∀ W,Below w.heap.size w W->Calls Tryz.prog 109 #[(.agg #[.slice p1 n1 c1,.slice q1 m1 e1]),(.agg #[.slice p2 n2 c2,.slice q2 m2 e2])] W fun e I=>∃ J,e = .returned (.tuple #[J,.int .i64 0])/\TRes I W.heap.size J M.1 M.2/\Below W.heap.size W I):=fun W hW=>by
  have:=j_I p1 q1 p2 q2 n1 c1 m1 e1 n2 c2 m2 e2 g.1 g.2 o.1 o.2 hg.2.1 hg.2.2 ho.2.1 ho.2.2 W (ab.up hW) (ad.up hW) (ah.up hW) (af.up hW);rw [hE] at this;rw [<- eM];exact this
 rw [eM] at hm hF ⊢
 have cS:Hid (∀ (W:World) (p q:Option Addr) (n c m e:Nat),Below w.heap.size w W->Nums .i64 W (.slice p n c) M.1->Nums .i64 W (.slice q m e) M.2->m<=e->Calls Tryz.prog 92 #[.agg #[.slice p n c,.slice q m e],.slice p3 n3 c3] W fun e I=>∃ J,e = .returned (.tuple #[J,.int .i64 0])/\TRes I W.heap.size J (c_m M d).1 (c_m M d).2/\Below W.heap.size W I):=fun W p q n c m e hW a1 a2 a3=>by
  have:=e_j p q p3 n c m e n3 c3 M.1 M.2 d hm.2.1 hm.2.2 hd hF W a1 a2 (h3.up hW);rw [hF] at this;exact this
 clear eM hm hF hE ab ad am ah af ai h3 hg ho hd;obtain ⟨R,eR⟩:∃ R,c_m M d=R:=⟨_,rfl⟩
 rw [eR] at cS ⊢;clear eR;go_enter Tryz.func93,Tryz.ntmps93;go_wp2_with fail
 generalize ae:World.alloc _ _=W0;obtain ⟨U,XA,XB,XR⟩:=m_C ae;clear ae;refine (cF.out W0 U.out).mono ?_;rintro e w1 ⟨v1,rfl,⟨s1,t1,rfl,O,L⟩,aa⟩;obtain ⟨pa,na,ca,rfl⟩:=O.form_;obtain ⟨pb,nb,cb,rfl⟩:=L.form_;have V:=a_N (a_c U.out aa) aa;have H:Hid (Nums .i64 w1 (.slice pa na ca) M.1/\Nums .i64 w1 (.slice pb nb cb) M.2/\nb<=cb):=⟨O.nums,L.nums,L.cap⟩
 clear O L aa cF;go_wp2_with fail
 generalize ac:World.alloc _ _=W2;have B2:Below w1.heap.size w1 W2:=by rw [<- ac];exact a_b w1 _
 have D:=a_N (a_c V.out.1 B2) (a_c V.out.2 B2);have E:Hid (Nums .i64 W2 (.slice pa na ca) M.1/\Nums .i64 W2 (.slice pb nb cb) M.2/\nb<=cb):=⟨H.out.1.up B2,H.out.2.1.up B2,H.out.2.2⟩
 clear ac B2 H V;refine (cS.out W2 pa pb na ca nb cb D.out.1 E.out.1 E.out.2.1 E.out.2.2).mono ?_;rintro e w3 ⟨v3,rfl,⟨s3,t3,rfl,O,L⟩,ag⟩;obtain ⟨an,ap,ak,rfl⟩:=O.form_;obtain ⟨aq,aj,ao,rfl⟩:=L.form_;clear cS E;obtain ⟨HF,r0,r1,r2,r3,z0,z1⟩:=h_v XR U (a_c D.out.2 ag) (O.low D.out.2.size) (L.low D.out.2.size) (by omega);clear O L ag D;go_wp2;exact bodyPost_ret (v:=.tuple #[.agg #[.slice an ap ak,.slice aq aj ao],.int .i64 0]) (by simp [results,Tryz.results93,go_sem,z0,z1]) rfl ⟨_,rfl,HF.out⟩
theorem k_T (p1 q1:Option Addr) (n1 c1 m1 e1:Nat) (p3:Option Addr) (n3 c3:Nat) (g:Ten) (d:List Int) (hg:b_b g) (hd:RI d) (hE:e_L g.1 g.2=0) (hF:c_3 (d_j g (-4294967296)).1 (d_j g (-4294967296)).2 d=0) (w:World) (ac:Nums .i64 w (.slice p1 n1 c1) g.1) (ae:Nums .i64 w (.slice q1 m1 e1) g.2) (ai:m1<=e1) (h3:Nums .i64 w (.slice p3 n3 c3) d):
  Calls Tryz.prog 103 #[(.agg #[.slice p1 n1 c1,.slice q1 m1 e1]),.slice p3 n3 c3] w fun e J=>∃ L,e = .returned (.tuple #[L,.int .i64 0])/\TRes J w.heap.size L (c_m (d_j g (-4294967296)) d).1 (c_m (d_j g (-4294967296)) d).2/\Below w.heap.size w J:=by
 obtain ⟨M,eM⟩:∃ M,d_j g (-4294967296)=M:=⟨_,rfl⟩
 have cF:Hid (∀ W,Below w.heap.size w W->Calls Tryz.prog 94 #[(.agg #[.slice p1 n1 c1,.slice q1 m1 e1]),.int .i64 (-4294967296)] W fun e J=>∃ L,e = .returned (.tuple #[L,.int .i64 0])/\TRes J W.heap.size L M.1 M.2/\Below W.heap.size W J):=fun W hW=>by
  have:=k_D p1 q1 n1 c1 m1 e1 g.1 g.2 hg.2.1 hg.2.2 (-4294967296) (by unfold InR;omega) W (ac.up hW) (ae.up hW);rw [hE] at this;rw [<- eM];exact this
 have hm:b_b M:=by rw [<- eM];exact (e_1 hg _).1
 rw [eM] at hF ⊢
 have cS:Hid (∀ (W:World) (p q:Option Addr) (n c m e:Nat),Below w.heap.size w W->Nums .i64 W (.slice p n c) M.1->Nums .i64 W (.slice q m e) M.2->m<=e->Calls Tryz.prog 92 #[.agg #[.slice p n c,.slice q m e],.slice p3 n3 c3] W fun e J=>∃ L,e = .returned (.tuple #[L,.int .i64 0])/\TRes J W.heap.size L (c_m M d).1 (c_m M d).2/\Below W.heap.size W J):=fun W p q n c m e hW a1 a2 a3=>by
  have:=e_j p q p3 n c m e n3 c3 M.1 M.2 d hm.2.1 hm.2.2 hd hF W a1 a2 (h3.up hW);rw [hF] at this;exact this
 clear eM hm hF hE ac ae ai h3 hg hd;obtain ⟨R,eR⟩:∃ R,c_m M d=R:=⟨_,rfl⟩
 rw [eR] at cS ⊢;clear eR;go_enter Tryz.func103,Tryz.ntmps103;go_wp2_with fail
 generalize H:World.alloc _ _=W0;have V:=b_1 (w:=w) H (by go_grown);have XA:Hid (Cel W0 w.heap.size (.slice p1 n1 c1) (.slice q1 m1 e1)):=a_F H (by simp [go_sem]);have XR:Hid (Cel W0 (w.heap.size+1) (.slice none 0 0) (.slice none 0 0)):=a_F H (by simp [go_sem]);clear H;refine (cF.out W0 V.out).mono ?_;rintro e w1 ⟨v1,rfl,⟨s1,t1,rfl,U,O⟩,ab⟩;obtain ⟨pa,na,ca,rfl⟩:=U.form_;obtain ⟨pb,nb,cb,rfl⟩:=O.form_;have aa:=a_N (a_c V.out ab) ab;have I:Hid (Nums .i64 w1 (.slice pa na ca) M.1/\Nums .i64 w1 (.slice pb nb cb) M.2/\nb<=cb):=⟨U.nums,O.nums,O.cap⟩
 clear U O ab cF;go_wp2_with fail
 generalize ad:World.alloc _ _=W2;have B2:Below w1.heap.size w1 W2:=by rw [<- ad];exact a_b w1 _
 have D:=a_N (a_c aa.out.1 B2) (a_c aa.out.2 B2);have E:Hid (Nums .i64 W2 (.slice pa na ca) M.1/\Nums .i64 W2 (.slice pb nb cb) M.2/\nb<=cb):=⟨I.out.1.up B2,I.out.2.1.up B2,I.out.2.2⟩
 clear ad B2 I aa;refine (cS.out W2 pa pb na ca nb cb D.out.1 E.out.1 E.out.2.1 E.out.2.2).mono ?_;rintro e w3 ⟨v3,rfl,⟨s3,t3,rfl,U,O⟩,af⟩;obtain ⟨aj,am,ah,rfl⟩:=U.form_;obtain ⟨an,ag,ak,rfl⟩:=O.form_;clear cS E;obtain ⟨HF,r0,r1,r2,r3,z0,z1⟩:=h_v XR V (a_c D.out.2 af) (U.low D.out.2.size) (O.low D.out.2.size) (by omega);clear U O af D;go_wp2;exact bodyPost_ret (v:=.tuple #[.agg #[.slice aj am ah,.slice an ag ak],.int .i64 0]) (by simp [results,Tryz.results103,go_sem,z0,z1]) rfl ⟨_,rfl,HF.out⟩
theorem i_X (p1 q1:Option Addr) (n1 c1 m1 e1:Nat) (p2:Option Addr) (n2 c2:Nat) (g:Ten) (d V:List Int) (s:Nat) (hg:b_b g) (gd:goodN (ntl d)) (hs:s < d.length) (hS:j_J g.1 g.2 (d.set s 1)=0/\j_K g.1 g.2 (d.set s 1)=d.set s 1/\l_d g.1 g.2 (d.set s 1)=g.2) (hq:c_u (d.set s 1) g.2) (hE:b_C (d.set s 1) g.2 d (List.replicate (a_e (ntl d)) 0)=0/\b_J (d.set s 1) g.2 d (List.replicate (a_e (ntl d)) 0)=d/\b_Z (fun a b=>Fx.hold (a+b)) (d.set s 1) g.2 d (List.replicate (a_e (ntl d)) 0)=V) (w:World) (ao:Nums .i64 w (.slice p1 n1 c1) g.1) (ap:Nums .i64 w (.slice q1 m1 e1) g.2) (h2:Nums .i64 w (.slice p2 n2 c2) d):
  Calls Tryz.prog 97 #[.agg #[.slice p1 n1 c1,.slice q1 m1 e1],.slice p2 n2 c2,.int .i64 (s:Int)] w fun e E=>∃ D,e = .returned (.tuple #[D,.int .i64 0])/\TRes E w.heap.size D d V/\Below w.heap.size w E:=by
 have aD:d.length<=4:=by have:=gd.1;rw [a_Q] at this;omega
 obtain ⟨N,eN⟩:∃ N,d.length=N:=⟨_,rfl⟩
 obtain ⟨Z,eZ⟩:∃ Z,List.replicate (a_e (ntl d)) (0:Int)=Z:=⟨_,rfl⟩
 obtain ⟨T,eT⟩:∃ T,d.set s 1=T:=⟨_,rfl⟩
 have rd:RI d:=i_R gd;have hz:c_u d Z:=by rw [<- eZ];exact q_Q gd (by unfold InR;omega)
 have cC:Hid (∀ W,Below w.heap.size w W->Calls Tryz.prog 64 #[.slice p2 n2 c2] W fun e E=>∃ D,e = .returned D/\OwnK .i64 3 E W.heap.size D d/\Below W.heap.size W E):=fun W hW=>b_j _ d (by omega) W (h2.up hW)
 have cF:Hid (∀ W g_ n_ R,Below w.heap.size w W->Nums .i64 W (.slice g_ n_ R) T->Calls Tryz.prog 102 #[.agg #[.slice p1 n1 c1,.slice q1 m1 e1],.slice g_ n_ R] W fun e E=>∃ D,e = .returned (.tuple #[D,.int .i64 0])/\TRes E W.heap.size D T g.2/\Below W.heap.size W E):=fun W g_ n_ R hW hn=>by
  have rt:=hq.2.1;rw [eT] at hS rt;have:=d_c p1 q1 g_ n1 c1 m1 e1 n_ R g.1 g.2 T hg.2.1 rt W (ao.up hW) (ap.up hW) hn;rw [hS.1,hS.2.1,hS.2.2] at this;exact this
 have cN:Hid (∀ W,Below w.heap.size w W->Calls Tryz.prog 57 #[.slice p2 n2 c2,.int .i64 0] W fun e E=>∃ D,e = .returned (.tuple #[D,.int .i64 0])/\TRes E W.heap.size D d Z/\Below W.heap.size W E):=fun W hW=>by
  have:=c_Q (.slice p2 n2 c2) d rd 0 W (h2.up hW);rw [show l_9 d=0 from if_pos gd,show d_Y d=d from if_pos gd,show m_a d 0=Z from (if_pos gd).trans eZ] at this;exact this
 have cA:Hid (∀ W a_ b_ R d_ e_ f_ g_ h_ i_ j_ k_ l_,Nums .i64 W (.slice a_ b_ R) T->Nums .i64 W (.slice d_ e_ f_) g.2->Nums .i64 W (.slice g_ h_ i_) d->Nums .i64 W (.slice j_ k_ l_) Z->Calls Tryz.prog 79 #[.agg #[.slice a_ b_ R,.slice d_ e_ f_],.agg #[.slice g_ h_ i_,.slice j_ k_ l_]] W fun e E=>∃ D,e = .returned (.tuple #[D,.int .i64 0])/\TRes E W.heap.size D d V/\Below W.heap.size W E):=fun W a_ b_ R d_ e_ f_ g_ h_ i_ j_ k_ l_ u1 u2 u3 u4=>by
  rw [eT] at hE hq;rw [eZ] at hE;have:=g_V a_ d_ g_ j_ b_ R e_ f_ h_ i_ k_ l_ T g.2 d Z hq.2.1 hq.2.2 hz.2.1 hz.2.2 W u1 u2 u3 u4;rw [hE.1,hE.2.1,hE.2.2] at this;exact this
 have HT:Hid (d.set s 1=T):=eT;rw [eN] at hs;have HL:Hid (d.length=N):=eN;have aK:(s:Int) < (N:Int):=by omega
 clear eN eZ eT rd hz hS hq hE ao ap h2 hg gd aD;go_enter Tryz.func97,Tryz.ntmps97;go_wp2_with fail
 generalize M:World.alloc _ _=W0;have aj:=b_1 (w:=w) M (by go_grown);have XA:Hid (Cel W0 w.heap.size (.slice p1 n1 c1) (.slice q1 m1 e1)):=a_F M (by simp [go_sem]);have XR:Hid (Cel W0 (w.heap.size+1) (.slice none 0 0) (.slice none 0 0)):=a_F M (by simp [go_sem]);clear M;refine (cC.out W0 aj.out).mono ?_;rintro e w1 ⟨v1,rfl,hO,aw⟩;obtain ⟨gq,cq,rfl,aA⟩:=hO.at (by rw [HL.out];omega)
 rw [HL.out] at hO ⊢;obtain ⟨aq,aI⟩:=hO.cell HL.out s hs;have ar:OwnK .i64 3 (w1.setCell ⟨gq,s,none⟩ (.int .i64 1)) W0.heap.size (.slice (some ⟨gq,0,none⟩) N cq) T:=by rw [<- HT.out];exact hO.store HL.out s 1
 have I:Hid (OwnK .i64 3 (w1.setCell ⟨gq,s,none⟩ (.int .i64 1)) W0.heap.size (.slice (some ⟨gq,0,none⟩) N cq) T/\Below W0.heap.size W0 (w1.setCell ⟨gq,s,none⟩ (.int .i64 1))):=⟨ar,aw.setCell (p:=⟨gq,s,none⟩) aA _⟩
 have kg:=a_a aq;obtain ⟨ae,au,_,_⟩:=XA.out.up I.out.2;have kx:=a_a ae;clear ar hO aw cC;go_wp2_with fail
 generalize ay:World.setCell _ _ _=W2;rw [ay] at I ae au kx;have O:=a_N (a_c aj.out I.out.2) I.out.2;refine (cF.out W2 _ _ _ O.out.1 I.out.1.nums).mono ?_;rintro e w3 ⟨v3,rfl,⟨s3,t3,rfl,ad,ac⟩,ah⟩;obtain ⟨p3,n3,c3,rfl⟩:=ad.form_;obtain ⟨q3,m3,e3,rfl⟩:=ac.form_;have af:=a_N (a_c O.out.1 ah) (a_c O.out.2 ah);have an:Hid (Nums .i64 w3 (.slice p3 n3 c3) T/\Nums .i64 w3 (.slice q3 m3 e3) g.2):=⟨ad.nums,ac.nums⟩
 clear ad ac ah O I ay ae au kx kg aq aI cF aA;go_wp2_with fail
 generalize ab:World.alloc _ _=W4;have B4:Below w3.heap.size w3 W4:=by rw [<- ab];exact a_b w3 _
 have X4:Hid (Cel W4 w3.heap.size (.slice p3 n3 c3) (.slice q3 m3 e3)):=a_F ab (by simp [go_sem]);have U:=a_N (a_c af.out.1 B4) (a_c af.out.2 B4);have ag:Hid (Nums .i64 W4 (.slice p3 n3 c3) T/\Nums .i64 W4 (.slice q3 m3 e3) g.2):=⟨an.out.1.up B4,an.out.2.up B4⟩
 clear ab B4 af an;refine (cN.out W4 U.out.1).mono ?_;rintro e w5 ⟨v5,rfl,⟨s5,t5,rfl,ai,ak⟩,H⟩;obtain ⟨p5,n5,c5,rfl⟩:=ai.form_;obtain ⟨q5,m5,e5,rfl⟩:=ak.form_;have am:=a_N (a_c U.out.1 H) (a_c U.out.2 H);have X5:Hid (Cel w5 w3.heap.size (.slice p3 n3 c3) (.slice q3 m3 e3)):=X4.out.up H;have J:Hid ((Nums .i64 w5 (.slice p3 n3 c3) T/\Nums .i64 w5 (.slice q3 m3 e3) g.2)/\Nums .i64 w5 (.slice p5 n5 c5) d/\Nums .i64 w5 (.slice q5 m5 e5) Z):=⟨⟨ag.out.1.up H,ag.out.2.up H⟩,ai.nums,ak.nums⟩
 clear ai ak H U ag X4 cN;obtain ⟨ax,aB,_,_⟩:=X5.out;have ky:=a_a ax;go_wp2_with fail
 generalize av:World.alloc _ _=W6;have B6:Below w5.heap.size w5 W6:=by rw [<- av];exact a_b w5 _
 have aa:=a_N (a_c am.out.1 B6) (a_c am.out.2 B6);have L:Hid ((Nums .i64 W6 (.slice p3 n3 c3) T/\Nums .i64 W6 (.slice q3 m3 e3) g.2)/\Nums .i64 W6 (.slice p5 n5 c5) d/\Nums .i64 W6 (.slice q5 m5 e5) Z):=⟨⟨J.out.1.1.up B6,J.out.1.2.up B6⟩,J.out.2.1.up B6,J.out.2.2.up B6⟩
 clear av B6 am J ax aB ky X5;refine (cA.out W6 _ _ _ _ _ _ _ _ _ _ _ _ L.out.1.1 L.out.1.2 L.out.2.1 L.out.2.2).mono ?_;rintro e w7 ⟨v7,rfl,⟨s7,t7,rfl,hs,ht⟩,az⟩;obtain ⟨aF,aJ,aE,rfl⟩:=hs.form_;obtain ⟨aH,aC,aG,rfl⟩:=ht.form_;obtain ⟨HF,r0,r1,r2,r3,z0,z1⟩:=h_v XR aj (a_c aa.out.2 az) (hs.low aa.out.2.size) (ht.low aa.out.2.size) (by omega);clear hs ht az aa cA L;go_wp2;exact bodyPost_ret (v:=.tuple #[.agg #[.slice aF aJ aE,.slice aH aC aG],.int .i64 0]) (by simp [results,Tryz.results97,go_sem,z0,z1]) rfl ⟨_,rfl,HF.out⟩
theorem i_Y (p2:Option Addr) (n2 c2:Nat) (d:List Int) (v:Int) (hv:InR v) (V:goodN (ntl d)) (w:World) (h2:Nums .i64 w (.slice p2 n2 c2) d):
  Calls Tryz.prog 98 #[.int .i64 v,.slice p2 n2 c2] w fun e R=>∃ v',e = .returned (.tuple #[v',.int .i64 0])/\TRes R w.heap.size v' d (List.replicate (a_e (ntl d)) (Fx.hold (rqI v (a_e (ntl d):Int))))/\Below w.heap.size w R:=by
 have rd:RI d:=i_R V;have af:1<=a_e (ntl d):=a_A V.2.1;obtain ⟨N,eN⟩:∃ N,a_e (ntl d)=N:=⟨_,rfl⟩
 rw [eN] at af ⊢
 have cN:Hid (∀ W x,Below w.heap.size w W->Calls Tryz.prog 57 #[.slice p2 n2 c2,.int .i64 x] W fun e R=>∃ v',e = .returned (.tuple #[v',.int .i64 0])/\TRes R W.heap.size v' d (List.replicate N x)/\Below W.heap.size W R):=fun W x hW=>by
  have:=c_Q (.slice p2 n2 c2) d rd x W (h2.up hW);rw [show l_9 d=0 from if_pos V,show d_Y d=d from if_pos V,show m_a d x=List.replicate N x from (if_pos V).trans (by rw [eN])] at this;exact this
 obtain ⟨Y,eY⟩:∃ Y,(List.replicate N (0:Int)).set 0 v=Y:=⟨_,rfl⟩
 have HY:Hid ((List.replicate N (0:Int)).set 0 v=Y):=eY;obtain ⟨H,eH⟩:∃ H,Fx.hold (rqI v (N:Int))=H:=⟨_,rfl⟩
 have cM:Hid (∀ W a_ b_ c_ d_ e_ f_,Nums .i64 W (.slice a_ b_ c_) d->Nums .i64 W (.slice d_ e_ f_) Y->Calls Tryz.prog 114 #[.agg #[.slice a_ b_ c_,.slice d_ e_ f_]] W fun e R=>e = .returned (.tuple #[.int .i64 H,.int .i64 0])/\Below W.heap.size W R):=fun W a_ b_ c_ d_ e_ f_ u1 u2=>by
  have ry:RI Y:=by
   rw [<- eY];intro y hy;rcases List.mem_or_eq_of_mem_set hy with h|h
   ·rw [List.eq_of_mem_replicate h];omega
   ·rw [h];exact hv
  have py:isP d Y:=⟨V,by rw [<- eY,List.length_set,List.length_replicate,eN]⟩
  have:=j_S a_ d_ b_ c_ e_ f_ d Y rd ry W u1 u2;rw [show l_e d Y=0 from if_pos py,show h_Y d Y=H from (if_pos py).trans (by rw [<- eY,o_I v N af,eH])] at this;exact this
 rw [eH];have ah:(List.replicate N (0:Int)).length=N:=List.length_replicate;have HL:Hid ((List.replicate N (0:Int)).length=N):=ah;obtain ⟨Z,eZ⟩:∃ Z,List.replicate N (0:Int)=Z:=⟨_,rfl⟩
 have HZ:Hid (List.replicate N (0:Int)=Z):=eZ;rw [eZ] at HY HL;have au:(0:Int) < (N:Int):=by omega
 clear eN eY eH eZ ah rd V h2 hv;go_enter Tryz.func98,Tryz.ntmps98;go_wp2_with fail
 generalize U:World.alloc _ _=W0;have M:=b_1 (w:=w) U (by go_grown);have XR:Hid (Cel W0 w.heap.size (.slice none 0 0) (.slice none 0 0)):=a_F U (by simp [go_sem]);clear U;refine (cN.out W0 0 M.out).mono ?_;rintro e w1 ⟨v1,rfl,⟨s1,t1,rfl,J,D⟩,ag⟩;obtain ⟨p1,n1,c1,rfl⟩:=J.form_;rw [HZ.out] at D;obtain ⟨I,cq,rfl,aq⟩:=D.at (by rw [HL.out];omega)
 rw [HL.out] at D ⊢
 have L:Off I (.slice p1 n1 c1):=by
  obtain ⟨cs,fz,aj⟩:=D.obj;exact J.off_type aj (by decide)
 obtain ⟨ae,am⟩:=D.cell HL.out 0 (by omega);have kg:=a_a ae
 have HS:Hid (Nums .i64 (w1.setCell ⟨I,0,none⟩ (.int .i64 v)) (.slice p1 n1 c1) d/\Nums .i64 (w1.setCell ⟨I,0,none⟩ (.int .i64 v)) (.slice (some ⟨I,0,none⟩) N cq) Y/\Below W0.heap.size W0 (w1.setCell ⟨I,0,none⟩ (.int .i64 v))):=by
  refine ⟨J.nums.stay ((Stay.refl I _).set 0 _) L,?_,ag.setCell (p:=⟨I,0,none⟩) aq _⟩;have:=(D.store HL.out 0 v).nums;rw [HY.out] at this;exact this
 clear J D ag L;go_wp2_with fail
 generalize ac:World.alloc _ _=W2;have B2:Below (w1.setCell ⟨I,0,none⟩ (.int .i64 v)).heap.size (w1.setCell ⟨I,0,none⟩ (.int .i64 v)) W2:=by rw [<- ac];exact a_b _ _
 have aa:=a_N (a_c M.out (a_c HS.out.2.2 B2)) (a_c HS.out.2.2 B2);have O:Hid (Nums .i64 W2 (.slice p1 n1 c1) d/\Nums .i64 W2 (.slice (some ⟨I,0,none⟩) N cq) Y):=⟨HS.out.1.up B2,HS.out.2.1.up B2⟩
 clear ac B2 HS kg ae am;refine (cM.out W2 _ _ _ _ _ _ O.out.1 O.out.2).mono ?_;rintro e w3 ⟨rfl,ab⟩;have E:=a_N (a_c aa.out.1 ab) (a_c aa.out.2 ab);clear ab aa cM O;go_wp2_with fail
 refine (cN.out w3 H E.out.1).mono ?_;rintro e w7 ⟨v7,rfl,⟨s7,t7,rfl,hs,ht⟩,ad⟩;obtain ⟨an,ap,ak,rfl⟩:=hs.form_;obtain ⟨ar,ai,ao,rfl⟩:=ht.form_;obtain ⟨HF,r0,r1,r2,r3,z0,z1⟩:=h_v XR M (a_c E.out.2 ad) (hs.low E.out.2.size) (ht.low E.out.2.size) (by omega);clear hs ht ad E cN;go_wp2;exact bodyPost_ret (v:=.tuple #[.agg #[.slice an ap ak,.slice ar ai ao],.int .i64 0]) (by simp [results,Tryz.results98,go_sem,z0,z1]) rfl ⟨_,rfl,HF.out⟩
theorem i_Z (p1 q1:Option Addr) (n1 c1 H e1:Nat) (p2 q2:Option Addr) (n2 c2 m2 e2:Nat) (g a:Ten) (K:Int) (hg:b_b g) (ha:b_b a) (hE:plE a.1 a.2 K=0) (o1:(plP a.1 a.2 K).length=g.2.length) (o2:∀ i,i < (plP a.1 a.2 K).length->0<=(plP a.1 a.2 K).getD i 0/\(plP a.1 a.2 K).getD i 0 < (a_e (ntl a.1):Int)) (o3:RI (plP a.1 a.2 K)) (w:World) (aF:Nums .i64 w (.slice p1 n1 c1) g.1) (ak:Nums .i64 w (.slice q1 H e1) g.2) (aq:Nums .i64 w (.slice p2 n2 c2) a.1) (aw:Nums .i64 w (.slice q2 m2 e2) a.2) (aL:m2<=e2):
  Calls Tryz.prog 101 #[.agg #[.slice p1 n1 c1,.slice q1 H e1],.agg #[.slice p2 n2 c2,.slice q2 m2 e2],.int .i64 K] w fun e w'=>∃ v',e = .returned (.tuple #[v',.int .i64 0])/\TRes w' w.heap.size v' a.1 (h_w (a_e (ntl a.1)) (plP a.1 a.2 K) g.2 (plP a.1 a.2 K).length)/\Below w.heap.size w w':=by
 have gd:=ha.1.1;have aO:1<=a_e (ntl a.1):=a_A gd.2.1;obtain ⟨N,eN⟩:∃ N,a_e (ntl a.1)=N:=⟨_,rfl⟩
 rw [eN] at aO o2 ⊢;obtain ⟨P,eP⟩:∃ P,plP a.1 a.2 K=P:=⟨_,rfl⟩
 obtain ⟨L,eL⟩:∃ L,P.length=L:=⟨_,rfl⟩
 have cP:Hid (∀ W,Below w.heap.size w W->Calls Tryz.prog 117 #[.agg #[.slice p2 n2 c2,.slice q2 m2 e2],.int .i64 K] W fun e w'=>∃ v' u',e = .returned (.tuple #[v',u',.int .i64 0])/\TRes w' W.heap.size v' (plD a.1 a.2 K) (plV a.1 a.2 K)/\OwnK .i64 3 w' W.heap.size u' P/\Below W.heap.size W w'):=fun W hW=>by
  have:=j_0 p2 q2 n2 c2 m2 e2 a.1 a.2 K ha.2.1 ha.2.2 aL W (aq.up hW) (aw.up hW);rw [hE,eP] at this;exact this
 have cN:Hid (∀ W,Below w.heap.size w W->Calls Tryz.prog 57 #[.slice p2 n2 c2,.int .i64 0] W fun e w'=>∃ v',e = .returned (.tuple #[v',.int .i64 0])/\TRes w' W.heap.size v' a.1 (h_w N P g.2 0)/\Below W.heap.size W w'):=fun W hW=>by
  have:=c_Q (.slice p2 n2 c2) a.1 ha.2.1 0 W (aq.up hW);rw [show l_9 a.1=0 from if_pos gd,show d_Y a.1=a.1 from if_pos gd,show m_a a.1 0=h_w N P g.2 0 from (if_pos gd).trans (by rw [eN];rfl)] at this;exact this
 rw [eP] at o1 o2 o3 ⊢;rw [eL] at o1 o2 ⊢;have HL:Hid (P.length=L):=eL;have HV:Hid (∀ k,(h_w N P g.2 k).length=N):=fun k=>g_7 N P g.2 k;have HI:Hid (∀ i,i < L->0<=P.getD i 0/\P.getD i 0 < (N:Int)):=o2
 have HG:Hid (Nums .i64 w (.slice q1 H e1) g.2/\g.2.length=L/\L<=1073741824):=⟨ak,o1.symm,by
  have h1:=hg.1.2;have h2:=hg.1.1.2.2;have h3:a_e (ntl g.1)<=4096:=h2;omega⟩
 obtain ⟨em,aR⟩:H=L/\True:=⟨by
  rcases ak with ⟨h,h0⟩|⟨ad,c,h,_⟩
  ·cases h;rw [h0] at o1;simpa using o1.symm
  ·cases h;exact o1.symm,trivial⟩
 subst em;clear eN eP eL o1 o2 o3 aF ak aq aw hg ha hE gd aR;go_enter Tryz.func101,Tryz.ntmps101;go_wp2_with fail
 generalize av:World.alloc _ _=W0;obtain ⟨ar,XG,XA,XR⟩:=m_C av;clear av;refine (cP.out W0 ar.out).mono ?_;rintro e w1 ⟨v1,u1,rfl,⟨s1,t1,rfl,ax,az⟩,an,ac⟩;obtain ⟨p3,n3,c3,rfl⟩:=ax.form_;obtain ⟨q3,m3,e3,rfl⟩:=az.form_;obtain ⟨p4,c4,rfl,ap⟩:=an.nums.view;rw [HL.out] at ap an ⊢;have ao:=a_N (a_c ar.out ac) ac;have ay:Hid (∀ j,j < H->∃ q o,p4=some ⟨q,o,none⟩/\w1.cell? ⟨q,o+j,none⟩=some (.int .i64 (P.getD j 0))):=ap;obtain ⟨aA,aH,_,_⟩:=XA.out.up ac;have ky:=a_a aA;clear ax az an ac cP ap;go_wp2_with fail
 generalize aB:World.alloc _ _=W2;have B2:Below w1.heap.size w1 W2:=by rw [<- aB];exact a_b _ _
 have R:=a_N (a_c ao.out.1 B2) (a_c ao.out.2 B2)
 have aK:Hid (∀ j,j < H->∃ q o,p4=some ⟨q,o,none⟩/\W2.cell? ⟨q,o+j,none⟩=some (.int .i64 (P.getD j 0))/\q < W2.heap.size):=fun j hj=>by
  obtain ⟨q,o,e1,e2⟩:=ay.out j hj;have:=a_d e2 B2;exact ⟨q,o,e1,this,a_a this⟩
 clear aB B2 ao ay aA aH ky XA;refine (cN.out W2 R.out.1).mono ?_;rintro e w3 ⟨v3,rfl,⟨s3,t3,rfl,aa,I⟩,ae⟩;obtain ⟨M,V,U,rfl⟩:=aa.form_;obtain ⟨D,O,rfl,aS⟩:=I.at (by rw [HV.out];omega)
 rw [HV.out] at I ⊢
 have ah:Off D (.slice M V U):=by
  obtain ⟨cs,fz,aI⟩:=I.obj;exact aa.off_type aI (by decide)
 have am:Hid (OwnK .i64 3 w3 W2.heap.size (.slice M V U) a.1/\Off D (.slice M V U)/\W2.heap.size<=D):=⟨aa,ah,aS⟩
 have ab:=a_N (a_c R.out.1 ae) (a_N (a_c R.out.2 ae) ae);have kg:=I.size;have aE:Hid (OwnK .i64 48 w3 W2.heap.size (.slice (some ⟨D,0,none⟩) N O) (h_w N P g.2 0)):=I;clear aa I ae ah cN;go_wp2_with fail
 generalize ai:World.alloc _ _=W4;have B4:Below w3.heap.size w3 W4:=by rw [<- ai];exact a_b _ _
 have XT:Hid (Cel W4 w3.heap.size (.slice M V U) (.slice (some ⟨D,0,none⟩) N O)):=a_F ai (by simp [go_sem]);have af:Hid (Below w.heap.size w W4/\Below W0.heap.size W0 W4/\Below W2.heap.size W2 W4):=⟨a_c ab.out.1 B4,a_c ab.out.2.out.1 B4,a_c ab.out.2.out.2 B4⟩
 have J:Hid (OwnK .i64 3 W4 W2.heap.size (.slice M V U) a.1/\Off D (.slice M V U)/\W2.heap.size<=D):=⟨am.out.1.up B4,am.out.2⟩
 have aG:Hid (OwnK .i64 48 W4 W2.heap.size (.slice (some ⟨D,0,none⟩) N O) (h_w N P g.2 0)):=aE.out.up B4;have aQ:Hid (Cel W4 w.heap.size (.slice p1 n1 c1) (.slice q1 H e1)):=XG.out.up af.out.2.1;have aM:Hid (Cel W4 (w.heap.size+2) (.slice none 0 0) (.slice none 0 0)):=XR.out.up af.out.2.1;have Hg:Hid (D < w3.heap.size/\w.heap.size+2 < W2.heap.size):=⟨kg,Nat.lt_of_lt_of_le (a_a XR.out.1) R.out.2.size⟩
 clear ai B4 ab am aE XG XR kg ar R;obtain ⟨tb,aC⟩:∃ b,w3.heap.size=b:=⟨_,rfl⟩
 rw [aC] at XT Hg ⊢;clear aC;haveI:Nonempty World:=⟨w⟩
 go_loopg [37] H (fun gg i wr=>∃ (k:Nat),k<=H/\gg=H - k/\i = .int .i64 (k:Int)/\Hid (OwnK .i64 48 wr W2.heap.size (.slice (some ⟨D,0,none⟩) N O) (h_w N P g.2 k))/\Hid (Below w.heap.size w wr/\Stay D W4 wr))
 case atStart=>exact ⟨0,by omega,by omega,by first|rfl|simp,aG.out,af.out.1,Stay.refl _ _⟩
 case round=>
  obtain ⟨k,hk,aV,rfl,HO,E⟩:=hrel;obtain ⟨R1,aJ⟩:∃ R1:World,R1=wr:=⟨_,rfl⟩
  subst aJ;by_cases aj:k < H
  ·have aU:(k:Int) < (H:Int):=by omega
   have hm:H<=1073741824:=HG.out.2.2
   obtain ⟨j,ej,hj⟩:∃ j:Nat,P.getD k 0=(j:Int)/\j < N:=by
    have:=HI.out k aj;exact ⟨(P.getD k 0).toNat,by omega,by omega⟩
   have aT:(j:Int) < (N:Int):=by omega
   obtain ⟨q,o,rfl,u1,u2⟩:=aK.out k aj;have u3:=E.out.2.cell (a_d u1 af.out.2.2) (show q≠D by have:=J.out.2.2;omega);rw [ej] at u3;have u4:=a_a u3;obtain ⟨Y,eY⟩:∃ Y,g.2.getD k 0=Y:=⟨_,rfl⟩
   have HY:Hid (g.2.getD k 0=Y/\(P.getD k 0).toNat=j):=⟨eY,by omega⟩
   obtain ⟨q',o',rfl,d1⟩:∃ q' o',q1=some ⟨q',o',none⟩/\R1.cell? ⟨q',o'+k,none⟩=some (.int .i64 Y):=by
    obtain ⟨p_,c_,e_,hv⟩:=HG.out.1.view;cases e_;obtain ⟨q',o',e1,e2⟩:=hv k (by rw [HG.out.2.1];exact aj);rw [eY] at e2;exact ⟨q',o',e1,a_d e2 E.out.1⟩
   have d2:=a_a d1;obtain ⟨t0,t1,_,_⟩:=XT.out.stay E.out.2 (by have:=Hg.out;omega);have t9:=a_a t0;obtain ⟨x0,x1,_,_⟩:=aQ.out.stay E.out.2 (by have:=Hg.out;have:=J.out.2.2;omega);have x9:=a_a x0;obtain ⟨ag,aN⟩:=HO.out.cell (HV.out k) j hj;have aP:=a_a ag;have aD:w.heap.size<=D:=by have:=Hg.out;have:=J.out.2.2;omega
   have H5:Hid (OwnK .i64 48 (R1.setCell ⟨D,j,none⟩ (.int .i64 Y)) W2.heap.size (.slice (some ⟨D,0,none⟩) N O) (h_w N P g.2 (k+1))/\Below w.heap.size w (R1.setCell ⟨D,j,none⟩ (.int .i64 Y))/\Stay D W4 (R1.setCell ⟨D,j,none⟩ (.int .i64 Y))):=by
    refine ⟨?_,E.out.1.setCell (p:=⟨D,j,none⟩) aD _,E.out.2.set _ _⟩;have:=HO.out.store (HV.out k) j Y;rw [h_w,HY.out.1,HY.out.2];exact this
   clear eY ej u1 u2 HO E aD;go_wp2_with fail
   go_region;generalize au:World.drew _=W9;have H6:Hid (OwnK .i64 48 W9 W2.heap.size (.slice (some ⟨D,0,none⟩) N O) (h_w N P g.2 (k+1))):=by show OwnK _ _ _ _ _ _;rw [<- au];exact H5.out.1.up ⟨rfl,rfl,rfl,Nat.le_refl _,fun _ _=>rfl⟩
   have H7:Hid (Below w.heap.size w W9/\Stay D W4 W9):=by
    have d:Below (R1.setCell ⟨D,j,none⟩ (.int .i64 Y)).heap.size (R1.setCell ⟨D,j,none⟩ (.int .i64 Y)) W9:=by rw [<- au];exact ⟨rfl,rfl,rfl,Nat.le_refl _,fun _ _=>rfl⟩
    exact ⟨a_c H5.out.2.1 d,H5.out.2.2.up d⟩
   clear au H5 u3 u4 d1 d2 t0 t1 t9 x0 x1 x9 ag aN aP;go_wp2;go_roundg (H - (k+1))
   case measure=>omega
   case rel=>exact ⟨k+1,by omega,rfl,by first|rfl|simp,H6,H7⟩
  ·obtain rfl:k=H:=by omega
   have g1:=Hg.out;have g2:=J.out.2.2;have xR:=aM.out.stay E.out.2 (by omega);have xT:=XT.out.stay E.out.2 (by omega);have o1:=J.out.1.stay E.out.2 J.out.2.1;have HF:Hid (TRes (set2 R1 (w.heap.size+2) (.slice M V U) (.slice (some ⟨D,0,none⟩) N O)) w.heap.size (.agg #[.slice M V U,.slice (some ⟨D,0,none⟩) N O]) a.1 (h_w N P g.2 k)/\Below w.heap.size w (set2 R1 (w.heap.size+2) (.slice M V U) (.slice (some ⟨D,0,none⟩) N O))):=⟨(TRes.set o1 HO.out g1.2).low (by omega),a_j E.out.1 _ (by omega) _ _⟩
   have cf:=xR.set (.slice M V U) (.slice (some ⟨D,0,none⟩) N O);obtain ⟨r0,r1,r2,r3⟩:=xR;obtain ⟨t0,t1,_,_⟩:=xT;have kt:=a_a t0;have kr:=a_a r0;have z0:=cf.1;have z1:=cf.2.1;clear cf o1 HO E;go_wp2;exact bodyPost_ret (v:=.tuple #[.agg #[.slice M V U,.slice (some ⟨D,0,none⟩) N O],.int .i64 0]) (by simp [results,Tryz.results101,go_sem,z0,z1]) rfl ⟨_,rfl,HF.out⟩
theorem s_h (p p2 p3 p4:Option Addr) (n c n2 c2 n3 c3 n4 c4:Nat) (d x d' y:List Int) (st lg:Int) (hd:RI d) (hx:RI x) (aU:RI d') (hy:RI y) (H:biE d x d' y st lg=0) (w:World) (hT:Hid (Tz w)) (h1:Nums .i64 w (.slice p n c) d) (h2:Nums .i64 w (.slice p2 n2 c2) x) (h3:Nums .i64 w (.slice p3 n3 c3) d') (h4:Nums .i64 w (.slice p4 n4 c4) y):
  Calls Tryz.prog 100 #[.agg #[.slice p n c,.slice p2 n2 c2],.agg #[.slice p3 n3 c3,.slice p4 n4 c4],.int .i64 st,.int .i64 lg] w fun e w'=>∃ v',e = .returned (.tuple #[v',.int .i64 (biE d x d' y st lg)])/\TRes w' w.heap.size v' (biD d x d' y st lg) (biV d x d' y st lg)/\Below w.heap.size w w':=by
 have cA:=fun W (hW:Below w.heap.size w W)=>a_B _ _ d x hd W (h1.up hW) (h2.up hW);have cB:=fun W (hW:Below w.heap.size w W)=>a_B _ _ d' y aU W (h3.up hW) (h4.up hW);have aC:∀ W:World,Calls Tryz.prog 126 #[.int .i64 st] W fun e w'=>e = .returned (.bool (decide (1<=st/\st<=64)))/\Below W.heap.size W w':=fun W=>d_g st W;have aE:∀ W:World,Calls Tryz.prog 127 #[.int .i64 lg] W fun e w'=>e = .returned (.bool (decide (1<=lg/\lg<=4096)))/\Below W.heap.size W w':=fun W=>d_N lg W;obtain ⟨_,_,_,e4,HD⟩:=h1.lst;cases e4;obtain ⟨_,_,_,e4,af⟩:=h3.lst;cases e4;have HN:Hid (Nums .i64 w (.slice p2 n2 c2) x/\Nums .i64 w (.slice p4 n4 c4) y):=⟨h2,h4⟩
 haveI:Nonempty World:=⟨w⟩
 by_cases hp:isP d x
 ·rw [decide_eq_true hp] at cA;by_cases hq:isP d' y
  ·rw [decide_eq_true hq] at cB;by_cases hs:1<=st/\st<=64
   ·rw [decide_eq_true hs] at aC;by_cases hl:1<=lg/\lg<=4096
    ·rw [decide_eq_true hl] at aE;have hA:biA d x d' y st lg:=⟨hp,hq,hs,hl⟩
     obtain ⟨stN,rfl⟩:∃ q:Nat,st=q:=⟨st.toNat,by omega⟩
     obtain ⟨D,rfl⟩:∃ q:Nat,lg=q:=⟨lg.toNat,by omega⟩
     have bl:n<=4:=by have:=hp.1.1;rw [a_Q,HD.out.1] at this;exact this
     have bi:(n:Int)<=4:=by omega
     have bk:n3<=4:=by have:=hq.1.1;rw [a_Q,af.out.1] at this;exact this
     have bh:(n3:Int)<=4:=by omega
     by_cases hn:n=2
     ·subst hn;by_cases a5:n3=3
      ·subst a5;obtain ⟨D0,D1,rfl,a4,k0,k1,k2⟩:=a_W hp HD.out.1;obtain ⟨E0,I,O,rfl,aS,l0,l1,l2,l3⟩:=c_h hq af.out.1
       have aV:Hid ((∃ q o,p=some ⟨q,o,none⟩/\w.cell? ⟨q,o,none⟩=some (.int .i64 (D0:Int))/\w.cell? ⟨q,o+1,none⟩=some (.int .i64 (D1:Int)))/\(∃ q o,p3=some ⟨q,o,none⟩/\w.cell? ⟨q,o,none⟩=some (.int .i64 (E0:Int))/\w.cell? ⟨q,o+1,none⟩=some (.int .i64 (I:Int))/\w.cell? ⟨q,o+2,none⟩=some (.int .i64 (O:Int)))):=by
        obtain ⟨q,o,rfl,bf⟩:=HD.out.2 0 (by omega);obtain ⟨q',o',e',be⟩:=HD.out.2 1 (by omega);cases e';obtain ⟨r,s,rfl,bb⟩:=af.out.2 0 (by omega);obtain ⟨r',s',e',am⟩:=af.out.2 1 (by omega);cases e';obtain ⟨r',s',e',aw⟩:=af.out.2 2 (by omega);cases e';exact ⟨⟨_,_,rfl,bf,be⟩,_,_,rfl,bb,am,aw⟩
       obtain ⟨⟨qa,oa,rfl,aO,aN⟩,qb,ob,rfl,aG,aK,aP⟩:=aV.out;have zD:=c_N k2 k0 k1;have bc:E0*I<=4096:=Nat.le_trans (Nat.le_mul_of_pos_right _ l2) l3;have zE:=c_N bc l0 l1;have bp:O<=4096:=by have:=Nat.mul_le_mul (Nat.mul_le_mul l0 l1) (Nat.le_refl O);omega
       have bm:(D0:Int)<=4096/\(D1:Int)<=4096:=by omega
       have bt:(E0:Int)<=4096/\(I:Int)<=4096/\(O:Int)<=4096:=by omega
       by_cases hm:D0=E0
       ·subst hm;have bj:((D0:Int) != (D0:Int))=false:=by simp
        by_cases hw:O<=D
        ·have br:(O:Int)<=(D:Int):=by omega
         by_cases hS:a_M D O stN=D1
         ·obtain ⟨M,e2,e3⟩:=i_O hA hw hS;clear H;rw [M,e2,e3];have HG:Hid (∀ (gs:Nat) (pd:Option Addr) (nd cd:Nat) (W:World),Below w.heap.size w W->Nums .i64 W (.slice pd nd cd) [(I:Int),(D:Int)]->SlC W gs I D D0 O stN->W.cell? ⟨w.heap.size,1,none⟩=some (.slice p2 n2 c2)->W.cell? ⟨w.heap.size+1,1,none⟩=some (.slice p4 n4 c4)->Calls Tryz.prog 129 #[.slice pd nd cd,.func (.func 130) #[] #[.pointer (some ⟨gs,0,none⟩),.pointer (some ⟨w.heap.size,0,none⟩),.pointer (some ⟨w.heap.size+1,0,none⟩)]] W fun e w'=>∃ v',e = .returned (.tuple #[v',.int .i64 (f_7 [(I:Int),(D:Int)])])/\TRes w' W.heap.size v' (d_Y [(I:Int),(D:Int)]) (if goodN (ntl [(I:Int),(D:Int)]) then h_7 D0 I D1 O stN D x y else [])/\Below W.heap.size W w'):=fun gs pd nd cd W hW hN hs a8 bg=>q_v I D D0 O stN D1 hS l2 hw (by omega) (by omega) (by omega) l1 k0 l3 k2 zD.1 zE.2 gs _ _ p2 n2 c2 p4 n4 c4 x y hx hy a4 aS pd nd cd W (Hid.up_tz hT hW) hN hs a8 bg (HN.out.1.up hW) (HN.out.2.up hW);obtain ⟨EE,a3⟩:∃ E,f_7 [(I:Int),(D:Int)]=E:=⟨_,rfl⟩
          obtain ⟨DD,a2⟩:∃ E,d_Y [(I:Int),(D:Int)]=E:=⟨_,rfl⟩
          obtain ⟨VV,a7⟩:∃ E,(if goodN (ntl [(I:Int),(D:Int)]) then h_7 D0 I D1 O stN D x y else [])=E:=⟨_,rfl⟩
          rw [a3,a2,a7] at HG ⊢
          have aR:∀ W:World,Calls Tryz.prog 128 #[.agg #[.int .i64 (I:Int),.int .i64 (D:Int),.int .i64 (D0:Int),.int .i64 (O:Int),.int .i64 (stN:Int)]] W fun e w'=>e = .returned (.int .i64 (D1:Int))/\Below W.heap.size W w':=fun W=>by
           have:=e_g I D D0 O stN hw (by omega) (by omega) (by omega) W;rw [hS] at this;exact this
          have bo:((D1:Int) != (D1:Int))=false:=by simp
          have bv:∀ (fn:Fn) (first aT:Array Value) (w:World),(Instr.makeFunc fn first aT).run Tryz.prog w = .ok (.func fn first aT) w:=fun _ _ _ _=>rfl;clear M e2 e3 hA hp hq hd hx aU hy h1 h2 h3 h4 HD af aV a4 aS HN hS a3 a2 a7;go_enter Tryz.func100,Tryz.ntmps100;go_wp2_with fail
          generalize ah:World.alloc _ _=W0;have aZ:=b_1 (w:=w) ah (by go_grown);have XA:Hid (Cel W0 w.heap.size (.slice (some ⟨qa,oa,none⟩) 2 c) (.slice p2 n2 c2)):=a_F ah (by simp [go_sem]);have XB:Hid (Cel W0 (w.heap.size+1) (.slice (some ⟨qb,ob,none⟩) 3 c3) (.slice p4 n4 c4)):=a_F ah (by simp [go_sem]);have XR:Hid (Cel W0 (w.heap.size+1+1) (.slice none 0 0) (.slice none 0 0)):=a_F ah (by simp [go_sem]);clear ah;refine (cA W0 aZ.out).mono ?_;rintro e w1 ⟨rfl,am⟩;have aj:=a_N (a_c aZ.out am) am;clear am cA;obtain ⟨b0,b1,_,_⟩:=XB.out.up aj.out.2;go_wp2_with fail
          refine (cB w1 aj.out.1).mono ?_;rintro e w2 ⟨rfl,aw⟩;have aL:=a_N (a_c aj.out.1 aw) (a_c aj.out.2 aw);clear aw cB b0 b1 aj;go_wp2_with fail
          refine (aC w2).mono ?_;rintro e w3 ⟨rfl,aM⟩;have aI:=a_N (a_c aL.out.1 aM) (a_c aL.out.2 aM);clear aM aC aL;go_wp2_with fail
          refine (aE w3).mono ?_;rintro e w4 ⟨rfl,aJ⟩;have R:=a_N (a_c aI.out.1 aJ) (a_c aI.out.2 aJ);clear aJ aE aI;obtain ⟨a0,a1,_,_⟩:=XA.out.up R.out.2;obtain ⟨b0,b1,_,_⟩:=XB.out.up R.out.2;have a9:=a_a a0;have b9:=a_a b0;have ac:=a_d aO R.out.1;have ax:=a_a ac;have ad:=a_d aN R.out.1;have az:=a_a ad;have ab:=a_d aG R.out.1;have ao:=a_a ab;have V:=a_d aK R.out.1;have ak:=a_a V;have U:=a_d aP R.out.1;have ar:=a_a U;go_wp2_with fail
          go_quiet (fail)
          generalize aX:World.drewN w4 nq=w5;have J:Hid (Below w.heap.size w w5/\Below W0.heap.size W0 w5):=by rw [<- aX];exact ⟨a_m R.out.1 nq,a_m R.out.2 nq⟩
          clear aX;clear a0 a1 b0 b1 a9 b9 ac ax ad az ab ao V ak U ar;obtain ⟨a0,a1,_,_⟩:=XA.out.up J.out.2;obtain ⟨b0,b1,_,_⟩:=XB.out.up J.out.2;have a9:=a_a a0;have b9:=a_a b0;have ac:=a_d aO J.out.1;have ax:=a_a ac;have ad:=a_d aN J.out.1;have az:=a_a ad;have ab:=a_d aG J.out.1;have ao:=a_a ab;have V:=a_d aK J.out.1;have ak:=a_a V;have U:=a_d aP J.out.1;have ar:=a_a U;go_wp2_with fail
          refine d_7 (.cells #[.int .i64 0,.int .i64 0,.int .i64 0,.int .i64 0,.int .i64 0] 195) 15 16 92 10 (by kernel_rfl) rfl rfl (by kernel_rfl) rfl rfl rfl ?_;apply Exists.intro;refine ⟨?_,?_,?_⟩
          ·intro F hF;have hFc:=hF.cell;have hFf:=hF.frozen;simp only [List.take_succ_cons,List.take_zero,List.eraseIdx_cons_succ,List.eraseIdx_cons_zero]
           repeat (go_big_quiet_step (fail))
           refine wpQuiet_nil ?_;exact rfl
          ·intro W
           kernel_rfl
          intro W6 g8 hW hM;have Y0:=hM.cell (i:=0) rfl;have Y1:=hM.cell (i:=1) rfl;have Y2:=hM.cell (i:=2) rfl;have Y3:=hM.cell (i:=3) rfl;have Y4:=hM.cell (i:=4) rfl;have Z0:=hM.frozen 0;have Z1:=hM.frozen 1;have Z2:=hM.frozen 2;have Z3:=hM.frozen 3;have Z4:=hM.frozen 4;have bd:g8 < W6.heap.size:=hM.1;have aH:w5.heap.size<=g8:=hM.2.1;have N5:=t_a W6 g8 (.int .i64 (I:Int)) (.int .i64 (D:Int)) (.int .i64 (D0:Int)) (.int .i64 (O:Int)) (.int .i64 (stN:Int)) Y0 Y1 Y2 Y3 Y4;have N6:=b_8 (a_c J.out.1 hW) g8 (Nat.le_trans J.out.1.size aH) (.int .i64 (I:Int)) (.int .i64 (D:Int)) (.int .i64 (D0:Int)) (.int .i64 (O:Int)) (.int .i64 (stN:Int));have N7:=b_8 (a_c J.out.2 hW) g8 (Nat.le_trans J.out.2.size aH) (.int .i64 (I:Int)) (.int .i64 (D:Int)) (.int .i64 (D0:Int)) (.int .i64 (O:Int)) (.int .i64 (stN:Int));simp only [List.drop_succ_cons,List.drop_zero];unfold d_K;clear hM hW a0 a1 b0 b1 a9 b9 ac ax ad az ab ao V ak U ar aH;go_wp2_with fail
          refine a_P (fun w7 a6=>?_);rw [<- a6] at N5 N6 N7;clear a6 Y0 Y1 Y2 Y3 Y4 Z0 Z1 Z2 Z3 Z4 bd;have L:Hid (Below w.heap.size w w7/\Below W0.heap.size W0 w7):=⟨N6,N7⟩
          have X7:Hid (SlC w7 g8 I D D0 O stN):=N5;clear N5 N6 N7;obtain ⟨a0,a1,_,_⟩:=XA.out.up L.out.2;obtain ⟨b0,b1,_,_⟩:=XB.out.up L.out.2;have a9:=a_a a0;have b9:=a_a b0;have ac:=a_d aO L.out.1;have ax:=a_a ac;have ad:=a_d aN L.out.1;have az:=a_a ad;have ab:=a_d aG L.out.1;have ao:=a_a ab;have V:=a_d aK L.out.1;have ak:=a_a V;have U:=a_d aP L.out.1;have ar:=a_a U;obtain ⟨z0,z1,z2,z3,z4⟩:=X7.out;have zl:=a_a z0;refine j_B 7 92 (by kernel_rfl) rfl rfl (by kernel_rfl) ?_;apply Exists.intro;refine ⟨?_,?_⟩
          ·intro F hF;have hFc:=hF.cell;have hFf:=hF.frozen;simp only [List.take_succ_cons,List.take_zero,List.eraseIdx_cons_succ,List.eraseIdx_cons_zero]
           repeat (go_big_quiet_step (first|(go_at_call 128;with_reducible exact hF.call (aR _))))
           refine wpQuiet_nil ?_;exact rfl
          intro w8 aD;simp only [List.drop_succ_cons,List.drop_zero];have aA:=a_N (a_c L.out.1 aD) (a_c L.out.2 aD);have X8:Hid (SlC w8 g8 I D D0 O stN):=X7.out.up aD;clear aD a0 a1 b0 b1 a9 b9 ac ax ad az ab ao V ak U ar z0 z1 z2 z3 z4 zl X7 L aR;obtain ⟨a0,a1,_,_⟩:=XA.out.up aA.out.2;obtain ⟨b0,b1,_,_⟩:=XB.out.up aA.out.2;have a9:=a_a a0;have b9:=a_a b0;obtain ⟨z0,z1,z2,z3,z4⟩:=X8.out;have zl:=a_a z0;go_wp2_with fail
          generalize aQ:World.alloc _ _=W9;have aB:Below w8.heap.size w8 W9:=by rw [<- aQ];exact a_b w8 _
          have aW:Nums .i64 W9 (.slice (some ⟨w8.heap.size,0,none⟩) 2 2) [(I:Int),(D:Int)]:=by rw [<- aQ];exact a_5 (k:=.i64) w8 [(I:Int),(D:Int)] 2 (0,0) rfl
          have ag:=a_N (a_c aA.out.1 aB) (a_c aA.out.2 aB);refine (HG.out g8 _ _ _ W9 ag.out.1 aW (X8.out.up aB) (XA.out.up ag.out.2).2.1 (XB.out.up ag.out.2).2.1).mono ?_;rintro e aY ⟨bs,rfl,⟨bq,bn,rfl,ai,aq⟩,av⟩;obtain ⟨au,an,ae,rfl,_⟩:=ai.nums.lst;obtain ⟨ap,ay,aa,rfl,_⟩:=aq.nums.lst;have aF:=a_N (a_c ag.out.1 av) (a_c ag.out.2 av);have xr:=XR.out.up aF.out.2;have hz:=a_a XR.out.1;have bu:=ag.out.2.size;have HF:Hid (TRes (set2 aY (w.heap.size+1+1) (.slice au an ae) (.slice ap ay aa)) w.heap.size (.agg #[.slice au an ae,.slice ap ay aa]) DD VV/\Below w.heap.size w (set2 aY (w.heap.size+1+1) (.slice au an ae) (.slice ap ay aa))):=⟨(TRes.set ai aq (by omega)).low (by have:=ag.out.1.size;omega),a_j aF.out.1 _ (by omega) _ _⟩
          have cf:=xr.set (.slice au an ae) (.slice ap ay aa);obtain ⟨r0,r1,r2,r3⟩:=xr;obtain ⟨y0,y1,_,_⟩:=cf;have r9:=a_a r0;clear ai aq av aW aB aQ a0 a1 b0 b1 a9 b9 z0 z1 z2 z3 z4 zl HG;go_wp2;exact bodyPost_ret (v:=.tuple #[.agg #[.slice au an ae,.slice ap ay aa],.int .i64 EE]) (by simp [results,Tryz.results100,go_sem,y0,y1]) rfl ⟨_,rfl,HF.out⟩
         ·obtain ⟨SX,ba⟩:∃ S,a_M D O stN=S:=⟨_,rfl⟩
          rw [ba] at hS;obtain ⟨M,e2,e3⟩:=e_h hA (fun h=>hS (by have:=h.2.2.2.2;simp at this;omega));rw [M] at H;cases H
        ·obtain ⟨M,e2,e3⟩:=e_h hA (fun h=>hw (by have:=h.2.2.2.1;simp at this;omega));rw [M] at H;cases H
       ·obtain ⟨M,e2,e3⟩:=e_h hA (fun h=>hm (by have:=h.2.2.1;simp at this;omega));rw [M] at H;cases H
      ·obtain ⟨M,e2,e3⟩:=e_h hA (fun h=>a5 (by rw [<- af.out.1];exact h.2.1));rw [M] at H;cases H
     ·obtain ⟨M,e2,e3⟩:=e_h hA (fun h=>hn (by rw [<- HD.out.1];exact h.1));rw [M] at H;cases H
    ·rw [decide_eq_false hl] at aE;obtain ⟨M,e2,e3⟩:=j_W (d:=d) (x:=x) (d':=d') (y:=y) (st:=st) (lg:=lg) (fun h=>hl h.2.2.2);rw [M] at H;cases H
   ·rw [decide_eq_false hs] at aC;obtain ⟨M,e2,e3⟩:=j_W (d:=d) (x:=x) (d':=d') (y:=y) (st:=st) (lg:=lg) (fun h=>hs h.2.2.1);rw [M] at H;cases H
  ·rw [decide_eq_false hq] at cB;obtain ⟨M,e2,e3⟩:=j_W (d:=d) (x:=x) (d':=d') (y:=y) (st:=st) (lg:=lg) (fun h=>hq h.2.1);rw [M] at H;cases H
 ·rw [decide_eq_false hp] at cA;obtain ⟨M,e2,e3⟩:=j_W (d:=d) (x:=x) (d':=d') (y:=y) (st:=st) (lg:=lg) (fun h=>hp h.1);rw [M] at H;cases H
end Go.Proofs.YtcpbhhlepdgdkaaGreatDoor.Wd
