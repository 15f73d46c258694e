/- The code's reckon: the document's table. -/
import Derived.Test.YtcpbhhlepdgdkaaGreatDoorT20
import Derived.Test.YtcpbhhlepdgdkaaGreatDoorT21
set_option linter.unusedVariables false
set_option linter.unusedSimpArgs false
set_option maxHeartbeats 16000000
set_option maxRecDepth 16000
namespace Go.Proofs.YtcpbhhlepdgdkaaGreatDoor.Wd
open Go.RowKit Fx
/-- What reckon tells at one Op. -/
def CkP (op:Int):Prop:=∀ (p p2 p3 p4:Option Addr) (n c n2 c2 n3 c3 n4 c4:Nat) (dd yy d' y':List Int) (K:Int) (hK:InR K) (hg:c_u dd yy) (hd':RI d') (hy':RI y') (hc2:n2<=c2) (w:World) (hT:Hid (Tz w)) (h1:Nums .i64 w (.slice p n c) dd) (h2:Nums .i64 w (.slice p2 n2 c2) yy) (h3:Nums .i64 w (.slice p3 n3 c3) d') (h4:Nums .i64 w (.slice p4 n4 c4) y'),
  Calls Tryz.prog 90 #[.int .i64 op,.agg #[.slice p n c,.slice p2 n2 c2],.agg #[.slice p3 n3 c3,.slice p4 n4 c4],.int .i64 K] w fun e w'=>∃ v',e = .returned (.tuple #[v',.int .i64 (rkE op dd yy d' y' K)])/\TRes w' w.heap.size v' (rkD op dd yy d' y' K) (rkV op dd yy d' y' K)/\Below w.heap.size w w'
theorem e_N (v:Int) (w:World):
  Calls Tryz.prog 112 #[.int .i64 v,.int .i64 0] w fun e E=>∃ u,e = .returned (.tuple #[u,.int .i64 0])/\TRes E w.heap.size u [] [v]/\Below w.heap.size w E:=by
 have M:∀ W:World,Calls Tryz.prog 57 #[.slice none 0 0,.int .i64 v] W fun e E=>∃ U,e = .returned (.tuple #[U,.int .i64 (l_9 [])])/\TRes E W.heap.size U (d_Y []) (m_a [] v)/\Below W.heap.size W E:=fun W=>c_Q _ [] (fun y hy=>by simp at hy) v W (.inl ⟨rfl,rfl⟩);have g0:goodN (ntl []):=(p_r 0).1;have O:l_9 []=0:=if_pos g0;have R:d_Y [] = []:=if_pos g0;have V:m_a [] v = [v]:=(if_pos g0).trans (by simp [ntl,a_e]);rw [O,R,V] at M;clear O R V g0;go_enter Tryz.func112,Tryz.ntmps112;go_wp2_with fail
 generalize D:World.alloc _ _=W0;have J:=b_1 (w:=w) D (by go_grown);have XR:Hid (Cel W0 w.heap.size (.slice none 0 0) (.slice none 0 0)):=a_F D (by simp [go_sem]);clear D;refine (M W0).mono ?_;rintro e w1 ⟨v1,rfl,⟨s1,t1,rfl,I,H⟩,L⟩;obtain ⟨pa,na,ca,rfl,_⟩:=I.nums.lst;obtain ⟨pb,nb,cb,rfl,_⟩:=H.nums.lst;obtain ⟨HF,r0,r1,r2,r3,y0,y1⟩:=h_v XR J L I H (by omega);clear M I H;go_wp2;exact bodyPost_ret (v:=.tuple #[.agg #[.slice pa na ca,.slice pb nb cb],.int .i64 0]) (by simp [results,Tryz.results112,go_sem,y0,y1]) rfl ⟨_,rfl,HF.out⟩
theorem ck2:CkP 2:=by
 intro p p2 p3 p4 n c n2 c2 n3 c3 n4 c4 dd M d' R K hK hg L I U w hT h1 h2 h3 h4;have hd:=hg.2.1;have hx:=hg.2.2;obtain ⟨E,eE⟩:∃ E,rkE 2 dd M d' R K=E:=⟨_,rfl⟩
 obtain ⟨D,eD⟩:∃ D,rkD 2 dd M d' R K=D:=⟨_,rfl⟩
 obtain ⟨V,eV⟩:∃ V,rkV 2 dd M d' R K=V:=⟨_,rfl⟩
 rw [eE,eD,eV]
 have cc:∀ W,Below w.heap.size w W->Calls Tryz.prog 79 #[.agg #[.slice p n c,.slice p2 n2 c2],.agg #[.slice p3 n3 c3,.slice p4 n4 c4]] W fun e w'=>∃ v',e = .returned (.tuple #[v',.int .i64 E])/\TRes w' W.heap.size v' D V/\Below W.heap.size W w':=fun W O=>by
  rw [<- eE,<- eD,<- eV];exact g_V p p2 p3 p4 n c n2 c2 n3 c3 n4 c4 dd M d' R hd hx L I W (h1.up O) (h2.up O) (h3.up O) (h4.up O)
 clear eE eD eV h1 h2 h3 h4 hd hx L I hg hK U hT;go_enter Tryz.func90,Tryz.ntmps90;go_wp2_with fail
 generalize J:World.alloc _ _=W0;obtain ⟨H,XA,XB,XR⟩:=m_C J;clear J;refine (cc W0 H.out).mono ?_;rintro e w1 ⟨v1,rfl,⟨s1,t1,rfl,hs,ht⟩,aa⟩;obtain ⟨pa,na,ca,rfl,_⟩:=hs.nums.lst;obtain ⟨pb,nb,cb,rfl,_⟩:=ht.nums.lst;clear cc;obtain ⟨HF,r0,r1,r2,r3,z0,z1⟩:=h_v XR H aa hs ht (by omega);clear hs ht;go_wp2;exact bodyPost_ret (v:=.tuple #[.agg #[.slice pa na ca,.slice pb nb cb],.int .i64 E]) (by simp [results,Tryz.results90,go_sem,z0,z1]) rfl ⟨_,rfl,HF.out⟩
theorem ck3:CkP 3:=by
 intro p p2 p3 p4 n c n2 c2 n3 c3 n4 c4 dd M d' R K hK hg L I U w hT h1 h2 h3 h4;have hd:=hg.2.1;have hx:=hg.2.2;obtain ⟨E,eE⟩:∃ E,rkE 3 dd M d' R K=E:=⟨_,rfl⟩
 obtain ⟨D,eD⟩:∃ D,rkD 3 dd M d' R K=D:=⟨_,rfl⟩
 obtain ⟨V,eV⟩:∃ V,rkV 3 dd M d' R K=V:=⟨_,rfl⟩
 rw [eE,eD,eV]
 have cc:∀ W,Below w.heap.size w W->Calls Tryz.prog 108 #[.agg #[.slice p n c,.slice p2 n2 c2],.agg #[.slice p3 n3 c3,.slice p4 n4 c4]] W fun e w'=>∃ v',e = .returned (.tuple #[v',.int .i64 E])/\TRes w' W.heap.size v' D V/\Below W.heap.size W w':=fun W O=>by
  rw [<- eE,<- eD,<- eV];exact n_6 p p2 p3 p4 n c n2 c2 n3 c3 n4 c4 dd M d' R hd hx L I W (h1.up O) (h2.up O) (h3.up O) (h4.up O)
 clear eE eD eV h1 h2 h3 h4 hd hx L I hg hK U hT;go_enter Tryz.func90,Tryz.ntmps90;go_wp2_with fail
 generalize J:World.alloc _ _=W0;obtain ⟨H,XA,XB,XR⟩:=m_C J;clear J;refine (cc W0 H.out).mono ?_;rintro e w1 ⟨v1,rfl,⟨s1,t1,rfl,hs,ht⟩,aa⟩;obtain ⟨pa,na,ca,rfl,_⟩:=hs.nums.lst;obtain ⟨pb,nb,cb,rfl,_⟩:=ht.nums.lst;clear cc;obtain ⟨HF,r0,r1,r2,r3,z0,z1⟩:=h_v XR H aa hs ht (by omega);clear hs ht;go_wp2;exact bodyPost_ret (v:=.tuple #[.agg #[.slice pa na ca,.slice pb nb cb],.int .i64 E]) (by simp [results,Tryz.results90,go_sem,z0,z1]) rfl ⟨_,rfl,HF.out⟩
theorem ck4:CkP 4:=by
 intro p p2 p3 p4 n c n2 c2 n3 c3 n4 c4 dd M d' R K hK hg L I U w hT h1 h2 h3 h4;have hd:=hg.2.1;have hx:=hg.2.2;obtain ⟨E,eE⟩:∃ E,rkE 4 dd M d' R K=E:=⟨_,rfl⟩
 obtain ⟨D,eD⟩:∃ D,rkD 4 dd M d' R K=D:=⟨_,rfl⟩
 obtain ⟨V,eV⟩:∃ V,rkV 4 dd M d' R K=V:=⟨_,rfl⟩
 rw [eE,eD,eV]
 have cc:∀ W,Below w.heap.size w W->Calls Tryz.prog 109 #[.agg #[.slice p n c,.slice p2 n2 c2],.agg #[.slice p3 n3 c3,.slice p4 n4 c4]] W fun e w'=>∃ v',e = .returned (.tuple #[v',.int .i64 E])/\TRes w' W.heap.size v' D V/\Below W.heap.size W w':=fun W O=>by
  rw [<- eE,<- eD,<- eV];exact j_I p p2 p3 p4 n c n2 c2 n3 c3 n4 c4 dd M d' R hd hx L I W (h1.up O) (h2.up O) (h3.up O) (h4.up O)
 clear eE eD eV h1 h2 h3 h4 hd hx L I hg hK U hT;go_enter Tryz.func90,Tryz.ntmps90;go_wp2_with fail
 generalize J:World.alloc _ _=W0;obtain ⟨H,XA,XB,XR⟩:=m_C J;clear J;refine (cc W0 H.out).mono ?_;rintro e w1 ⟨v1,rfl,⟨s1,t1,rfl,hs,ht⟩,aa⟩;obtain ⟨pa,na,ca,rfl,_⟩:=hs.nums.lst;obtain ⟨pb,nb,cb,rfl,_⟩:=ht.nums.lst;clear cc;obtain ⟨HF,r0,r1,r2,r3,z0,z1⟩:=h_v XR H aa hs ht (by omega);clear hs ht;go_wp2;exact bodyPost_ret (v:=.tuple #[.agg #[.slice pa na ca,.slice pb nb cb],.int .i64 E]) (by simp [results,Tryz.results90,go_sem,z0,z1]) rfl ⟨_,rfl,HF.out⟩
theorem ck8:CkP 8:=by
 intro p p2 p3 p4 n c n2 c2 n3 c3 n4 c4 dd J d' y' K hK L U R M w hT h1 h2 h3 h4;have hd:=L.2.1;have hx:=L.2.2;obtain ⟨E,eE⟩:∃ E,rkE 8 dd J d' y' K=E:=⟨_,rfl⟩
 obtain ⟨D,eD⟩:∃ D,rkD 8 dd J d' y' K=D:=⟨_,rfl⟩
 obtain ⟨V,eV⟩:∃ V,rkV 8 dd J d' y' K=V:=⟨_,rfl⟩
 rw [eE,eD,eV]
 have cc:∀ W,Below w.heap.size w W->Calls Tryz.prog 111 #[.agg #[.slice p n c,.slice p2 n2 c2],.int .i64 K] W fun e w'=>∃ v',e = .returned (.tuple #[v',.int .i64 E])/\TRes w' W.heap.size v' D V/\Below W.heap.size W w':=fun W hW=>by
  rw [<- eE,<- eD,<- eV];exact q_5 p p2 n c n2 c2 dd J K hK hd hx (by obtain ⟨_,_,_,e4,HD⟩:=h1.lst;cases e4;have h5:=L.1.1.1;rw [a_Q,HD.out.1] at h5;omega) W (h1.up hW) (h2.up hW)
 clear eE eD eV h1 h2 h3 h4 hd hx U R L hK M hT;go_enter Tryz.func90,Tryz.ntmps90;go_wp2_with fail
 generalize I:World.alloc _ _=W0;obtain ⟨H,XA,XB,XR⟩:=m_C I;clear I;refine (cc W0 H.out).mono ?_;rintro e w1 ⟨v1,rfl,⟨s1,t1,rfl,O,ht⟩,aa⟩;obtain ⟨pa,na,ca,rfl,_⟩:=O.nums.lst;obtain ⟨pb,nb,cb,rfl,_⟩:=ht.nums.lst;clear cc;obtain ⟨HF,r0,r1,r2,r3,z0,z1⟩:=h_v XR H aa O ht (by omega);clear O ht;go_wp2;exact bodyPost_ret (v:=.tuple #[.agg #[.slice pa na ca,.slice pb nb cb],.int .i64 E]) (by simp [results,Tryz.results90,go_sem,z0,z1]) rfl ⟨_,rfl,HF.out⟩
theorem ck9:CkP 9:=by
 intro p p2 p3 p4 n c n2 c2 n3 c3 n4 c4 dd E d' y' K hK H aa V R w hT h1 h2 h3 h4;have hd:=H.2.1;have hx:=H.2.2;obtain ⟨z,U⟩:∃ z,q_o dd E=z:=⟨_,rfl⟩
 have eE:rkE 9 dd E d' y' K=0:=if_pos H.1;have eD:rkD 9 dd E d' y' K = []:=rfl;have eV:rkV 9 dd E d' y' K = [z]:=by rw [<- U];exact if_pos H.1
 rw [eE,eD,eV]
 have cc:∀ W,Below w.heap.size w W->Calls Tryz.prog 113 #[.agg #[.slice p n c,.slice p2 n2 c2]] W fun e w'=>e = .returned (.tuple #[.int .i64 z,.int .i64 0])/\Below W.heap.size W w':=fun W hW=>by
  have:=q_p p p2 n c n2 c2 dd E hd hx W (h1.up hW) (h2.up hW);rw [U,show l_e dd E=0 from if_pos H.1] at this;exact this
 clear eE eD eV U h1 h2 h3 h4 hd hx aa V H hK R hT;go_enter Tryz.func90,Tryz.ntmps90;go_wp2_with fail
 generalize L:World.alloc _ _=W0;obtain ⟨J,XA,XB,XR⟩:=m_C L;clear L;refine (cc W0 J.out).mono ?_;rintro e w1 ⟨rfl,D⟩;clear cc;go_wp2_with fail
 refine (e_N z w1).mono ?_;rintro e w2 ⟨v2,rfl,⟨s1,t1,rfl,I,O⟩,M⟩;obtain ⟨pa,na,ca,rfl,_⟩:=I.nums.lst;obtain ⟨pb,nb,cb,rfl,_⟩:=O.nums.lst;replace I:=I.low D.size;replace O:=O.low D.size;have ab:Below W0.heap.size W0 w2:=a_c D M;clear D M;obtain ⟨HF,r0,r1,r2,r3,z0,z1⟩:=h_v XR J ab I O (by omega);clear I O;go_wp2;exact bodyPost_ret (v:=.tuple #[.agg #[.slice pa na ca,.slice pb nb cb],.int .i64 0]) (by simp [results,Tryz.results90,go_sem,z0,z1]) rfl ⟨_,rfl,HF.out⟩
theorem t_5:CkP 10:=by
 intro p p2 p3 p4 n c n2 c2 n3 c3 n4 c4 dd E d' y' K hK H aa V R w hT h1 h2 h3 h4;have hd:=H.2.1;have hx:=H.2.2;obtain ⟨z,U⟩:∃ z,h_Y dd E=z:=⟨_,rfl⟩
 have eE:rkE 10 dd E d' y' K=0:=if_pos H.1;have eD:rkD 10 dd E d' y' K = []:=rfl;have eV:rkV 10 dd E d' y' K = [z]:=by rw [<- U];exact if_pos H.1
 rw [eE,eD,eV]
 have cc:∀ W,Below w.heap.size w W->Calls Tryz.prog 114 #[.agg #[.slice p n c,.slice p2 n2 c2]] W fun e w'=>e = .returned (.tuple #[.int .i64 z,.int .i64 0])/\Below W.heap.size W w':=fun W hW=>by
  have:=j_S p p2 n c n2 c2 dd E hd hx W (h1.up hW) (h2.up hW);rw [U,show l_e dd E=0 from if_pos H.1] at this;exact this
 clear eE eD eV U h1 h2 h3 h4 hd hx aa V H hK R hT;go_enter Tryz.func90,Tryz.ntmps90;go_wp2_with fail
 generalize L:World.alloc _ _=W0;obtain ⟨J,XA,XB,XR⟩:=m_C L;clear L;refine (cc W0 J.out).mono ?_;rintro e w1 ⟨rfl,D⟩;clear cc;go_wp2_with fail
 refine (e_N z w1).mono ?_;rintro e w2 ⟨v2,rfl,⟨s1,t1,rfl,I,O⟩,M⟩;obtain ⟨pa,na,ca,rfl,_⟩:=I.nums.lst;obtain ⟨pb,nb,cb,rfl,_⟩:=O.nums.lst;replace I:=I.low D.size;replace O:=O.low D.size;have ab:Below W0.heap.size W0 w2:=a_c D M;clear D M;obtain ⟨HF,r0,r1,r2,r3,z0,z1⟩:=h_v XR J ab I O (by omega);clear I O;go_wp2;exact bodyPost_ret (v:=.tuple #[.agg #[.slice pa na ca,.slice pb nb cb],.int .i64 0]) (by simp [results,Tryz.results90,go_sem,z0,z1]) rfl ⟨_,rfl,HF.out⟩
theorem t_P:CkP 11:=by
 intro p p2 p3 p4 n c n2 c2 n3 c3 n4 c4 dd J d' y' K hK O U R L w hT h1 h2 h3 h4;have hd:=O.2.1;have hx:=O.2.2;obtain ⟨E,eE⟩:∃ E,rkE 11 dd J d' y' K=E:=⟨_,rfl⟩
 obtain ⟨D,eD⟩:∃ D,rkD 11 dd J d' y' K=D:=⟨_,rfl⟩
 obtain ⟨V,eV⟩:∃ V,rkV 11 dd J d' y' K=V:=⟨_,rfl⟩
 rw [eE,eD,eV]
 have cc:∀ W,Below w.heap.size w W->Calls Tryz.prog 115 #[.int .i64 K,.agg #[.slice p n c,.slice p2 n2 c2]] W fun e w'=>∃ v',e = .returned (.tuple #[v',.int .i64 E])/\TRes w' W.heap.size v' D V/\Below W.heap.size W w':=fun W hW=>by
  rw [<- eE,<- eD,<- eV];exact o_x K p p2 n c n2 c2 dd J hd hx W (h1.up hW) (h2.up hW)
 clear eE eD eV h1 h2 h3 h4 hd hx U R O hK L hT;go_enter Tryz.func90,Tryz.ntmps90;go_wp2_with fail
 generalize I:World.alloc _ _=W0;obtain ⟨H,XA,XB,XR⟩:=m_C I;clear I;refine (cc W0 H.out).mono ?_;rintro e w1 ⟨v1,rfl,⟨s1,t1,rfl,M,ht⟩,aa⟩;obtain ⟨pa,na,ca,rfl,_⟩:=M.nums.lst;obtain ⟨pb,nb,cb,rfl,_⟩:=ht.nums.lst;clear cc;obtain ⟨HF,r0,r1,r2,r3,z0,z1⟩:=h_v XR H aa M ht (by omega);clear M ht;go_wp2;exact bodyPost_ret (v:=.tuple #[.agg #[.slice pa na ca,.slice pb nb cb],.int .i64 E]) (by simp [results,Tryz.results90,go_sem,z0,z1]) rfl ⟨_,rfl,HF.out⟩
theorem t_6:CkP 12:=by
 intro p p2 p3 p4 n c n2 c2 n3 c3 n4 c4 dd O d' R K hK hg L I U w hT h1 h2 h3 h4;have hd:=hg.2.1;have hx:=hg.2.2;obtain ⟨E,eE⟩:∃ E,rkE 12 dd O d' R K=E:=⟨_,rfl⟩
 obtain ⟨D,eD⟩:∃ D,rkD 12 dd O d' R K=D:=⟨_,rfl⟩
 obtain ⟨V,eV⟩:∃ V,rkV 12 dd O d' R K=V:=⟨_,rfl⟩
 rw [eE,eD,eV]
 have cc:∀ W,Below w.heap.size w W->Calls Tryz.prog 116 #[.agg #[.slice p n c,.slice p2 n2 c2],.agg #[.slice p3 n3 c3,.slice p4 n4 c4],.int .i64 K] W fun e w'=>∃ v',e = .returned (.tuple #[v',.int .i64 E])/\TRes w' W.heap.size v' D V/\Below W.heap.size W w':=fun W M=>by
  rw [<- eE,<- eD,<- eV];exact o_O p p2 p3 p4 n c n2 c2 n3 c3 n4 c4 dd O d' R K hd hx L I W (Hid.up_tz hT M) (h1.up M) (h2.up M) (h3.up M) (h4.up M)
 clear eE eD eV h1 h2 h3 h4 hd hx L I hg hK U hT;go_enter Tryz.func90,Tryz.ntmps90;go_wp2_with fail
 generalize J:World.alloc _ _=W0;obtain ⟨H,XA,XB,XR⟩:=m_C J;clear J;refine (cc W0 H.out).mono ?_;rintro e w1 ⟨v1,rfl,⟨s1,t1,rfl,hs,ht⟩,aa⟩;obtain ⟨pa,na,ca,rfl,_⟩:=hs.nums.lst;obtain ⟨pb,nb,cb,rfl,_⟩:=ht.nums.lst;clear cc;obtain ⟨HF,r0,r1,r2,r3,z0,z1⟩:=h_v XR H aa hs ht (by omega);clear hs ht;go_wp2;exact bodyPost_ret (v:=.tuple #[.agg #[.slice pa na ca,.slice pb nb cb],.int .i64 E]) (by simp [results,Tryz.results90,go_sem,z0,z1]) rfl ⟨_,rfl,HF.out⟩
theorem t_7:CkP 13:=by
 intro p p2 p3 p4 n c n2 c2 n3 c3 n4 c4 dd yy d' y' K hK hg af ae ac w hT h1 h2 h3 h4;have hd:=hg.2.1;have hx:=hg.2.2;obtain ⟨E,eE⟩:∃ E,rkE 13 dd yy d' y' K=E:=⟨_,rfl⟩
 obtain ⟨D,eD⟩:∃ D,rkD 13 dd yy d' y' K=D:=⟨_,rfl⟩
 obtain ⟨V,eV⟩:∃ V,rkV 13 dd yy d' y' K=V:=⟨_,rfl⟩
 rw [eE,eD,eV];obtain ⟨P,eP⟩:∃ P,plP dd yy K=P:=⟨_,rfl⟩
 have cc:∀ W,Below w.heap.size w W->Calls Tryz.prog 117 #[.agg #[.slice p n c,.slice p2 n2 c2],.int .i64 K] W fun e w'=>∃ v' u',e = .returned (.tuple #[v',u',.int .i64 E])/\TRes w' W.heap.size v' D V/\OwnK .i64 3 w' W.heap.size u' P/\Below W.heap.size W w':=fun W hW=>by
  rw [<- eE,<- eD,<- eV,<- eP];exact j_0 p p2 n c n2 c2 dd yy K hd hx ac W (h1.up hW) (h2.up hW)
 clear eE eD eV eP h1 h2 h3 h4 hd hx af ae hg hK ac hT;go_enter Tryz.func90,Tryz.ntmps90;go_wp2_with fail
 generalize ad:World.alloc _ _=W0;obtain ⟨R,XA,XB,XR⟩:=m_C ad;clear ad;refine (cc W0 R.out).mono ?_;rintro e w1 ⟨v1,u1,rfl,⟨s1,t1,rfl,U,aa⟩,hu,ab⟩;obtain ⟨M,L,J,rfl,_⟩:=U.nums.lst;obtain ⟨I,O,H,rfl,_⟩:=aa.nums.lst;obtain ⟨pu,nu,cu,rfl,_⟩:=hu.nums.lst;clear cc hu;have xr:=XR.out.up ab;have cf:=xr.set (.slice M L J) (.slice I O H)
 have HF:Hid (TRes ((set2 w1 (w.heap.size+2) (.slice M L J) (.slice I O H)).alloc (.cells #[.slice M L J,.slice I O H] 77)) w.heap.size (.agg #[.slice M L J,.slice I O H]) D V/\Below w.heap.size w ((set2 w1 (w.heap.size+2) (.slice M L J) (.slice I O H)).alloc (.cells #[.slice M L J,.slice I O H] 77))):=
  ⟨((TRes.set U aa (a_a XR.out.1)).low R.out.size).up (a_b _ _),a_c (a_j (a_c R.out ab) _ (by omega) _ _) (a_b _ _)⟩
 obtain ⟨r0,r1,r2,r3⟩:=xr;have kq:=a_a r0;have z0:=a_d cf.1 (a_b _ (.cells #[.slice M L J,.slice I O H] 77));have z1:=a_d cf.2.1 (a_b _ (.cells #[.slice M L J,.slice I O H] 77));clear U aa ab cf;go_wp2;exact bodyPost_ret (v:=.tuple #[.agg #[.slice M L J,.slice I O H],.int .i64 E]) (by simp [results,Tryz.results90,go_sem,z0,z1]) rfl ⟨_,rfl,HF.out⟩
theorem t_8:CkP 14:=by
 intro p p2 p3 p4 n c J c2 n3 c3 n4 c4 dd I d' y' K hK hg ad ac ab w hT h1 h2 h3 h4;obtain ⟨_,_,_,e4,HX⟩:=h2.lst;cases e4;have hn:J<=4096:=by rw [<- HX.out.1];exact hg.1.len.2
 have U:RI [(J:Int)]:=fun q hq=>by simp at hq;omega
 have aa:I.length=J:=HX.out.1;have hd:=hg.2.1;have hx:=hg.2.2;obtain ⟨E,eE⟩:∃ E,rkE 14 dd I d' y' K=E:=⟨_,rfl⟩
 obtain ⟨D,eD⟩:∃ D,rkD 14 dd I d' y' K=D:=⟨_,rfl⟩
 obtain ⟨V,eV⟩:∃ V,rkV 14 dd I d' y' K=V:=⟨_,rfl⟩
 rw [eE,eD,eV]
 have cc:Hid (∀ q W,Below w.heap.size w W->Nums .i64 W (.slice q 1 1) [(J:Int)]->Calls Tryz.prog 102 #[.agg #[.slice p n c,.slice p2 J c2],.slice q 1 1] W fun e O=>∃ R,e = .returned (.tuple #[R,.int .i64 E])/\TRes O W.heap.size R D V/\Below W.heap.size W O):=fun q W hW hl=>by
  rw [<- eE,<- eD,<- eV];show Calls _ _ _ _ fun e O=>∃ R,e = .returned (.tuple #[R,.int .i64 (j_J dd I [(I.length:Int)])])/\TRes O W.heap.size R (j_K dd I [(I.length:Int)]) (l_d dd I [(I.length:Int)])/\Below W.heap.size W O;rw [aa];exact d_c p p2 q n c J c2 1 1 dd I [(J:Int)] hd U W (h1.up hW) (h2.up hW) hl
 clear eE eD eV h1 h2 h3 h4 hd hx ad ac hg hK ab hn U aa HX hT;go_enter Tryz.func90,Tryz.ntmps90;go_wp2_with fail
 generalize H:World.alloc _ _=W0;have B0:Below w.heap.size w W0:=by rw [<- H];go_grown
 have XA:Hid (Cel W0 w.heap.size (.slice p n c) (.slice p2 J c2)):=a_F H (by simp [go_sem]);have XB:Hid (Cel W0 (w.heap.size+1) (.slice p3 n3 c3) (.slice p4 n4 c4)):=a_F H (by simp [go_sem]);have XR:Hid (Cel W0 (w.heap.size+2) (.slice none 0 0) (.slice none 0 0)):=a_F H (by simp [go_sem]);have M:Hid (Below w.heap.size w W0):=B0
 have l5:Nums .i64 W0 (.slice (some ⟨w.heap.size+3,0,none⟩) 1 1) [(J:Int)]:=by
  refine .inr ⟨_,1,rfl,fun j u L=>?_⟩
  match j,L with
  | 0,L=>
   simp [a_4] at L;subst L;rw [a_t,<- H];simp [go_sem]
  | j+1,L=>simp [a_4] at L
 clear H B0;refine (cc.out _ W0 M.out l5).mono ?_;rintro e w1 ⟨v1,rfl,⟨s1,t1,rfl,hs,ht⟩,ae⟩;obtain ⟨pa,na,ca,rfl,_⟩:=hs.nums.lst;obtain ⟨pb,nb,cb,rfl,_⟩:=ht.nums.lst;clear cc l5;obtain ⟨HF,r0,r1,r2,r3,z0,z1⟩:=h_v XR M ae hs ht (by omega);clear hs ht;go_wp2;exact bodyPost_ret (v:=.tuple #[.agg #[.slice pa na ca,.slice pb nb cb],.int .i64 E]) (by simp [results,Tryz.results90,go_sem,z0,z1]) rfl ⟨_,rfl,HF.out⟩
def rqE (op:Int) (D X D' X':List Int) (k:Int):Int:=if 2<=op/\op<=14 then rkE op D X D' X' k else 1
def rqD (op:Int) (D X D' X':List Int) (k:Int):List Int:=if 2<=op/\op<=14 then rkD op D X D' X' k else []
def rqV (op:Int) (D X D' X':List Int) (k:Int):List Int:=if 2<=op/\op<=14 then rkV op D X D' X' k else []
/-- What reckon does at an Op, the table's, and any. -/
def RkC (op:Int):Prop:=∀ (p p2 p3 p4:Option Addr) (n c n2 c2 n3 c3 n4 c4:Nat) (dd yy d' y':List Int) (K:Int) (hK:InR K) (hg:c_u dd yy) (hd':RI d') (hy':RI y') (hc2:n2<=c2) (w:World) (hT:Hid (Tz w)) (h1:Nums .i64 w (.slice p n c) dd) (h2:Nums .i64 w (.slice p2 n2 c2) yy) (h3:Nums .i64 w (.slice p3 n3 c3) d') (h4:Nums .i64 w (.slice p4 n4 c4) y'),
  Calls Tryz.prog 90 #[.int .i64 op,.agg #[.slice p n c,.slice p2 n2 c2],.agg #[.slice p3 n3 c3,.slice p4 n4 c4],.int .i64 K] w fun e w'=>∃ v',e = .returned (.tuple #[v',.int .i64 (rqE op dd yy d' y' K)])/\TRes w' w.heap.size v' (rqD op dd yy d' y' K) (rqV op dd yy d' y' K)/\Below w.heap.size w w'
theorem RkC.of {op:Int} (h:2<=op/\op<=14) (hc:CkP op):RkC op:=by
 intro p p2 I p4 n c n2 c2 R c3 V O dd U d' y' K hK hg D H E w L h1 M h3 J;have:=hc p p2 I p4 n c n2 c2 R c3 V O dd U d' y' K hK hg D H E w L h1 M h3 J;unfold rqE rqD rqV;rw [if_pos h,if_pos h,if_pos h];exact this
theorem s_n (B tb:Nat) (ns:List Nd) (op:Int) (I:Nat) (b k:Int) (aK:Nd) (au:ns[I]?=some aK) (aA aD:List Int) (BV KV:Int) (h2:(d_D op/\BV=b/\∃ (bi:Nat) (aH:Nd),b=(bi:Int)/\ns[bi]?=some aH/\aA=aH.D/\aD=aH.X)∨(¬ d_D op/\BV = -1/\aA = []/\aD = [])) (h3:(byP op/\KV=k)∨(¬ byP op/\KV=0)) (ao:ns.length < 512) (E:Int) (D V:List Int) (RR:Int) (NS:List Nd) (HG:Hid ((E=0->RR=(ns.length:Int)/\NS=ns++[⟨op,(I:Int),BV,KV,D,V⟩])/\(E≠0->RR=0/\NS=ns))) (w:World) (hT:TapC w B tb ns)
  (HR:Hid (∀ (W:World) (pA qA U O:Option Addr) (nA cA mA eA M L R eB:Nat),Below w.heap.size w W->Nums .i64 W (.slice pA nA cA) aK.D->Nums .i64 W (.slice qA mA eA) aK.X->mA<=eA->Nums .i64 W (.slice U M L) aA->Nums .i64 W (.slice O R eB) aD->Calls Tryz.prog 90 #[.int .i64 op,.agg #[.slice pA nA cA,.slice qA mA eA],.agg #[.slice U M L,.slice O R eB],.int .i64 k] W fun e w'=>∃ v',e = .returned (.tuple #[v',.int .i64 E])/\TRes w' W.heap.size v' D V/\Below W.heap.size W w')):
  Calls Tryz.prog 72 #[.pointer (some ⟨tb,0,none⟩),.int .i64 op,.int .i64 (I:Int),.int .i64 b,.int .i64 k] w fun e w'=>e = .returned (.tuple #[.int .i64 RR,.int .i64 E])/\TapC w' B tb NS/\Below B w w'/\Only SC w w'/\Spar2 tb w w':=by
 have aj:Hid (TapC w B tb ns):=hT;obtain ⟨pL,cL,bk,hv,ho,aQ,a5⟩:=Tap.head hT;obtain ⟨N,eN⟩:∃ N,ns.length=N:=⟨_,rfl⟩
 rw [eN] at hv ho a5;have aq:=(b_G hv).1;have hz:=a_i hv;have aS:Hid (B<=w.heap.size):=Nat.le_trans aj.out.1 (Nat.le_of_lt hz);have bd:I < N:=by rw [<- eN];exact (List.getElem?_eq_some_iff.1 au).1
 obtain ⟨q,bf,sA_,bo,eq,hx,_,_,_,_,ak,aF,aI,aG⟩:=d_y ho aQ eN I bd;rw [au] at hx;cases hx;obtain ⟨pA,nA,cA,rfl⟩:=aI.form_;obtain ⟨qA,mA,eA,rfl⟩:=aG.form_;have hf:decide (512<=ns.length)=false:=decide_eq_false (by omega);have ha:decide (0<=(I:Int)/\(I:Int) < (ns.length:Int))=true:=decide_eq_true (by omega);have a4:(I:Int) < (N:Int):=by omega
 have HL:Hid (ns.length < 512):=ao;haveI:Nonempty World:=⟨w⟩
 have aN:Hid (∀ (W:World) (U O:Option Addr) (M L R eB:Nat),Below w.heap.size w W->Nums .i64 W (.slice U M L) aA->Nums .i64 W (.slice O R eB) aD->Calls Tryz.prog 90 #[.int .i64 op,.agg #[.slice pA nA cA,.slice qA mA eA],.agg #[.slice U M L,.slice O R eB],.int .i64 k] W fun e w'=>∃ v',e = .returned (.tuple #[v',.int .i64 E])/\TRes w' W.heap.size v' D V/\Below W.heap.size W w'):=fun W U O M L R eB hW g1 g2=>HR.out W _ _ _ _ _ _ _ _ _ _ _ _ hW (aI.nums.up hW) (aG.nums.up hW) aG.cap g1 g2;clear aI aG au HR ao;have aW:Hid ((byP op/\KV=k)∨(¬ byP op/\KV=0)):=h3;clear h3;rcases h2 with ⟨h2,eV,bi,aH,eb,ap,ed,ex⟩|⟨h2,eV,ed,ex⟩
 case' inl=>
  subst eV;have ar:bi < N:=by rw [<- eN];exact (List.getElem?_eq_some_iff.1 ap).1
  obtain ⟨q',be,sB_,bm,a2,hx,_,_,_,_,ag,ah,aT,aR⟩:=d_y ho aQ eN bi ar;rw [ap] at hx;cases hx;obtain ⟨U,M,L,rfl⟩:=aT.form_;obtain ⟨O,R,eB,rfl⟩:=aR.form_;rw [eq] at a2;cases a2;subst eq;have HC:Hid (∀ W,Below w.heap.size w W->Calls Tryz.prog 90 #[.int .i64 op,.agg #[.slice pA nA cA,.slice qA mA eA],.agg #[.slice U M L,.slice O R eB],.int .i64 k] W fun e w'=>∃ v',e = .returned (.tuple #[v',.int .i64 E])/\TRes w' W.heap.size v' D V/\Below W.heap.size W w'):=fun W hW=>aN.out W _ _ _ _ _ _ hW (by rw [ed];exact aT.nums.up hW) (by rw [ex];exact aR.nums.up hW);have hq:decide (d_D op)=true:=decide_eq_true h2;have hb:decide (0<=BV/\BV < (ns.length:Int))=true:=decide_eq_true (by omega);have aY:Hid (BV=(bi:Int)/\bi < N/\w.cell? ⟨q,bi*6+4,none⟩=some (.slice U M L)/\w.cell? ⟨q,bi*6+5,none⟩=some (.slice O R eB)):=⟨eb,ar,ag,ah⟩
  clear aT aR ap ag ah eb ar ed ex
 case' inr=>
  subst eq;obtain ⟨U,M,L,O,R,eB,eY⟩:∃ (U:Option Addr) (M L:Nat) (O:Option Addr) (R eB:Nat),(Value.slice none 0 0 = .slice U M L/\Value.slice none 0 0 = .slice O R eB):=⟨_,_,_,_,_,_,rfl,rfl⟩
  have HC:Hid (∀ W,Below w.heap.size w W->Calls Tryz.prog 90 #[.int .i64 op,.agg #[.slice pA nA cA,.slice qA mA eA],.agg #[.slice U M L,.slice O R eB],.int .i64 k] W fun e w'=>∃ v',e = .returned (.tuple #[v',.int .i64 E])/\TRes w' W.heap.size v' D V/\Below W.heap.size W w'):=fun W hW=>aN.out W _ _ _ _ _ _ hW (by rw [ed,<- eY.1];exact .inl ⟨rfl,rfl⟩) (by rw [ex,<- eY.2];exact .inl ⟨rfl,rfl⟩);have hq:decide (d_D op)=false:=decide_eq_false h2;have ax:Hid (BV = -1/\(Value.slice none 0 0 = .slice U M L/\Value.slice none 0 0 = .slice O R eB)):=⟨eV,eY⟩
  clear eY ed ex eV
 all_goals
  have bj:=a_a ak;have HW:Hid (w.cell? ⟨tb,0,none⟩=some (.slice (some ⟨q,0,none⟩) N cL)/\w.cell? ⟨q,I*6+4,none⟩=some (.slice pA nA cA)/\w.cell? ⟨q,I*6+5,none⟩=some (.slice qA mA eA)):=⟨aq,ak,aF⟩
  clear hT hv ho aQ a5 ak aF aq eN h2 aN;go_enter Tryz.func72,Tryz.ntmps72;go_wp2_with fail
  refine (c_i B tb ns false hf w aj.out).mono ?_;rintro e w9 ⟨rfl,H⟩;have ew:=H.symm;subst ew;clear H;go_wp2_with fail
  refine (c_T B tb ns (I:Int) true ha w aj.out).mono ?_;rintro e w9 ⟨rfl,H⟩;have ew:=H.symm;subst ew;clear H;go_wp2_with fail
  refine (f_Q op _ hq w).mono ?_;rintro e w9 ⟨rfl,H⟩;have ew:=H.symm;subst ew;clear H;clear hf ha
 all_goals try
  have bb:=hb;clear bb;go_wp2_with fail
  refine (c_T B tb ns BV true hb w aj.out).mono ?_;rintro e w9 ⟨rfl,H⟩;have ew:=H.symm;subst ew;clear H;clear hb
 all_goals
  go_wp2_with fail
  generalize az:World.alloc _ _=W0;have ab:Hid (Below w.heap.size w W0):=by show Below _ _ _;rw [<- az];go_grown
  have ad:W0.heap[w.heap.size]?=some (.cells #[.int .i64 op,.int .i64 (I:Int),.int .i64 (-1),.int .i64 0,.slice none 0 0,.slice none 0 0] 107 (0,0)):=by
   rw [<- az,heap_alloc_old _ _ (by rw [e_A];omega)];exact heap_alloc_new _ _
  have ae:W0.heap[w.heap.size+1]?=some (.cells #[.slice none 0 0,.slice none 0 0] 77 (0,0)):=by
   rw [<- az,<- e_A w (.cells #[.int .i64 op,.int .i64 (I:Int),.int .i64 (-1),.int .i64 0,.slice none 0 0,.slice none 0 0] 107)];exact heap_alloc_new _ _
  clear az;refine (f_Q op _ hq W0).mono ?_;rintro e w9 ⟨rfl,H⟩;have ew:=H.symm;subst ew;clear H hq;have n1:tb≠w.heap.size:=by omega
  have n2:tb≠w.heap.size+1:=by omega
  have n3:q≠w.heap.size:=by omega
  have n4:q≠w.heap.size+1:=by omega
 all_goals first
  |obtain ⟨eb,ar,ag,ah⟩:=aY.out
   subst eb;have b4:(bi:Int) < (N:Int):=by omega
   have an:=a_d HW.out.1 ab.out;replace ag:=a_d ag ab.out;replace ah:=a_d ah ab.out;have s0:=a_a an;have s3:=a_a ag;obtain ⟨⟨_,_,k2,_,_,_⟩,kf⟩:=g_s ad;obtain ⟨l0,l1,l2,l3⟩:=c_r ae;have s1:=a_i ad;have s2:=a_i ae;have a9:=kf 2;clear aY ar;go_wp2_with fail
   go_region;go_wp2_with fail
   generalize aE:World.drew _=W1
   have af:W1.heap[w.heap.size]?=some (.cells #[.int .i64 op,.int .i64 (I:Int),.int .i64 (bi:Int),.int .i64 0,.slice none 0 0,.slice none 0 0] 107 (0,0)):=by
    rw [<- aE];show (World.setCell _ _ _).heap[w.heap.size]?=_;rw [a_X _ _ _ _ _ (by omega),a_X _ _ _ _ _ (by omega),a_n ad];rfl
   have aC:W1.heap[w.heap.size+1]?=some (.cells #[.slice U M L,.slice O R eB] 77 (0,0)):=by
    have h0:(W0.setCell ⟨w.heap.size,2,none⟩ (.int .i64 (bi:Int))).heap[w.heap.size+1]?=some (.cells #[.slice none 0 0,.slice none 0 0] 77 (0,0)):=by
     rw [a_X _ _ _ _ _ (by omega)];exact ae
    rw [<- aE];show (World.setCell _ _ _).heap[w.heap.size+1]?=_;rw [a_n (a_n h0)];rfl
   have aB:Hid (Below w.heap.size w W1):=by
    show Below _ _ _;rw [<- aE];exact (((ab.out.setCell (p:=⟨w.heap.size,2,none⟩) (Nat.le_refl _) _).setCell (p:=⟨w.heap.size+1,0,none⟩) (Nat.le_succ _) _).setCell (p:=⟨w.heap.size+1,1,none⟩) (Nat.le_succ _) _).trans ⟨rfl,rfl,rfl,Nat.le_refl _,fun _ _=>rfl⟩
   obtain ⟨BV,ba⟩:∃ z,(bi:Int)=z:=⟨_,rfl⟩
   rw [ba] at af HG;clear aE k2 kf a9 l0 l1 l2 l3 s0 s1 s2 s3 an ag ah ad ae ab
  |go_wp2_with fail
   obtain ⟨W1,aL⟩:∃ W1:World,W1=W0:=⟨_,rfl⟩
   rw [<- aL];rw [<- aL] at ad ae ab;have af:W1.heap[w.heap.size]?=some (.cells #[.int .i64 op,.int .i64 (I:Int),.int .i64 BV,.int .i64 0,.slice none 0 0,.slice none 0 0] 107 (0,0)):=by rw [ax.out.1];exact ad
   have aC:W1.heap[w.heap.size+1]?=some (.cells #[.slice U M L,.slice O R eB] 77 (0,0)):=by
    rw [<- ax.out.2.1,<- ax.out.2.2];exact ae
   have aB:=ab;clear ad ae ab aL ax
 all_goals
  rcases aW.out with ⟨h3,eK⟩|⟨h3,eK⟩
  case' inl=>
   subst eK;refine (i_b op true (decide_eq_true h3) W1).mono ?_;rintro e w9 ⟨rfl,H⟩;have ew:=H.symm;subst ew;clear H h3;obtain ⟨⟨_,_,_,k3,_,_⟩,kf⟩:=g_s af;have s1:=a_i af;go_wp2_with fail
   refine a_P (fun W2 aa=>?_)
   have av:W2.heap[w.heap.size]?=some (.cells #[.int .i64 op,.int .i64 (I:Int),.int .i64 BV,.int .i64 KV,.slice none 0 0,.slice none 0 0] 107 (0,0)):=by
    rw [aa,a_n af];rfl
   have ay:W2.heap[w.heap.size+1]?=some (.cells #[.slice U M L,.slice O R eB] 77 (0,0)):=by
    rw [aa,a_X _ _ _ _ _ (by omega)];exact aC
   have J:Hid (Below w.heap.size w W2):=by
    show Below _ _ _;rw [aa];exact aB.out.setCell (p:=⟨w.heap.size,3,none⟩) (Nat.le_refl _) _
   clear k3 kf s1
  case' inr=>
   refine (i_b op false (decide_eq_false h3) W1).mono ?_;rintro e w9 ⟨rfl,H⟩;have ew:=H.symm;subst ew;clear H h3;go_wp2_with fail
   refine a_P (fun W2 aa=>?_);have av:W2.heap[w.heap.size]?=some (.cells #[.int .i64 op,.int .i64 (I:Int),.int .i64 BV,.int .i64 KV,.slice none 0 0,.slice none 0 0] 107 (0,0)):=by rw [aa,eK];exact af
   have ay:W2.heap[w.heap.size+1]?=some (.cells #[.slice U M L,.slice O R eB] 77 (0,0)):=by rw [aa];exact aC
   have J:Hid (Below w.heap.size w W2):=by show Below _ _ _;rw [aa];exact aB.out
   clear eK
  all_goals
   clear aa af aC aB aW;have an:=a_d HW.out.1 J.out;have ak:=a_d HW.out.2.1 J.out;have aF:=a_d HW.out.2.2 J.out;obtain ⟨y0,y1,_,_⟩:=c_r ay;have s0:=a_a an;have s1:=a_i av;have s2:=a_i ay;have s3:=a_a ak;refine l_F [⟨11,62,TupP W2.heap.size D V E⟩,⟨12,50,TupP W2.heap.size D V E⟩,⟨13,63,OwnT W2.heap.size D V⟩] 16 72 (by kernel_rfl) rfl rfl 14 _ rfl (by decide) rfl (by kernel_rfl) (by kernel_rfl) (fun _ _ _ _ h=>h) (by rfl) ?_ ?_
   ·intro e he v W W' h hb;simp only [List.mem_cons,List.not_mem_nil,or_false] at he;rcases he with rfl|rfl|rfl
    ·exact TupP.up h hb
    ·exact TupP.up h hb
    ·exact OwnT.up h hb
   apply Exists.intro;refine ⟨?_,?_,?_,?_⟩;rotate_left
   ·intro x;simp only [List.take_succ_cons,List.take_zero]
    iterate 11
     refine a_l rfl rfl ?_;apply Exists.intro;refine ⟨fun F hF hf K hK=>?_,?_⟩
     ·have hFc:=hF.cell;have hFf:=hF.frozen
      go_big_quiet_op
      exact hK
     (try simp only [c_K])
    refine a_q rfl rfl ?_ ?_
    ·intro F hF hf d;have hFc:=hF.cell;have hFf:=hF.frozen;simp [a_k,a_f,go_sem];refine (HC.out (F d) (a_c J.out (hF.below d))).mono ?_;rintro e' w8 ⟨v8,rfl,h8,bc⟩;exact ⟨_,rfl,⟨v8,rfl,(h8.low (hF.below d).size).own⟩,bc⟩
    (try simp only [c_K])
    refine a_q rfl rfl ?_ ?_
    ·intro F hF hf d;have hFc:=hF.cell;have hFf:=hF.frozen;have h9:=hf _ List.mem_cons_self (by rfl) d;simp [a_k,a_f,go_sem];exact ⟨h9,Below.refl _ _⟩
    (try simp only [c_K])
    refine a_q rfl rfl ?_ ?_
    ·intro F hF hf d;have hFc:=hF.cell;have hFf:=hF.frozen;have h9:=hf _ (List.mem_cons_of_mem _ List.mem_cons_self) (by rfl) d;obtain ⟨u9,e9,n9⟩:=h9;simp only [] at e9 n9;simp [a_k,a_f,go_sem,e9];exact ⟨n9,Below.refl _ _⟩
    (try simp only [c_K])
    refine a_l rfl rfl ?_;apply Exists.intro;refine ⟨fun F hF hf K hK=>?_,?_⟩
    ·have hFc:=hF.cell;have hFf:=hF.frozen;have h9:=hf _ (List.mem_cons_of_mem _ List.mem_cons_self) (by rfl);obtain ⟨u9,e9,_⟩:=h9 w;simp only [] at e9
     go_big_quiet_op
     exact hK
    (try simp only [c_K])
    refine a_l rfl rfl ?_;apply Exists.intro;refine ⟨fun F hF hf K hK=>?_,?_⟩
    ·have hFc:=hF.cell;have hFf:=hF.frozen
     go_big_quiet_op
     exact hK
    (try simp only [c_K])
    refine b_c ?_;exact rfl
   ·intro x;simp only [b_l,List.foldl_cons,List.foldl_nil,Act.put,sA_,sB_,sC_]
   rotate_left
   ·intro x hx;obtain ⟨W9,u9,e9,_⟩:=hx _ (List.mem_cons_of_mem _ List.mem_cons_self) (by rfl);simp only [] at e9;refine ⟨.int .i64 E,fun t ht=>?_,.inl ⟨by rfl,fun w=>?_⟩⟩
    ·cases ht;rfl
    ·simp [execOp,Act.eval,e9,go_sem]
   intro w3 aP aM hf;simp only [List.drop_succ_cons,List.drop_zero];have a3:=hf _ (List.mem_cons_of_mem _ (List.mem_cons_of_mem _ List.mem_cons_self));obtain ⟨bn,a0⟩:∃ z,aP 11=z:=⟨_,rfl⟩
   obtain ⟨bg,aZ⟩:∃ z,aP 12=z:=⟨_,rfl⟩
   obtain ⟨bh,aJ⟩:∃ z,aP 13=z:=⟨_,rfl⟩
   simp only [aJ] at a3;simp only [a0,aZ,aJ];clear a0 aZ aJ hf an ak aF y0 y1 s0 s1 s2 s3;obtain ⟨pa,na,ca,pb,nb,cb,rfl,aO,a7⟩:=a3;have aX:Hid (Below w.heap.size w w3):=a_c J.out aM;have am:w3.heap[w.heap.size]?=some (.cells #[.int .i64 op,.int .i64 (I:Int),.int .i64 BV,.int .i64 KV,.slice none 0 0,.slice none 0 0] 107 (0,0)):=by rw [aM.block _ (a_i av)];exact av
   obtain ⟨⟨_,_,_,_,k4,k5⟩,kf⟩:=g_s am;have s1:=a_i am
   have a8:Hid (((w3.setCell ⟨w.heap.size,4,none⟩ (.slice pa na ca)).setCell ⟨w.heap.size,5,none⟩ (.slice pb nb cb)).heap[w.heap.size]?=some (.cells #[.int .i64 op,.int .i64 (I:Int),.int .i64 BV,.int .i64 KV,.slice pa na ca,.slice pb nb cb] 107 (0,0))):=by
    show _=_;rw [a_n (a_n am)];rfl
   have ac:Hid (Below w.heap.size w ((w3.setCell ⟨w.heap.size,4,none⟩ (.slice pa na ca)).setCell ⟨w.heap.size,5,none⟩ (.slice pb nb cb))):=(aX.out.setCell (p:=⟨w.heap.size,4,none⟩) (Nat.le_refl _) _).setCell (p:=⟨w.heap.size,5,none⟩) (Nat.le_refl _) _;have o6:Only [107] w3 ((w3.setCell ⟨w.heap.size,4,none⟩ (.slice pa na ca)).setCell ⟨w.heap.size,5,none⟩ (.slice pb nb cb)):=(Only.set am (by simp)).trans (Only.set (a_n am) (by simp));have aw:B<=W2.heap.size:=Nat.le_trans aS.out J.out.size;have HO:Hid (OwnK .i64 3 ((w3.setCell ⟨w.heap.size,4,none⟩ (.slice pa na ca)).setCell ⟨w.heap.size,5,none⟩ (.slice pb nb cb)) B (.slice pa na ca) D/\OwnK .i64 48 ((w3.setCell ⟨w.heap.size,4,none⟩ (.slice pa na ca)).setCell ⟨w.heap.size,5,none⟩ (.slice pb nb cb)) B (.slice pb nb cb) V/\OwnK .i64 3 ((w3.setCell ⟨w.heap.size,4,none⟩ (.slice pa na ca)).setCell ⟨w.heap.size,5,none⟩ (.slice pb nb cb)) w.heap.size (.slice pa na ca) D):=⟨(aO.only o6 (by decide)).low aw,(a7.only o6 (by decide)).low aw,(aO.only o6 (by decide)).low J.out.size⟩
   clear HC av ay J aO a7 aM am o6 aw aX;by_cases hE:E=0
   case neg=>
    have bl:(E != 0)=true:=by simpa using hE
    obtain ⟨g1,g2⟩:=HG.out.2 hE;subst g1 g2;clear HG hE HO a8;go_wp2;exact bodyPost_ret (v:=.tuple #[.int .i64 0,.int .i64 E]) (by simp [results,Tryz.results72,go_sem]) rfl ⟨rfl,aj.out.up ac.out,ac.out.mono aS.out,Only.of ac.out,Spar2.of ac.out⟩
   subst hE;obtain ⟨g1,g2⟩:=HG.out.1 rfl;subst g1 g2;clear HG;go_wp2_with fail
   refine (j_6 B tb ns ⟨op,(I:Int),BV,KV,D,V⟩ pa pb na ca nb cb HL.out _ (aj.out.up ac.out) HO.out.1 HO.out.2.1).mono ?_;rintro e w7 ⟨rfl,aU,a1,a6,aV⟩;have HF:Hid (TapC w7 B tb (ns++[⟨op,(I:Int),BV,KV,D,V⟩])/\Below B w w7/\Only SC w w7/\Spar2 tb w w7):=⟨aU,i_c (ac.out.mono aS.out) a1,(Only.of ac.out).trans a6,Spar2.kept ac.out aV HO.out.2.2⟩
   clear aU a1 a6 aV HO k4 k5 kf s1 a8;go_wp2;exact bodyPost_ret (v:=.tuple #[.int .i64 (ns.length:Int),.int .i64 0]) (by simp [results,Tryz.results72,go_sem]) rfl ⟨rfl,HF.out⟩
end Go.Proofs.YtcpbhhlepdgdkaaGreatDoor.Wd
