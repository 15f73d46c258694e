/- The code's reckon: the document's table. -/
import Derived.Test.YtjlofobnmjompaaGreatDoorP26
import Derived.Test.YtjlofobnmjompaaGreatDoorP27
set_option linter.unusedVariables false
set_option linter.unusedSimpArgs false
set_option maxHeartbeats 16000000
set_option maxRecDepth 16000
namespace Go.Proofs.YtjlofobnmjompaaGreatDoor.Wd
open Go.RowKit Fx
/-- What reckon tells at one Op. -/
def CkP (op:Int):Prop:=∀ (p p2 p3 p4:Option Addr) (n c n2 c2 n3 c3 n4 c4:Nat) (dd yy d' y':List Int) (K:Int) (hK:InR K) (hg:c_r dd yy) (hd':RI d') (hy':RI y') (hc2:n2<=c2) (w:World) (hT:Hid (Tz w)) (h1:Nums .i64 w (.slice p n c) dd) (h2:Nums .i64 w (.slice p2 n2 c2) yy) (h3:Nums .i64 w (.slice p3 n3 c3) d') (h4:Nums .i64 w (.slice p4 n4 c4) y'),
  Calls Tryz.prog 101 #[.int .i64 op,.agg #[.slice p n c,.slice p2 n2 c2],.agg #[.slice p3 n3 c3,.slice p4 n4 c4],.int .i64 K] w fun e w'=>∃ v',e = .returned (.tuple #[v',.int .i64 (rkE op dd yy d' y' K)])/\TRes w' w.heap.size v' (rkD op dd yy d' y' K) (rkV op dd yy d' y' K)/\Below w.heap.size w w'
theorem e_K (v:Int) (w:World):
  Calls Tryz.prog 123 #[.int .i64 v,.int .i64 0] w fun e E=>∃ u,e = .returned (.tuple #[u,.int .i64 0])/\TRes E w.heap.size u [] [v]/\Below w.heap.size w E:=by
 have H:∀ W:World,Calls Tryz.prog 67 #[.slice none 0 0,.int .i64 v] W fun e E=>∃ V,e = .returned (.tuple #[V,.int .i64 (l_3 [])])/\TRes E W.heap.size V (d_V []) (l_4 [] v)/\Below W.heap.size W E:=fun W=>c_O _ [] (fun y hy=>by simp at hy) v W (.inl ⟨rfl,rfl⟩);have g0:goodN (ntl []):=(p_f 0).1;have R:l_3 []=0:=if_pos g0;have U:d_V [] = []:=if_pos g0;have O:l_4 [] v = [v]:=(if_pos g0).trans (by simp [ntl,a_e]);rw [R,U,O] at H;clear R U O g0;go_enter Tryz.func123,Tryz.ntmps123;go_wp2_with fail
 generalize D:World.alloc _ _=W0;have I:=b_W (w:=w) D (by go_grown);have XR:Hid (Cel W0 w.heap.size (.slice none 0 0) (.slice none 0 0)):=a_F D (by simp [go_sem]);clear D;refine (H W0).mono ?_;rintro e w1 ⟨v1,rfl,⟨s1,t1,rfl,J,L⟩,M⟩;obtain ⟨pa,na,ca,rfl,_⟩:=J.nums.lst;obtain ⟨pb,nb,cb,rfl,_⟩:=L.nums.lst;obtain ⟨HF,r0,r1,r2,r3,y0,y1⟩:=h_m XR I M J L (by omega);clear H J L;go_wp2;exact bodyPost_ret (v:=.tuple #[.agg #[.slice pa na ca,.slice pb nb cb],.int .i64 0]) (by simp [results,Tryz.results123,go_sem,y0,y1]) rfl ⟨_,rfl,HF.out⟩
theorem ck2:CkP 2:=by
 intro p p2 p3 p4 n c n2 c2 n3 c3 n4 c4 dd R d' O K hK hg J H aa w hT h1 h2 h3 h4;have hd:=hg.2.1;have hx:=hg.2.2;obtain ⟨E,U⟩:∃ E,rkE 2 dd R d' O K=E:=⟨_,rfl⟩
 obtain ⟨D,eD⟩:∃ D,rkD 2 dd R d' O K=D:=⟨_,rfl⟩
 obtain ⟨V,eV⟩:∃ V,rkV 2 dd R d' O K=V:=⟨_,rfl⟩
 rw [U,eD,eV]
 have cc:∀ W,Below w.heap.size w W->Calls Tryz.prog 90 #[.agg #[.slice p n c,.slice p2 n2 c2],.agg #[.slice p3 n3 c3,.slice p4 n4 c4]] W fun e w'=>∃ v',e = .returned (.tuple #[v',.int .i64 E])/\TRes w' W.heap.size v' D V/\Below W.heap.size W w':=fun W M=>by
  rw [<- U,<- eD,<- eV];exact g_O p p2 p3 p4 n c n2 c2 n3 c3 n4 c4 dd R d' O hd hx J H W (h1.up M) (h2.up M) (h3.up M) (h4.up M)
 clear U eD eV h1 h2 h3 h4 hd hx J H hg hK aa hT;go_enter Tryz.func101,Tryz.ntmps101;go_wp2_with fail
 generalize I:World.alloc _ _=W0;obtain ⟨L,XA,XB,XR⟩:=m_w I;clear I;refine (cc W0 L.out).mono ?_;rintro e w1 ⟨v1,rfl,⟨s1,t1,rfl,hs,ht⟩,ab⟩;obtain ⟨pa,na,ca,rfl,_⟩:=hs.nums.lst;obtain ⟨pb,nb,cb,rfl,_⟩:=ht.nums.lst;clear cc;obtain ⟨HF,r0,r1,r2,r3,z0,z1⟩:=h_m XR L ab hs ht (by omega);clear hs ht;go_wp2;exact bodyPost_ret (v:=.tuple #[.agg #[.slice pa na ca,.slice pb nb cb],.int .i64 E]) (by simp [results,Tryz.results101,go_sem,z0,z1]) rfl ⟨_,rfl,HF.out⟩
theorem ck3:CkP 3:=by
 intro p p2 p3 p4 n c n2 c2 n3 c3 n4 c4 dd R d' O K hK hg J H aa w hT h1 h2 h3 h4;have hd:=hg.2.1;have hx:=hg.2.2;obtain ⟨E,U⟩:∃ E,rkE 3 dd R d' O K=E:=⟨_,rfl⟩
 obtain ⟨D,eD⟩:∃ D,rkD 3 dd R d' O K=D:=⟨_,rfl⟩
 obtain ⟨V,eV⟩:∃ V,rkV 3 dd R d' O K=V:=⟨_,rfl⟩
 rw [U,eD,eV]
 have cc:∀ W,Below w.heap.size w W->Calls Tryz.prog 119 #[.agg #[.slice p n c,.slice p2 n2 c2],.agg #[.slice p3 n3 c3,.slice p4 n4 c4]] W fun e w'=>∃ v',e = .returned (.tuple #[v',.int .i64 E])/\TRes w' W.heap.size v' D V/\Below W.heap.size W w':=fun W M=>by
  rw [<- U,<- eD,<- eV];exact n_Y p p2 p3 p4 n c n2 c2 n3 c3 n4 c4 dd R d' O hd hx J H W (h1.up M) (h2.up M) (h3.up M) (h4.up M)
 clear U eD eV h1 h2 h3 h4 hd hx J H hg hK aa hT;go_enter Tryz.func101,Tryz.ntmps101;go_wp2_with fail
 generalize I:World.alloc _ _=W0;obtain ⟨L,XA,XB,XR⟩:=m_w I;clear I;refine (cc W0 L.out).mono ?_;rintro e w1 ⟨v1,rfl,⟨s1,t1,rfl,hs,ht⟩,ab⟩;obtain ⟨pa,na,ca,rfl,_⟩:=hs.nums.lst;obtain ⟨pb,nb,cb,rfl,_⟩:=ht.nums.lst;clear cc;obtain ⟨HF,r0,r1,r2,r3,z0,z1⟩:=h_m XR L ab hs ht (by omega);clear hs ht;go_wp2;exact bodyPost_ret (v:=.tuple #[.agg #[.slice pa na ca,.slice pb nb cb],.int .i64 E]) (by simp [results,Tryz.results101,go_sem,z0,z1]) rfl ⟨_,rfl,HF.out⟩
theorem ck4:CkP 4:=by
 intro p p2 p3 p4 n c n2 c2 n3 c3 n4 c4 dd R d' O K hK hg J H aa w hT h1 h2 h3 h4;have hd:=hg.2.1;have hx:=hg.2.2;obtain ⟨E,U⟩:∃ E,rkE 4 dd R d' O K=E:=⟨_,rfl⟩
 obtain ⟨D,eD⟩:∃ D,rkD 4 dd R d' O K=D:=⟨_,rfl⟩
 obtain ⟨V,eV⟩:∃ V,rkV 4 dd R d' O K=V:=⟨_,rfl⟩
 rw [U,eD,eV]
 have cc:∀ W,Below w.heap.size w W->Calls Tryz.prog 120 #[.agg #[.slice p n c,.slice p2 n2 c2],.agg #[.slice p3 n3 c3,.slice p4 n4 c4]] W fun e w'=>∃ v',e = .returned (.tuple #[v',.int .i64 E])/\TRes w' W.heap.size v' D V/\Below W.heap.size W w':=fun W M=>by
  rw [<- U,<- eD,<- eV];exact j_z p p2 p3 p4 n c n2 c2 n3 c3 n4 c4 dd R d' O hd hx J H W (h1.up M) (h2.up M) (h3.up M) (h4.up M)
 clear U eD eV h1 h2 h3 h4 hd hx J H hg hK aa hT;go_enter Tryz.func101,Tryz.ntmps101;go_wp2_with fail
 generalize I:World.alloc _ _=W0;obtain ⟨L,XA,XB,XR⟩:=m_w I;clear I;refine (cc W0 L.out).mono ?_;rintro e w1 ⟨v1,rfl,⟨s1,t1,rfl,hs,ht⟩,ab⟩;obtain ⟨pa,na,ca,rfl,_⟩:=hs.nums.lst;obtain ⟨pb,nb,cb,rfl,_⟩:=ht.nums.lst;clear cc;obtain ⟨HF,r0,r1,r2,r3,z0,z1⟩:=h_m XR L ab hs ht (by omega);clear hs ht;go_wp2;exact bodyPost_ret (v:=.tuple #[.agg #[.slice pa na ca,.slice pb nb cb],.int .i64 E]) (by simp [results,Tryz.results101,go_sem,z0,z1]) rfl ⟨_,rfl,HF.out⟩
theorem ck8:CkP 8:=by
 intro p p2 p3 p4 n c n2 c2 n3 c3 n4 c4 dd J d' O K hK L ab R aa w hT h1 h2 h3 h4;have hd:=L.2.1;have hx:=L.2.2;obtain ⟨E,M⟩:∃ E,rkE 8 dd J d' O K=E:=⟨_,rfl⟩
 obtain ⟨D,eD⟩:∃ D,rkD 8 dd J d' O K=D:=⟨_,rfl⟩
 obtain ⟨V,U⟩:∃ V,rkV 8 dd J d' O K=V:=⟨_,rfl⟩
 rw [M,eD,U]
 have cc:∀ W,Below w.heap.size w W->Calls Tryz.prog 122 #[.agg #[.slice p n c,.slice p2 n2 c2],.int .i64 K] W fun e w'=>∃ v',e = .returned (.tuple #[v',.int .i64 E])/\TRes w' W.heap.size v' D V/\Below W.heap.size W w':=fun W hW=>by
  rw [<- M,<- eD,<- U];exact q_Q p p2 n c n2 c2 dd J K hK hd hx (by obtain ⟨_,_,_,e4,HD⟩:=h1.lst;cases e4;have h5:=L.1.1.1;rw [a_R,HD.out.1] at h5;omega) W (h1.up hW) (h2.up hW)
 clear M eD U h1 h2 h3 h4 hd hx ab R L hK aa hT;go_enter Tryz.func101,Tryz.ntmps101;go_wp2_with fail
 generalize H:World.alloc _ _=W0;obtain ⟨I,XA,XB,XR⟩:=m_w H;clear H;refine (cc W0 I.out).mono ?_;rintro e w1 ⟨v1,rfl,⟨s1,t1,rfl,hs,ht⟩,ac⟩;obtain ⟨pa,na,ca,rfl,_⟩:=hs.nums.lst;obtain ⟨pb,nb,cb,rfl,_⟩:=ht.nums.lst;clear cc;obtain ⟨HF,r0,r1,r2,r3,z0,z1⟩:=h_m XR I ac hs ht (by omega);clear hs ht;go_wp2;exact bodyPost_ret (v:=.tuple #[.agg #[.slice pa na ca,.slice pb nb cb],.int .i64 E]) (by simp [results,Tryz.results101,go_sem,z0,z1]) rfl ⟨_,rfl,HF.out⟩
theorem ck9:CkP 9:=by
 intro p p2 p3 p4 n c n2 c2 n3 c3 n4 c4 dd E d' R K hK H ab U V w hT h1 h2 h3 h4;have hd:=H.2.1;have hx:=H.2.2;obtain ⟨z,ez⟩:∃ z,p_9 dd E=z:=⟨_,rfl⟩
 have eE:rkE 9 dd E d' R K=0:=if_pos H.1;have eD:rkD 9 dd E d' R K = []:=rfl;have eV:rkV 9 dd E d' R K = [z]:=by rw [<- ez];exact if_pos H.1
 rw [eE,eD,eV]
 have cc:∀ W,Below w.heap.size w W->Calls Tryz.prog 124 #[.agg #[.slice p n c,.slice p2 n2 c2]] W fun e w'=>e = .returned (.tuple #[.int .i64 z,.int .i64 0])/\Below W.heap.size W w':=fun W hW=>by
  have:=q_a p p2 n c n2 c2 dd E hd hx W (h1.up hW) (h2.up hW);rw [ez,show k_7 dd E=0 from if_pos H.1] at this;exact this
 clear eE eD eV ez h1 h2 h3 h4 hd hx ab U H hK V hT;go_enter Tryz.func101,Tryz.ntmps101;go_wp2_with fail
 generalize I:World.alloc _ _=W0;obtain ⟨O,XA,XB,XR⟩:=m_w I;clear I;refine (cc W0 O.out).mono ?_;rintro e w1 ⟨rfl,D⟩;clear cc;go_wp2_with fail
 refine (e_K z w1).mono ?_;rintro e w2 ⟨v2,rfl,⟨s1,t1,rfl,L,M⟩,J⟩;obtain ⟨pa,na,ca,rfl,_⟩:=L.nums.lst;obtain ⟨pb,nb,cb,rfl,_⟩:=M.nums.lst;replace L:=L.low D.size;replace M:=M.low D.size;have aa:Below W0.heap.size W0 w2:=a_c D J;clear D J;obtain ⟨HF,r0,r1,r2,r3,z0,z1⟩:=h_m XR O aa L M (by omega);clear L M;go_wp2;exact bodyPost_ret (v:=.tuple #[.agg #[.slice pa na ca,.slice pb nb cb],.int .i64 0]) (by simp [results,Tryz.results101,go_sem,z0,z1]) rfl ⟨_,rfl,HF.out⟩
theorem t_N:CkP 10:=by
 intro p p2 p3 p4 n c n2 c2 n3 c3 n4 c4 dd E d' R K hK H ab U V w hT h1 h2 h3 h4;have hd:=H.2.1;have hx:=H.2.2;obtain ⟨z,ez⟩:∃ z,h_N dd E=z:=⟨_,rfl⟩
 have eE:rkE 10 dd E d' R K=0:=if_pos H.1;have eD:rkD 10 dd E d' R K = []:=rfl;have eV:rkV 10 dd E d' R K = [z]:=by rw [<- ez];exact if_pos H.1
 rw [eE,eD,eV]
 have cc:∀ W,Below w.heap.size w W->Calls Tryz.prog 125 #[.agg #[.slice p n c,.slice p2 n2 c2]] W fun e w'=>e = .returned (.tuple #[.int .i64 z,.int .i64 0])/\Below W.heap.size W w':=fun W hW=>by
  have:=j_J p p2 n c n2 c2 dd E hd hx W (h1.up hW) (h2.up hW);rw [ez,show k_7 dd E=0 from if_pos H.1] at this;exact this
 clear eE eD eV ez h1 h2 h3 h4 hd hx ab U H hK V hT;go_enter Tryz.func101,Tryz.ntmps101;go_wp2_with fail
 generalize I:World.alloc _ _=W0;obtain ⟨O,XA,XB,XR⟩:=m_w I;clear I;refine (cc W0 O.out).mono ?_;rintro e w1 ⟨rfl,D⟩;clear cc;go_wp2_with fail
 refine (e_K z w1).mono ?_;rintro e w2 ⟨v2,rfl,⟨s1,t1,rfl,L,M⟩,J⟩;obtain ⟨pa,na,ca,rfl,_⟩:=L.nums.lst;obtain ⟨pb,nb,cb,rfl,_⟩:=M.nums.lst;replace L:=L.low D.size;replace M:=M.low D.size;have aa:Below W0.heap.size W0 w2:=a_c D J;clear D J;obtain ⟨HF,r0,r1,r2,r3,z0,z1⟩:=h_m XR O aa L M (by omega);clear L M;go_wp2;exact bodyPost_ret (v:=.tuple #[.agg #[.slice pa na ca,.slice pb nb cb],.int .i64 0]) (by simp [results,Tryz.results101,go_sem,z0,z1]) rfl ⟨_,rfl,HF.out⟩
theorem t_w:CkP 11:=by
 intro p p2 p3 p4 n c n2 c2 n3 c3 n4 c4 dd J d' M K hK hg aa O U w hT h1 h2 h3 h4;have hd:=hg.2.1;have hx:=hg.2.2;obtain ⟨E,L⟩:∃ E,rkE 11 dd J d' M K=E:=⟨_,rfl⟩
 obtain ⟨D,eD⟩:∃ D,rkD 11 dd J d' M K=D:=⟨_,rfl⟩
 obtain ⟨V,R⟩:∃ V,rkV 11 dd J d' M K=V:=⟨_,rfl⟩
 rw [L,eD,R]
 have cc:∀ W,Below w.heap.size w W->Calls Tryz.prog 126 #[.int .i64 K,.agg #[.slice p n c,.slice p2 n2 c2]] W fun e w'=>∃ v',e = .returned (.tuple #[v',.int .i64 E])/\TRes w' W.heap.size v' D V/\Below W.heap.size W w':=fun W hW=>by
  rw [<- L,<- eD,<- R];exact o_p K p p2 n c n2 c2 dd J hd hx W (h1.up hW) (h2.up hW)
 clear L eD R h1 h2 h3 h4 hd hx aa O hg hK U hT;go_enter Tryz.func101,Tryz.ntmps101;go_wp2_with fail
 generalize H:World.alloc _ _=W0;obtain ⟨I,XA,XB,XR⟩:=m_w H;clear H;refine (cc W0 I.out).mono ?_;rintro e w1 ⟨v1,rfl,⟨s1,t1,rfl,hs,ht⟩,ab⟩;obtain ⟨pa,na,ca,rfl,_⟩:=hs.nums.lst;obtain ⟨pb,nb,cb,rfl,_⟩:=ht.nums.lst;clear cc;obtain ⟨HF,r0,r1,r2,r3,z0,z1⟩:=h_m XR I ab hs ht (by omega);clear hs ht;go_wp2;exact bodyPost_ret (v:=.tuple #[.agg #[.slice pa na ca,.slice pb nb cb],.int .i64 E]) (by simp [results,Tryz.results101,go_sem,z0,z1]) rfl ⟨_,rfl,HF.out⟩
theorem t_O:CkP 12:=by
 intro p p2 p3 p4 n c n2 c2 n3 c3 n4 c4 dd R d' O K hK hg L I aa w hT h1 h2 h3 h4;have hd:=hg.2.1;have hx:=hg.2.2;obtain ⟨E,U⟩:∃ E,rkE 12 dd R d' O K=E:=⟨_,rfl⟩
 obtain ⟨D,eD⟩:∃ D,rkD 12 dd R d' O K=D:=⟨_,rfl⟩
 obtain ⟨V,eV⟩:∃ V,rkV 12 dd R d' O K=V:=⟨_,rfl⟩
 rw [U,eD,eV]
 have cc:∀ W,Below w.heap.size w W->Calls Tryz.prog 127 #[.agg #[.slice p n c,.slice p2 n2 c2],.agg #[.slice p3 n3 c3,.slice p4 n4 c4],.int .i64 K] W fun e w'=>∃ v',e = .returned (.tuple #[v',.int .i64 E])/\TRes w' W.heap.size v' D V/\Below W.heap.size W w':=fun W H=>by
  rw [<- U,<- eD,<- eV];exact o_G p p2 p3 p4 n c n2 c2 n3 c3 n4 c4 dd R d' O K hd hx L I W (Hid.up_tz hT H) (h1.up H) (h2.up H) (h3.up H) (h4.up H)
 clear U eD eV h1 h2 h3 h4 hd hx L I hg hK aa hT;go_enter Tryz.func101,Tryz.ntmps101;go_wp2_with fail
 generalize J:World.alloc _ _=W0;obtain ⟨M,XA,XB,XR⟩:=m_w J;clear J;refine (cc W0 M.out).mono ?_;rintro e w1 ⟨v1,rfl,⟨s1,t1,rfl,hs,ht⟩,ab⟩;obtain ⟨pa,na,ca,rfl,_⟩:=hs.nums.lst;obtain ⟨pb,nb,cb,rfl,_⟩:=ht.nums.lst;clear cc;obtain ⟨HF,r0,r1,r2,r3,z0,z1⟩:=h_m XR M ab hs ht (by omega);clear hs ht;go_wp2;exact bodyPost_ret (v:=.tuple #[.agg #[.slice pa na ca,.slice pb nb cb],.int .i64 E]) (by simp [results,Tryz.results101,go_sem,z0,z1]) rfl ⟨_,rfl,HF.out⟩
theorem t_P:CkP 13:=by
 intro p p2 p3 p4 n c n2 c2 n3 c3 n4 c4 dd yy d' y' K hK hg af ae ac w hT h1 h2 h3 h4;have hd:=hg.2.1;have hx:=hg.2.2;obtain ⟨E,eE⟩:∃ E,rkE 13 dd yy d' y' K=E:=⟨_,rfl⟩
 obtain ⟨D,eD⟩:∃ D,rkD 13 dd yy d' y' K=D:=⟨_,rfl⟩
 obtain ⟨V,eV⟩:∃ V,rkV 13 dd yy d' y' K=V:=⟨_,rfl⟩
 rw [eE,eD,eV];obtain ⟨P,eP⟩:∃ P,plP dd yy K=P:=⟨_,rfl⟩
 have cc:∀ W,Below w.heap.size w W->Calls Tryz.prog 128 #[.agg #[.slice p n c,.slice p2 n2 c2],.int .i64 K] W fun e w'=>∃ v' u',e = .returned (.tuple #[v',u',.int .i64 E])/\TRes w' W.heap.size v' D V/\OwnK .i64 3 w' W.heap.size u' P/\Below W.heap.size W w':=fun W hW=>by
  rw [<- eE,<- eD,<- eV,<- eP];exact j_R p p2 n c n2 c2 dd yy K hd hx ac W (h1.up hW) (h2.up hW)
 clear eE eD eV eP h1 h2 h3 h4 hd hx af ae hg hK ac hT;go_enter Tryz.func101,Tryz.ntmps101;go_wp2_with fail
 generalize ad:World.alloc _ _=W0;obtain ⟨ab,XA,XB,XR⟩:=m_w ad;clear ad;refine (cc W0 ab.out).mono ?_;rintro e w1 ⟨v1,u1,rfl,⟨s1,t1,rfl,R,aa⟩,hu,U⟩;obtain ⟨L,I,M,rfl,_⟩:=R.nums.lst;obtain ⟨O,J,H,rfl,_⟩:=aa.nums.lst;obtain ⟨pu,nu,cu,rfl,_⟩:=hu.nums.lst;clear cc hu;have xr:=XR.out.up U;have cf:=xr.set (.slice L I M) (.slice O J H)
 have HF:Hid (TRes ((set2 w1 (w.heap.size+2) (.slice L I M) (.slice O J H)).alloc (.cells #[.slice L I M,.slice O J H] 64)) w.heap.size (.agg #[.slice L I M,.slice O J H]) D V/\Below w.heap.size w ((set2 w1 (w.heap.size+2) (.slice L I M) (.slice O J H)).alloc (.cells #[.slice L I M,.slice O J H] 64))):=
  ⟨((TRes.set R aa (a_a XR.out.1)).low ab.out.size).up (a_b _ _),a_c (a_k (a_c ab.out U) _ (by omega) _ _) (a_b _ _)⟩
 obtain ⟨r0,r1,r2,r3⟩:=xr;have kq:=a_a r0;have z0:=a_d cf.1 (a_b _ (.cells #[.slice L I M,.slice O J H] 64));have z1:=a_d cf.2.1 (a_b _ (.cells #[.slice L I M,.slice O J H] 64));clear R aa U cf;go_wp2;exact bodyPost_ret (v:=.tuple #[.agg #[.slice L I M,.slice O J H],.int .i64 E]) (by simp [results,Tryz.results101,go_sem,z0,z1]) rfl ⟨_,rfl,HF.out⟩
theorem t_Q:CkP 14:=by
 intro p p2 p3 p4 n c J c2 n3 c3 n4 c4 dd I d' y' K hK hg ad ab ac w hT h1 h2 h3 h4;obtain ⟨_,_,_,e4,HX⟩:=h2.lst;cases e4;have hn:J<=4096:=by rw [<- HX.out.1];exact hg.1.len.2
 have M:RI [(J:Int)]:=fun q hq=>by simp at hq;omega
 have O:I.length=J:=HX.out.1;have hd:=hg.2.1;have hx:=hg.2.2;obtain ⟨E,eE⟩:∃ E,rkE 14 dd I d' y' K=E:=⟨_,rfl⟩
 obtain ⟨D,eD⟩:∃ D,rkD 14 dd I d' y' K=D:=⟨_,rfl⟩
 obtain ⟨V,eV⟩:∃ V,rkV 14 dd I d' y' K=V:=⟨_,rfl⟩
 rw [eE,eD,eV]
 have cc:Hid (∀ q W,Below w.heap.size w W->Nums .i64 W (.slice q 1 1) [(J:Int)]->Calls Tryz.prog 113 #[.agg #[.slice p n c,.slice p2 J c2],.slice q 1 1] W fun e w'=>∃ U,e = .returned (.tuple #[U,.int .i64 E])/\TRes w' W.heap.size U D V/\Below W.heap.size W w'):=fun q W hW hl=>by
  rw [<- eE,<- eD,<- eV];show Calls _ _ _ _ fun e w'=>∃ U,e = .returned (.tuple #[U,.int .i64 (j_A dd I [(I.length:Int)])])/\TRes w' W.heap.size U (j_B dd I [(I.length:Int)]) (k_6 dd I [(I.length:Int)])/\Below W.heap.size W w';rw [O];exact c_8 p p2 q n c J c2 1 1 dd I [(J:Int)] hd M W (h1.up hW) (h2.up hW) hl
 clear eE eD eV h1 h2 h3 h4 hd hx ad ab hg hK ac hn M O HX hT;go_enter Tryz.func101,Tryz.ntmps101;go_wp2_with fail
 generalize H:World.alloc _ _=W0;have B0:Below w.heap.size w W0:=by rw [<- H];go_grown
 have XA:Hid (Cel W0 w.heap.size (.slice p n c) (.slice p2 J c2)):=a_F H (by simp [go_sem]);have XB:Hid (Cel W0 (w.heap.size+1) (.slice p3 n3 c3) (.slice p4 n4 c4)):=a_F H (by simp [go_sem]);have XR:Hid (Cel W0 (w.heap.size+2) (.slice none 0 0) (.slice none 0 0)):=a_F H (by simp [go_sem]);have R:Hid (Below w.heap.size w W0):=B0
 have l5:Nums .i64 W0 (.slice (some ⟨w.heap.size+3,0,none⟩) 1 1) [(J:Int)]:=by
  refine .inr ⟨_,1,rfl,fun j u L=>?_⟩
  match j,L with
  | 0,L=>
   simp [b_e] at L;subst L;rw [a_u,<- H];simp [go_sem]
  | j+1,L=>simp [b_e] at L
 clear H B0;refine (cc.out _ W0 R.out l5).mono ?_;rintro e w1 ⟨v1,rfl,⟨s1,t1,rfl,hs,ht⟩,aa⟩;obtain ⟨pa,na,ca,rfl,_⟩:=hs.nums.lst;obtain ⟨pb,nb,cb,rfl,_⟩:=ht.nums.lst;clear cc l5;obtain ⟨HF,r0,r1,r2,r3,z0,z1⟩:=h_m XR R aa hs ht (by omega);clear hs ht;go_wp2;exact bodyPost_ret (v:=.tuple #[.agg #[.slice pa na ca,.slice pb nb cb],.int .i64 E]) (by simp [results,Tryz.results101,go_sem,z0,z1]) rfl ⟨_,rfl,HF.out⟩
def rqE (op:Int) (D X D' X':List Int) (k:Int):Int:=if 2<=op/\op<=14 then rkE op D X D' X' k else 1
def rqD (op:Int) (D X D' X':List Int) (k:Int):List Int:=if 2<=op/\op<=14 then rkD op D X D' X' k else []
def rqV (op:Int) (D X D' X':List Int) (k:Int):List Int:=if 2<=op/\op<=14 then rkV op D X D' X' k else []
/-- What reckon does at an Op, the table's, and any. -/
def RkC (op:Int):Prop:=∀ (p p2 p3 p4:Option Addr) (n c n2 c2 n3 c3 n4 c4:Nat) (dd yy d' y':List Int) (K:Int) (hK:InR K) (hg:c_r dd yy) (hd':RI d') (hy':RI y') (hc2:n2<=c2) (w:World) (hT:Hid (Tz w)) (h1:Nums .i64 w (.slice p n c) dd) (h2:Nums .i64 w (.slice p2 n2 c2) yy) (h3:Nums .i64 w (.slice p3 n3 c3) d') (h4:Nums .i64 w (.slice p4 n4 c4) y'),
  Calls Tryz.prog 101 #[.int .i64 op,.agg #[.slice p n c,.slice p2 n2 c2],.agg #[.slice p3 n3 c3,.slice p4 n4 c4],.int .i64 K] w fun e w'=>∃ v',e = .returned (.tuple #[v',.int .i64 (rqE op dd yy d' y' K)])/\TRes w' w.heap.size v' (rqD op dd yy d' y' K) (rqV op dd yy d' y' K)/\Below w.heap.size w w'
theorem RkC.of {op:Int} (h:2<=op/\op<=14) (hc:CkP op):RkC op:=by
 intro p p2 p3 M n c n2 R O c3 n4 U dd L d' y' K hK hg E H D w J h1 V h3 I;have:=hc p p2 p3 M n c n2 R O c3 n4 U dd L d' y' K hK hg E H D w J h1 V h3 I;unfold rqE rqD rqV;rw [if_pos h,if_pos h,if_pos h];exact this
end Go.Proofs.YtjlofobnmjompaaGreatDoor.Wd
