/- Tensors: what tens.each, Add, Sub, Mul h -/
import Derived.Test.YtjlofobnmjompaaGreatDoorP01
set_option linter.unusedVariables false
set_option linter.unusedSimpArgs false
set_option maxHeartbeats 16000000
set_option maxRecDepth 16000
namespace Go.Proofs.YtjlofobnmjompaaGreatDoor.Wd
open Go.RowKit
theorem RI.in {l:List Int} (h:RI l) (k:Nat) (D:k < l.length):Fx.InR (l.getD k 0):=h.at k D
theorem p_X (K:FuncId) (ac:∀ args W,(callFunc K args).run Tryz.prog W = .ok (.enter K args) W) (op:Int->Int->Int) (cK:∀ a b,Fx.InR a->Fx.InR b->∀ W,Calls Tryz.prog K #[.int .i64 a,.int .i64 b] W fun e w'=>e = .returned (.int .i64 (op a b))/\w'=W)
  (p p2 p3 p4:Option Addr) (n c n2 c2 n3 c3 n4 c4:Nat) (d x d' y:List Int) (hd:RI d) (hx:RI x) (O:RI d') (hy:RI y) (w:World) (h1:Nums .i64 w (.slice p n c) d) (h2:Nums .i64 w (.slice p2 n2 c2) x) (h3:Nums .i64 w (.slice p3 n3 c3) d') (h4:Nums .i64 w (.slice p4 n4 c4) y)
  (R:¬ (isP d x/\isP d' y/\b_x d d'=0)):
  Calls Tryz.prog 117 #[.agg #[.slice p n c,.slice p2 n2 c2],.agg #[.slice p3 n3 c3,.slice p4 n4 c4],.func (.func K) #[] #[]] w fun e w'=>∃ v',e = .returned (.tuple #[v',.int .i64 (b_C d x d' y)])/\TRes w' w.heap.size v' (b_J d x d' y) (b_U op d x d' y)/\Below w.heap.size w w':=by
 have cA:=fun W (hW:Below w.heap.size w W)=>a_C _ _ d x hd W (h1.up hW) (h2.up hW);have cB:=fun W (hW:Below w.heap.size w W)=>a_C _ _ d' y O W (h3.up hW) (h4.up hW);have cJ:=fun W (hW:Below w.heap.size w W)=>g_z _ _ d d' hd O W (h1.up hW) (h3.up hW);by_cases ha:isP d x
 ·rw [decide_eq_true ha] at cA;by_cases hb:isP d' y
  ·rw [decide_eq_true hb] at cB;have hE:b_x d d'≠0:=fun h=>R ⟨ha,hb,h⟩;obtain ⟨e1,e2,V⟩:=j_v (op:=op) ⟨ha,hb⟩ hE;rw [e1,e2,V];obtain ⟨E,eE⟩:∃ E,b_x d d'=E:=⟨_,rfl⟩
   obtain ⟨JL,eJ⟩:∃ JL,b_S d d'=JL:=⟨_,rfl⟩
   rw [eE] at hE cJ ⊢;rw [eJ] at cJ;have ad:(E != 0)=true:=by simp [hE]
   clear eE eJ e1 e2 V ha hb R h1 h2 h3 h4 hd hx O hy cK;go_enter Tryz.func117,Tryz.ntmps117;go_wp2_with fail
   generalize D:World.alloc _ _=W0;have L:=b_W (w:=w) D (by go_grown);have XA:Hid (Cel W0 w.heap.size (.slice p n c) (.slice p2 n2 c2)):=a_F D (by simp [go_sem]);have XB:Hid (Cel W0 (w.heap.size+1) (.slice p3 n3 c3) (.slice p4 n4 c4)):=a_F D (by simp [go_sem]);have XR:Hid (Cel W0 (w.heap.size+2) (.slice none 0 0) (.slice none 0 0)):=a_F D (by simp [go_sem]);clear D;refine (cA W0 L.out).mono ?_;rintro e w1 ⟨rfl,I⟩;have H:=a_N (a_c L.out I) I;clear I;have xb:=XB.out.up H.out.2;obtain ⟨b0,b1,_,_⟩:=xb;go_wp2_with fail
   refine (cB w1 H.out.1).mono ?_;rintro e w2 ⟨rfl,M⟩;have J:=a_N (a_c H.out.1 M) (a_c H.out.2 M);clear M b0 b1;have xa:=XA.out.up J.out.2;have xb:=XB.out.up J.out.2;obtain ⟨a0,a1,_,_⟩:=xa;obtain ⟨b0,b1,_,_⟩:=xb;go_wp2_with fail
   refine (cJ w2 J.out.1).mono ?_;rintro e w3 ⟨vj,rfl,aa,U⟩;have ab:=a_N (a_c J.out.1 U) (a_c J.out.2 U);have ae:Hid (OwnK .i64 3 w3 w2.heap.size vj JL/\Below w2.heap.size w2 w3):=⟨aa,U⟩
   clear U aa a0 a1 b0 b1;have xr:=(XR.out.up ab.out.2)
   have BF:=a_k (ab.out.1) (w.heap.size+2) (by omega) (.slice none 0 0) (.slice none 0 0);have cf:=xr.set (.slice none 0 0) (.slice none 0 0);obtain ⟨r0,r1,r2,r3⟩:=xr;obtain ⟨y0,y1,_,_⟩:=cf;go_wp2;exact bodyPost_ret (v:=.tuple #[.agg #[.slice none 0 0,.slice none 0 0],.int .i64 E]) (by simp [results,Tryz.results117,go_sem,y0,y1]) rfl ⟨_,rfl,TRes.none _ _,BF⟩
  ·rw [decide_eq_false hb] at cB;obtain ⟨e1,e2,V⟩:=f_r (op:=op) (d:=d) (x:=x) (d':=d') (y:=y) fun h=>hb h.2;rw [e1,e2,V];clear e1 e2 V ha hb R h1 h2 h3 h4 hd hx O hy cK cJ;go_enter Tryz.func117,Tryz.ntmps117;go_wp2_with fail
   generalize D:World.alloc _ _=W0;have L:=b_W (w:=w) D (by go_grown);have XA:Hid (Cel W0 w.heap.size (.slice p n c) (.slice p2 n2 c2)):=a_F D (by simp [go_sem]);have XB:Hid (Cel W0 (w.heap.size+1) (.slice p3 n3 c3) (.slice p4 n4 c4)):=a_F D (by simp [go_sem]);have XR:Hid (Cel W0 (w.heap.size+2) (.slice none 0 0) (.slice none 0 0)):=a_F D (by simp [go_sem]);clear D;refine (cA W0 L.out).mono ?_;rintro e w1 ⟨rfl,I⟩;have H:=a_N (a_c L.out I) I;clear I;have xb:=XB.out.up H.out.2;obtain ⟨b0,b1,_,_⟩:=xb;go_wp2_with fail
   refine (cB w1 H.out.1).mono ?_;rintro e w2 ⟨rfl,M⟩;have J:=a_N (a_c H.out.1 M) (a_c H.out.2 M);clear M b0 b1;have xr:=(XR.out.up J.out.2)
   have BF:=a_k (J.out.1) (w.heap.size+2) (by omega) (.slice none 0 0) (.slice none 0 0);have cf:=xr.set (.slice none 0 0) (.slice none 0 0);obtain ⟨r0,r1,r2,r3⟩:=xr;obtain ⟨y0,y1,_,_⟩:=cf;go_wp2;exact bodyPost_ret (v:=.tuple #[.agg #[.slice none 0 0,.slice none 0 0],.int .i64 1]) (by simp [results,Tryz.results117,go_sem,y0,y1]) rfl ⟨_,rfl,TRes.none _ _,BF⟩
 ·rw [decide_eq_false ha] at cA;obtain ⟨e1,e2,V⟩:=f_r (op:=op) (d:=d) (x:=x) (d':=d') (y:=y) fun h=>ha h.1;rw [e1,e2,V];clear e1 e2 V ha R h1 h2 h3 h4 hd hx O hy cK cJ cB;go_enter Tryz.func117,Tryz.ntmps117;go_wp2_with fail
  generalize D:World.alloc _ _=W0;have L:=b_W (w:=w) D (by go_grown);have XA:Hid (Cel W0 w.heap.size (.slice p n c) (.slice p2 n2 c2)):=a_F D (by simp [go_sem]);have XB:Hid (Cel W0 (w.heap.size+1) (.slice p3 n3 c3) (.slice p4 n4 c4)):=a_F D (by simp [go_sem]);have XR:Hid (Cel W0 (w.heap.size+2) (.slice none 0 0) (.slice none 0 0)):=a_F D (by simp [go_sem]);clear D;refine (cA W0 L.out).mono ?_;rintro e w1 ⟨rfl,I⟩;have H:=a_N (a_c L.out I) I;clear I;have xr:=(XR.out.up H.out.2)
  have BF:=a_k (H.out.1) (w.heap.size+2) (by omega) (.slice none 0 0) (.slice none 0 0);have cf:=xr.set (.slice none 0 0) (.slice none 0 0);obtain ⟨r0,r1,r2,r3⟩:=xr;obtain ⟨y0,y1,_,_⟩:=cf;go_wp2;exact bodyPost_ret (v:=.tuple #[.agg #[.slice none 0 0,.slice none 0 0],.int .i64 1]) (by simp [results,Tryz.results117,go_sem,y0,y1]) rfl ⟨_,rfl,TRes.none _ _,BF⟩
theorem n_X (K:FuncId) (aw:∀ args W,(callFunc K args).run Tryz.prog W = .ok (.enter K args) W) (op:Int->Int->Int) (cK:∀ a b,Fx.InR a->Fx.InR b->∀ W,Calls Tryz.prog K #[.int .i64 a,.int .i64 b] W fun e M=>e = .returned (.int .i64 (op a b))/\M=W)
  (p p2 p3 p4:Option Addr) (n c n2 c2 n3 c3 n4 c4:Nat) (d x d' y:List Int) (hd:RI d) (hx:RI x) (aG:RI d') (hy:RI y) (w:World) (h1:Nums .i64 w (.slice p n c) d) (h2:Nums .i64 w (.slice p2 n2 c2) x) (h3:Nums .i64 w (.slice p3 n3 c3) d') (h4:Nums .i64 w (.slice p4 n4 c4) y)
  (a b J:List Nat) (R:Joint d x d' y a b J):
  Calls Tryz.prog 117 #[.agg #[.slice p n c,.slice p2 n2 c2],.agg #[.slice p3 n3 c3,.slice p4 n4 c4],.func (.func K) #[] #[]] w fun e M=>∃ v',e = .returned (.tuple #[v',.int .i64 (b_C d x d' y)])/\TRes M w.heap.size v' (b_J d x d' y) (b_U op d x d' y)/\Below w.heap.size w M:=by
 have cA:=fun W (O:Below w.heap.size w W)=>a_C _ _ d x hd W (h1.up O) (h2.up O);have cB:=fun W (O:Below w.heap.size w W)=>a_C _ _ d' y aG W (h3.up O) (h4.up O);have cJ:=fun W (O:Below w.heap.size w W)=>g_z _ _ d d' hd aG W (h1.up O) (h3.up O);obtain ⟨e1,e2,e3⟩:=R.E (op:=op);rw [e1,e2,e3];have aL:isP d x:=by rw [R.da];unfold isP;rw [a_p];exact ⟨R.ga,R.lx⟩
 have aS:isP d' y:=by rw [R.db];unfold isP;rw [a_p];exact ⟨R.gb,R.ly⟩
 rw [decide_eq_true aL] at cA;rw [decide_eq_true aS] at cB;rw [R.je,R.jn] at cJ;obtain ⟨JL,eJ⟩:∃ JL,itl J=JL:=⟨_,rfl⟩
 obtain ⟨V,eV⟩:∃ V,((List.range (a_e J)).map fun i=>op (x.getD (b_R a J i) 0) (y.getD (b_R b J i) 0))=V:=⟨_,rfl⟩
 obtain ⟨N,eN⟩:∃ N,a_e J=N:=⟨_,rfl⟩
 rw [eJ] at cJ ⊢;rw [eV];have D:Hid (Joint d x d' y a b J/\itl J=JL/\((List.range (a_e J)).map fun i=>op (x.getD (b_R a J i) 0) (y.getD (b_R b J i) 0))=V/\a_e J=N/\V.length=N):=⟨R,eJ,eV,eN,by rw [<- eV,<- eN];simp⟩
 have hN:1<=N/\N<=4096:=by rw [<- eN];exact ⟨R.gJ.pos,R.gJ.2.2⟩
 have a9:1<=(N:Int)/\(N:Int)<=4096:=by omega
 have HR:Hid (RI x/\RI y):=⟨hx,hy⟩
 have aU:Hid (∀ args W,(callFunc K args).run Tryz.prog W = .ok (.enter K args) W):=aw;have a4:Hid (∀ a b,Fx.InR a->Fx.InR b->∀ W,Calls Tryz.prog K #[.int .i64 a,.int .i64 b] W fun e M=>e = .returned (.int .i64 (op a b))/\M=W):=cK;have H0:Hid (Nums .i64 w (.slice p n c) (itl a)/\Nums .i64 w (.slice p2 n2 c2) x/\Nums .i64 w (.slice p3 n3 c3) (itl b)/\Nums .i64 w (.slice p4 n4 c4) y):=⟨by rw [<- R.da];exact h1,h2,by rw [<- R.db];exact h3,h4⟩
 clear e1 e2 e3 aL aS eJ eV eN h1 h2 h3 h4 hd hx aG hy cK R aw;go_enter Tryz.func117,Tryz.ntmps117;go_wp2_with fail
 generalize ae:World.alloc _ _=W0;have aC:=b_W (w:=w) ae (by go_grown);have XA:Hid (Cel W0 w.heap.size (.slice p n c) (.slice p2 n2 c2)):=a_F ae (by simp [go_sem]);have XB:Hid (Cel W0 (w.heap.size+1) (.slice p3 n3 c3) (.slice p4 n4 c4)):=a_F ae (by simp [go_sem]);have XR:Hid (Cel W0 (w.heap.size+2) (.slice none 0 0) (.slice none 0 0)):=a_F ae (by simp [go_sem]);clear ae;refine (cA W0 aC.out).mono ?_;rintro e w1 ⟨rfl,aD⟩;have aq:=a_N (a_c aC.out aD) aD;clear aD;have xb:=XB.out.up aq.out.2;obtain ⟨b0,b1,_,_⟩:=xb;go_wp2_with fail
 refine (cB w1 aq.out.1).mono ?_;rintro e w2 ⟨rfl,aA⟩;have ab:=a_N (a_c aq.out.1 aA) (a_c aq.out.2 aA);clear aA b0 b1;have xa:=XA.out.up ab.out.2;have xb:=XB.out.up ab.out.2;obtain ⟨a0,a1,_,_⟩:=xa;obtain ⟨b0,b1,_,_⟩:=xb;go_wp2_with fail
 refine (cJ w2 ab.out.1).mono ?_;rintro e w3 ⟨vj,rfl,aN,ao⟩;have ai:=a_N (a_c ab.out.1 ao) (a_c ab.out.2 ao);have an:Hid (OwnK .i64 3 w3 w2.heap.size vj JL/\Below w2.heap.size w2 w3):=⟨aN,ao⟩
 clear ao aN a0 a1 b0 b1;have cZ:=size_any vj JL (by rw [<- D.out.2.1];exact j_j D.out.1.gJ.le) w3 an.out.1.nums;rw [<- D.out.2.1,a_p,b_1 D.out.1.gJ,D.out.2.2.2.1] at cZ;go_wp2_with fail
 refine cZ.mono ?_;rintro e w9 ⟨rfl,rfl⟩;clear cZ;go_wp2_with (at_make;refine a_y k_w (by decide) _ rfl (.tmp 36) (.tmp 36) rfl .i64 .i64 N N N rfl rfl rfl rfl (by omega) w.heap.size w ai.out.1.size ai.out.1 ?_;intro U av B4 aY;clear aY)
 have ac:=a_N (a_c ai.out.1 B4) (a_c ai.out.2 B4);have ak:Hid (OwnK .i64 3 U w2.heap.size vj JL):=an.out.1.up B4;obtain ⟨g,hg⟩:∃ g,w9.heap.size=g:=⟨_,rfl⟩
 rw [hg] at av;have Hg:Hid (W0.heap.size<=g/\w2.heap.size<=g/\g < U.heap.size/\w9.heap.size=g):=⟨by rw [<- hg];exact ai.out.2.size,by rw [<- hg];exact an.out.2.size,av.out.size,hg⟩
 have aI:∀ W,Below U.heap.size U W->Calls Tryz.prog 133 #[.slice p n c,vj] W fun e M=>∃ v',e = .returned v'/\OwnK .i64 3 M U.heap.size v' (itl (b_T a J))/\Below W.heap.size W M:=fun W O=>by
  refine (e_s _ _ a J D.out.1.ga D.out.1.gJ (g_y D.out.1.ja) W (H0.out.1.up (a_c ac.out.1 O)) ?_).mono ?_
  ·rw [D.out.2.1];exact (ak.out.up O).nums
  ·rintro e M ⟨v',rfl,h,hb⟩;exact ⟨v',rfl,h.low O.size,hb⟩
 have aK:∀ W,Below U.heap.size U W->Calls Tryz.prog 133 #[.slice p3 n3 c3,vj] W fun e M=>∃ v',e = .returned v'/\OwnK .i64 3 M U.heap.size v' (itl (b_T b J))/\Below W.heap.size W M:=fun W O=>by
  refine (e_s _ _ b J D.out.1.gb D.out.1.gJ (g_y D.out.1.jb) W (H0.out.2.2.1.up (a_c ac.out.1 O)) ?_).mono ?_
  ·rw [D.out.2.1];exact (ak.out.up O).nums
  ·rintro e M ⟨v',rfl,h,hb⟩;exact ⟨v',rfl,h.low O.size,hb⟩
 have xa:=XA.out.up ac.out.2;have xb:=XB.out.up ac.out.2;obtain ⟨a0,a1,_,_⟩:=xa;obtain ⟨b0,b1,_,_⟩:=xb;have z0:=a_a a0;have z1:=a_a b0;clear B4;haveI:Nonempty World:=⟨w⟩
 go_wp2_with fail
 refine rel [⟨3,41,fun v W=>OwnK .i64 3 W U.heap.size v (itl (b_T a J))⟩,⟨7,45,fun v W=>OwnK .i64 3 W U.heap.size v (itl (b_T b J))⟩] 8 76 (by kernel_rfl) rfl rfl (by kernel_rfl) (by rfl) ?_ ?_
 ·intro e he v W W' h hb;simp only [List.mem_cons,List.not_mem_nil,or_false] at he;rcases he with rfl|rfl
  ·exact OwnK.up h hb
  ·exact OwnK.up h hb
 apply Exists.intro;refine ⟨fun x=>?_,?_,?_⟩
 ·simp only [List.take_succ_cons,List.take_zero]
  iterate 3
   refine a_l rfl rfl ?_;apply Exists.intro;refine ⟨fun F hF hf K hK=>?_,?_⟩
   ·have hFc:=hF.cell;have hFf:=hF.frozen
    go_big_quiet_op
    exact hK
   (try simp only [c_I])
  refine a_o rfl rfl ?_ ?_
  ·intro F hF hf d;have hFc:=hF.cell;have hFf:=hF.frozen;simp [a_j,a_f,go_sem];refine (aI _ (hF.below d)).mono ?_;rintro e' w8 ⟨v8,rfl,h8,aF⟩;exact ⟨_,rfl,h8,aF⟩
  iterate 3
   (try simp only [c_I])
   refine a_l rfl rfl ?_;apply Exists.intro;refine ⟨fun F hF hf K hK=>?_,?_⟩
   ·have hFc:=hF.cell;have hFf:=hF.frozen
    go_big_quiet_op
    exact hK
  (try simp only [c_I])
  refine a_o rfl rfl ?_ ?_
  ·intro F hF hf d;have hFc:=hF.cell;have hFf:=hF.frozen;simp [a_j,a_f,go_sem];refine (aK _ (hF.below d)).mono ?_;rintro e' w8 ⟨v8,rfl,h8,aF⟩;exact ⟨_,rfl,h8,aF⟩
  (try simp only [c_I])
  refine b_a ?_;exact rfl
 ·exact fun x=>rfl
 ·intro w5 xs aa hf;simp only [List.drop_succ_cons,List.drop_zero];have am:=hf _ List.mem_cons_self;have ar:=hf _ (List.mem_cons_of_mem _ List.mem_cons_self);obtain ⟨fa,aW⟩:∃ fa,xs 3=fa:=⟨_,rfl⟩
  obtain ⟨fb,aR⟩:∃ fb,xs 7=fb:=⟨_,rfl⟩
  simp only [aW,aR] at am ar ⊢;clear aW aR hf;obtain ⟨pa,na,ca,rfl,ah⟩:=am.nums.lst;obtain ⟨pb,L,cb,rfl,ag⟩:=ar.nums.lst;obtain rfl:na=N:=by rw [<- ah.out.1,a_v,d_N,D.out.2.2.2.1]
  obtain rfl:L=na:=by rw [<- ag.out.1,a_v,d_N,D.out.2.2.2.1]
  have ap:Hid (OwnK .i64 3 w5 U.heap.size (.slice pa L ca) (itl (b_T a J))/\OwnK .i64 3 w5 U.heap.size (.slice pb L cb) (itl (b_T b J))/\Below U.heap.size U w5):=⟨am,ar,aa⟩
  have au:=a_N (a_c ac.out.1 aa) (a_c ac.out.2 aa);have aT:=XA.out.up au.out.2;have aV:=XB.out.up au.out.2;have aJ:=XR.out.up au.out.2;have az:Hid (Cel w5 w.heap.size (.slice p n c) (.slice p2 n2 c2)/\Cel w5 (w.heap.size+1) (.slice p3 n3 c3) (.slice p4 n4 c4)/\Cel w5 (w.heap.size+2) (.slice none 0 0) (.slice none 0 0)):=⟨aT,aV,aJ⟩
  have hz:=a_a XR.out.1
  have a6:Hid (OwnK .i64 23 w5 g (.slice (some ⟨g,0,none⟩) L L) (b_I V 0)):=by
   show OwnK _ _ _ _ _ _;rw [a_1,D.out.2.2.2.2];exact av.out.up aa
  have aX:Hid (OwnK .i64 3 w5 w2.heap.size vj JL):=ak.out.up aa;have Hz:Hid (w.heap.size+2 < W0.heap.size):=hz;rw [hg];clear am ar aa ah ag aT aV aJ a0 a1 b0 b1 z0 z1 aI aK av ak hg hz;go_wp2_with fail
  go_loopg [48] L (fun gg i wr=>∃ (k:Nat),k<=L/\gg=L - k/\i = .int .i64 (k:Int)/\Hid (OwnK .i64 23 wr g (.slice (some ⟨g,0,none⟩) L L) (b_I V k))/\Hid (Below w.heap.size w wr/\Stay g w5 wr))
  case atStart=>exact ⟨0,by omega,by omega,by first|rfl|simp,a6,au.out.1,Stay.refl _ _⟩
  case round=>
   obtain ⟨k,hk,hg,rfl,aH,H⟩:=hrel;obtain ⟨R1,a5⟩:∃ R1:World,R1=wr:=⟨_,rfl⟩
   subst a5;by_cases af:k < L
   ·have a8:(k:Int) < (L:Int):=by omega
    have a3:=(ap.out.1.nums.stay H.out.2 (ap.out.1.off Hg.out.2.2.1)).lst;have a2:=(ap.out.2.1.nums.stay H.out.2 (ap.out.2.1.off Hg.out.2.2.1)).lst;obtain ⟨_,_,_,e4,ah⟩:=a3;cases e4;obtain ⟨_,_,_,e4,ag⟩:=a2;cases e4;obtain ⟨qa,oa,rfl,aE⟩:=ah.out.2 k af;obtain ⟨qb,ob,rfl,I⟩:=ag.out.2 k af;have ad:k < a_e J:=by rw [D.out.2.2.2.1];exact af
    rw [a_P,f_l D.out.1.ga D.out.1.gJ D.out.1.fa D.out.1.ja k ad] at aE;rw [a_P,f_l D.out.1.gb D.out.1.gJ D.out.1.fb D.out.1.jb k ad] at I;have ia:=g_x D.out.1.ga.2.1 D.out.1.gJ.2.1 D.out.1.fa D.out.1.ja k ad;have ib:=g_x D.out.1.gb.2.1 D.out.1.gJ.2.1 D.out.1.fb D.out.1.jb k ad;obtain ⟨_,_,_,e4,HX⟩:=(H0.out.2.1.up H.out.1).lst;cases e4;obtain ⟨_,_,_,e4,HY⟩:=(H0.out.2.2.2.up H.out.1).lst;cases e4;obtain ⟨i,ei⟩:∃ i,b_R a J k=i:=⟨_,rfl⟩
    obtain ⟨j,ej⟩:∃ j,b_R b J k=j:=⟨_,rfl⟩
    rw [ei] at aE ia;rw [ej] at I ib;rw [<- D.out.1.lx,HX.out.1] at ia;rw [<- D.out.1.ly,HY.out.1] at ib;obtain ⟨qx,ox,rfl,aP⟩:=HX.out.2 i ia;obtain ⟨qy,oy,rfl,aO⟩:=HY.out.2 j ib;have bc:(i:Int) < (n2:Int):=by omega
    have ba:(j:Int) < (n4:Int):=by omega
    have rx:=HR.out.1.in i (by rw [HX.out.1];exact ia);have ry:=HR.out.2.in j (by rw [HY.out.1];exact ib);obtain ⟨X,eX⟩:∃ X,x.getD i 0=X:=⟨_,rfl⟩
    obtain ⟨Y,eY⟩:∃ Y,y.getD j 0=Y:=⟨_,rfl⟩
    rw [eX] at aP rx;rw [eY] at aO ry;obtain ⟨Z,eZ⟩:∃ Z,op X Y=Z:=⟨_,rfl⟩
    have HZ:Hid (V.getD k 0=Z):=by
     show _=_;rw [<- D.out.2.2.1,a_I _ _ _ _ ad,ei,ej,eX,eY,eZ]
    have cz:∀ W,Calls Tryz.prog K #[.int .i64 X,.int .i64 Y] W fun e M=>e = .returned (.int .i64 Z)/\M=W:=fun W=>by rw [<- eZ];exact a4.out X Y rx ry W
    have ax:w.heap.size≠g:=by have:=Hz.out;have:=Hg.out.1;omega
    have ay:w.heap.size+1≠g:=by have:=Hz.out;have:=Hg.out.1;omega
    obtain ⟨a0,a1,_,_⟩:=az.out.1.stay H.out.2 ax;obtain ⟨b0,b1,_,_⟩:=az.out.2.1.stay H.out.2 ay;have z0:=a_a a0;have z1:=a_a b0;have z2:=a_a aE;have z3:=a_a I;have z4:=a_a aP;have z5:=a_a aO;have z6:=aH.out.size;have Hk:Hid (k < V.length):=by show _ < _;rw [D.out.2.2.2.2];exact af
    clear eX eY eZ ei ej ah ag HX HY ax ay ad ia ib;go_wp2_with fail
    refine j_r 21 76 (by kernel_rfl) rfl rfl (by kernel_rfl) ?_;apply Exists.intro;refine ⟨?_,?_⟩
    ·intro F hF;have hFc:=hF.cell;have hFf:=hF.frozen;simp only [List.take_succ_cons,List.take_zero,List.eraseIdx_cons_succ,List.eraseIdx_cons_zero]
     repeat (go_big_quiet_step ((rw [aU.out];exact ⟨rfl,hF.same (cz _)⟩)))
     refine wpQuiet_nil ?_;exact rfl
    ·intro W1 I;simp only [List.drop_succ_cons,List.drop_zero];have aB:=aH.out.up I;obtain ⟨a7,bb⟩:=aB.cell (by rw [a_A];exact D.out.2.2.2.2) k af
     have H5:Hid (OwnK .i64 23 (W1.setCell ⟨g,k,none⟩ (.int .i64 Z)) g (.slice (some ⟨g,0,none⟩) L L) (b_I V (k+1))):=by
      have:=aB.store (by rw [a_A];exact D.out.2.2.2.2) k Z;rw [<- HZ.out,b_r V k Hk.out] at this;rw [<- HZ.out];exact this
     have aZ:w.heap.size<=g:=by have:=Hz.out;have:=Hg.out.1;omega
     have H6:Hid (Below w.heap.size w (W1.setCell ⟨g,k,none⟩ (.int .i64 Z))/\Stay g w5 (W1.setCell ⟨g,k,none⟩ (.int .i64 Z))):=⟨(a_c H.out.1 I).setCell (p:=⟨g,k,none⟩) aZ _,(H.out.2.up I).set _ _⟩
     clear aB I cz z0 z1 z2 z3 z4 z5 z6 a0 a1 b0 b1;go_wp2;go_roundg (L - (k+1))
     case measure=>omega
     case rel=>exact ⟨k+1,by omega,rfl,by first|rfl|simp,H5,H6⟩
   ·obtain rfl:k=L:=by omega
    obtain ⟨pj,nj,cj,rfl,_⟩:=aX.out.nums.lst;have aQ:w.heap.size+2≠g:=by have:=Hz.out;have:=Hg.out.1;omega
    have xr:=az.out.2.2.stay H.out.2 aQ;have aj:=aH.out;rw [<- D.out.2.2.2.2,b_g,D.out.2.2.2.2] at aj;have aM:=aX.out.stay H.out.2 (an.out.1.off_new (by rw [Hg.out.2.2.2];exact Nat.le_refl _))
    have HF:Hid (TRes (set2 R1 (w.heap.size+2) (.slice pj nj cj) (.slice (some ⟨g,0,none⟩) k k)) w.heap.size (.agg #[.slice pj nj cj,.slice (some ⟨g,0,none⟩) k k]) JL V/\Below w.heap.size w (set2 R1 (w.heap.size+2) (.slice pj nj cj) (.slice (some ⟨g,0,none⟩) k k))):=by
     refine ⟨(TRes.set (aM.low ab.out.2.size) (aj.low Hg.out.1) Hz.out).low aC.out.size,a_k H.out.1 _ (by omega) _ _⟩
    have cf:=xr.set (.slice pj nj cj) (.slice (some ⟨g,0,none⟩) k k);obtain ⟨r0,r1,r2,r3⟩:=xr;obtain ⟨y0,y1,_,_⟩:=cf;clear aj aM;go_wp2;exact bodyPost_ret (v:=.tuple #[.agg #[.slice pj nj cj,.slice (some ⟨g,0,none⟩) k k],.int .i64 0]) (by simp [results,Tryz.results117,go_sem,y0,y1]) rfl ⟨_,rfl,HF.out⟩
theorem g_N (K:FuncId) (D:∀ args W,(callFunc K args).run Tryz.prog W = .ok (.enter K args) W) (op:Int->Int->Int) (cK:∀ a b,Fx.InR a->Fx.InR b->∀ W,Calls Tryz.prog K #[.int .i64 a,.int .i64 b] W fun e w'=>e = .returned (.int .i64 (op a b))/\w'=W)
  (p V M H:Option Addr) (n c R I U O n4 L:Nat) (d x d' y:List Int) (hd:RI d) (hx:RI x) (E:RI d') (hy:RI y) (w:World) (h1:Nums .i64 w (.slice p n c) d) (h2:Nums .i64 w (.slice V R I) x) (h3:Nums .i64 w (.slice M U O) d') (h4:Nums .i64 w (.slice H n4 L) y):
  Calls Tryz.prog 117 #[.agg #[.slice p n c,.slice V R I],.agg #[.slice M U O,.slice H n4 L],.func (.func K) #[] #[]] w fun e w'=>∃ v',e = .returned (.tuple #[v',.int .i64 (b_C d x d' y)])/\TRes w' w.heap.size v' (b_J d x d' y) (b_U op d x d' y)/\Below w.heap.size w w':=by
 by_cases h:isP d x/\isP d' y/\b_x d d'=0
 ·obtain ⟨a,b,J,hJ⟩:=n_V ⟨h.1,h.2.1⟩ h.2.2;exact n_X K D op cK p V M H n c R I U O n4 L d x d' y hd hx E hy w h1 h2 h3 h4 a b J hJ
 ·exact p_X K D op cK p V M H n c R I U O n4 L d x d' y hd hx E hy w h1 h2 h3 h4 h
theorem g_O (p p2 p3 p4:Option Addr) (n c n2 c2 n3 c3 n4 c4:Nat) (d x d' y:List Int) (hd:RI d) (hx:RI x) (aa:RI d') (hy:RI y) (w:World) (h1:Nums .i64 w (.slice p n c) d) (h2:Nums .i64 w (.slice p2 n2 c2) x) (h3:Nums .i64 w (.slice p3 n3 c3) d') (h4:Nums .i64 w (.slice p4 n4 c4) y):
  Calls Tryz.prog 90 #[.agg #[.slice p n c,.slice p2 n2 c2],.agg #[.slice p3 n3 c3,.slice p4 n4 c4]] w fun e w'=>∃ v',e = .returned (.tuple #[v',.int .i64 (b_C d x d' y)])/\TRes w' w.heap.size v' (b_J d x d' y) (b_U (fun a b=>Fx.hold (a+b)) d x d' y)/\Below w.heap.size w w':=by
 have cE:∀ W,Below w.heap.size w W->Calls Tryz.prog 117 #[.agg #[.slice p n c,.slice p2 n2 c2],.agg #[.slice p3 n3 c3,.slice p4 n4 c4],.func (.func 118) #[] #[]] W fun e w'=>∃ v',e = .returned (.tuple #[v',.int .i64 (b_C d x d' y)])/\TRes w' W.heap.size v' (b_J d x d' y) (b_U (fun a b=>Fx.hold (a+b)) d x d' y)/\Below W.heap.size W w':=
  fun W hW=>g_N _ (fun args W=>by simp [go_sem]) _ (fun a b ha hb W=>Fx.add_any a b ha hb W) p p2 p3 p4 n c n2 c2 n3 c3 n4 c4 d x d' y hd hx aa hy W (h1.up hW) (h2.up hW) (h3.up hW) (h4.up hW)
 obtain ⟨E,eE⟩:∃ E,b_C d x d' y=E:=⟨_,rfl⟩
 obtain ⟨D,eD⟩:∃ D,b_J d x d' y=D:=⟨_,rfl⟩
 obtain ⟨V,eV⟩:∃ V,b_U (fun a b=>Fx.hold (a+b)) d x d' y=V:=⟨_,rfl⟩
 rw [eE,eD,eV] at cE ⊢;clear eE eD eV h1 h2 h3 h4 hd hx aa hy;go_enter Tryz.func90,Tryz.ntmps90;go_wp2_with fail
 generalize I:World.alloc _ _=W0;have L:Hid (Below w.heap.size w W0):=by show Below _ _ _;rw [<- I];go_grown
 have XR:Hid (Cel W0 (w.heap.size+2) (.slice none 0 0) (.slice none 0 0)):=a_F I (by simp [go_sem]);clear I;refine (cE W0 L.out).mono ?_;rintro e w1 ⟨v1,rfl,⟨s1,t1,rfl,H,J⟩,M⟩;obtain ⟨ps,ns,U,rfl,_⟩:=H.nums.lst;obtain ⟨O,nt,R,rfl,_⟩:=J.nums.lst;have xr:=XR.out.up M;have BF:=a_k (a_c L.out M) (w.heap.size+2) (by omega) (.slice ps ns U) (.slice O nt R);have HF:Hid (TRes (set2 w1 (w.heap.size+2) (.slice ps ns U) (.slice O nt R)) w.heap.size (.agg #[.slice ps ns U,.slice O nt R]) D V):=(TRes.set H J (a_a XR.out.1)).low L.out.size;have cf:=xr.set (.slice ps ns U) (.slice O nt R);obtain ⟨r0,r1,r2,r3⟩:=xr;obtain ⟨y0,y1,_,_⟩:=cf;clear H J M;go_wp2;exact bodyPost_ret (v:=.tuple #[.agg #[.slice ps ns U,.slice O nt R],.int .i64 E]) (by simp [results,Tryz.results90,go_sem,y0,y1]) rfl ⟨_,rfl,HF.out,BF⟩
theorem n_Y (p p2 p3 p4:Option Addr) (n c n2 c2 n3 c3 n4 c4:Nat) (d x d' y:List Int) (hd:RI d) (hx:RI x) (aa:RI d') (hy:RI y) (w:World) (h1:Nums .i64 w (.slice p n c) d) (h2:Nums .i64 w (.slice p2 n2 c2) x) (h3:Nums .i64 w (.slice p3 n3 c3) d') (h4:Nums .i64 w (.slice p4 n4 c4) y):
  Calls Tryz.prog 119 #[.agg #[.slice p n c,.slice p2 n2 c2],.agg #[.slice p3 n3 c3,.slice p4 n4 c4]] w fun e w'=>∃ v',e = .returned (.tuple #[v',.int .i64 (b_C d x d' y)])/\TRes w' w.heap.size v' (b_J d x d' y) (b_U (fun a b=>Fx.hold (a - b)) d x d' y)/\Below w.heap.size w w':=by
 have cE:∀ W,Below w.heap.size w W->Calls Tryz.prog 117 #[.agg #[.slice p n c,.slice p2 n2 c2],.agg #[.slice p3 n3 c3,.slice p4 n4 c4],.func (.func 148) #[] #[]] W fun e w'=>∃ v',e = .returned (.tuple #[v',.int .i64 (b_C d x d' y)])/\TRes w' W.heap.size v' (b_J d x d' y) (b_U (fun a b=>Fx.hold (a - b)) d x d' y)/\Below W.heap.size W w':=
  fun W hW=>g_N _ (fun args W=>by simp [go_sem]) _ (fun a b ha hb W=>Fx.sub_any a b ha hb W) p p2 p3 p4 n c n2 c2 n3 c3 n4 c4 d x d' y hd hx aa hy W (h1.up hW) (h2.up hW) (h3.up hW) (h4.up hW)
 obtain ⟨E,eE⟩:∃ E,b_C d x d' y=E:=⟨_,rfl⟩
 obtain ⟨D,eD⟩:∃ D,b_J d x d' y=D:=⟨_,rfl⟩
 obtain ⟨V,eV⟩:∃ V,b_U (fun a b=>Fx.hold (a - b)) d x d' y=V:=⟨_,rfl⟩
 rw [eE,eD,eV] at cE ⊢;clear eE eD eV h1 h2 h3 h4 hd hx aa hy;go_enter Tryz.func119,Tryz.ntmps119;go_wp2_with fail
 generalize I:World.alloc _ _=W0;have L:Hid (Below w.heap.size w W0):=by show Below _ _ _;rw [<- I];go_grown
 have XR:Hid (Cel W0 (w.heap.size+2) (.slice none 0 0) (.slice none 0 0)):=a_F I (by simp [go_sem]);clear I;refine (cE W0 L.out).mono ?_;rintro e w1 ⟨v1,rfl,⟨s1,t1,rfl,H,J⟩,M⟩;obtain ⟨ps,ns,U,rfl,_⟩:=H.nums.lst;obtain ⟨O,nt,R,rfl,_⟩:=J.nums.lst;have xr:=XR.out.up M;have BF:=a_k (a_c L.out M) (w.heap.size+2) (by omega) (.slice ps ns U) (.slice O nt R);have HF:Hid (TRes (set2 w1 (w.heap.size+2) (.slice ps ns U) (.slice O nt R)) w.heap.size (.agg #[.slice ps ns U,.slice O nt R]) D V):=(TRes.set H J (a_a XR.out.1)).low L.out.size;have cf:=xr.set (.slice ps ns U) (.slice O nt R);obtain ⟨r0,r1,r2,r3⟩:=xr;obtain ⟨y0,y1,_,_⟩:=cf;clear H J M;go_wp2;exact bodyPost_ret (v:=.tuple #[.agg #[.slice ps ns U,.slice O nt R],.int .i64 E]) (by simp [results,Tryz.results119,go_sem,y0,y1]) rfl ⟨_,rfl,HF.out,BF⟩
theorem j_z (p p2 p3 p4:Option Addr) (n c n2 c2 n3 c3 n4 c4:Nat) (d x d' y:List Int) (hd:RI d) (hx:RI x) (aa:RI d') (hy:RI y) (w:World) (h1:Nums .i64 w (.slice p n c) d) (h2:Nums .i64 w (.slice p2 n2 c2) x) (h3:Nums .i64 w (.slice p3 n3 c3) d') (h4:Nums .i64 w (.slice p4 n4 c4) y):
  Calls Tryz.prog 120 #[.agg #[.slice p n c,.slice p2 n2 c2],.agg #[.slice p3 n3 c3,.slice p4 n4 c4]] w fun e w'=>∃ v',e = .returned (.tuple #[v',.int .i64 (b_C d x d' y)])/\TRes w' w.heap.size v' (b_J d x d' y) (b_U (Fx.mulI) d x d' y)/\Below w.heap.size w w':=by
 have cE:∀ W,Below w.heap.size w W->Calls Tryz.prog 117 #[.agg #[.slice p n c,.slice p2 n2 c2],.agg #[.slice p3 n3 c3,.slice p4 n4 c4],.func (.func 134) #[] #[]] W fun e w'=>∃ v',e = .returned (.tuple #[v',.int .i64 (b_C d x d' y)])/\TRes w' W.heap.size v' (b_J d x d' y) (b_U (Fx.mulI) d x d' y)/\Below W.heap.size W w':=
  fun W hW=>g_N _ (fun args W=>by simp [go_sem]) _ (fun a b ha hb W=>Fx.mul_any a b ha hb W) p p2 p3 p4 n c n2 c2 n3 c3 n4 c4 d x d' y hd hx aa hy W (h1.up hW) (h2.up hW) (h3.up hW) (h4.up hW)
 obtain ⟨E,eE⟩:∃ E,b_C d x d' y=E:=⟨_,rfl⟩
 obtain ⟨D,eD⟩:∃ D,b_J d x d' y=D:=⟨_,rfl⟩
 obtain ⟨V,eV⟩:∃ V,b_U (Fx.mulI) d x d' y=V:=⟨_,rfl⟩
 rw [eE,eD,eV] at cE ⊢;clear eE eD eV h1 h2 h3 h4 hd hx aa hy;go_enter Tryz.func120,Tryz.ntmps120;go_wp2_with fail
 generalize I:World.alloc _ _=W0;have L:Hid (Below w.heap.size w W0):=by show Below _ _ _;rw [<- I];go_grown
 have XR:Hid (Cel W0 (w.heap.size+2) (.slice none 0 0) (.slice none 0 0)):=a_F I (by simp [go_sem]);clear I;refine (cE W0 L.out).mono ?_;rintro e w1 ⟨v1,rfl,⟨s1,t1,rfl,H,J⟩,M⟩;obtain ⟨ps,ns,U,rfl,_⟩:=H.nums.lst;obtain ⟨O,nt,R,rfl,_⟩:=J.nums.lst;have xr:=XR.out.up M;have BF:=a_k (a_c L.out M) (w.heap.size+2) (by omega) (.slice ps ns U) (.slice O nt R);have HF:Hid (TRes (set2 w1 (w.heap.size+2) (.slice ps ns U) (.slice O nt R)) w.heap.size (.agg #[.slice ps ns U,.slice O nt R]) D V):=(TRes.set H J (a_a XR.out.1)).low L.out.size;have cf:=xr.set (.slice ps ns U) (.slice O nt R);obtain ⟨r0,r1,r2,r3⟩:=xr;obtain ⟨y0,y1,_,_⟩:=cf;clear H J M;go_wp2;exact bodyPost_ret (v:=.tuple #[.agg #[.slice ps ns U,.slice O nt R],.int .i64 E]) (by simp [results,Tryz.results120,go_sem,y0,y1]) rfl ⟨_,rfl,HF.out,BF⟩
end Go.Proofs.YtjlofobnmjompaaGreatDoor.Wd
