/- Tensors: what tens.each, Add, Sub, Mul h -/
import Derived.Test.YtkfpainpomobfaaGreatDoorR02
import Derived.Lib.TrailingZeros
set_option linter.unusedVariables false
set_option linter.unusedSimpArgs false
set_option maxHeartbeats 16000000
set_option maxRecDepth 16000
namespace Go.Proofs.YtkfpainpomobfaaGreatDoor.Wd
open Go.RowKit List World Nat
theorem RI.in {l:List Int} (h:RI l) (k:Nat) (A:k < l.length):Fx.InR (l.getD k 0):=h.at k A
theorem q_Z (K:FuncId) (ac:∀ args W,(callFunc K args).run Tryz.prog W = .ok (.enter K args) W) (op:Int->Int->Int) (cK:∀ a b,Fx.InR a->Fx.InR b->∀ W,Calls Tryz.prog K #[.int .i64 a,.int .i64 b] W fun e w'=>e = .returned (.int .i64 (op a b))/\w'=W)
  (p p2 p3 p4:Option Addr) (n c n2 c2 n3 c3 n4 c4:Nat) (d x d' y:List Int) (hd:RI d) (hx:RI x) (O:RI d') (hy:RI y) (w:World) (h1:Nums .i64 w (.slice p n c) d) (h2:Nums .i64 w (.slice p2 n2 c2) x) (h3:Nums .i64 w (.slice p3 n3 c3) d') (h4:Nums .i64 w (.slice p4 n4 c4) y)
  (R:¬ (isP d x/\isP d' y/\b_c d d'=0)):
  Calls Tryz.prog 145 #[.agg #[.slice p n c,.slice p2 n2 c2],.agg #[.slice p3 n3 c3,.slice p4 n4 c4],.func (.func K) #[] #[]] w fun e w'=>∃ v',e = .returned (.tuple #[v',.int .i64 (c_8 d x d' y)])/\TRes w' w.heap.size v' (d_l d x d' y) (d_m op d x d' y)/\Bw w w':=by
 have cA:=fun W (hW:Bw w W)=>b_h _ _ d x hd W (h1.up hW) (h2.up hW);have cB:=fun W (hW:Bw w W)=>b_h _ _ d' y O W (h3.up hW) (h4.up hW);have cJ:=fun W (hW:Bw w W)=>j_P _ _ d d' hd O W (h1.up hW) (h3.up hW);by_cases Z:isP d x
 ·rw [decide_eq_true Z] at cA;by_cases hb:isP d' y
  ·rw [decide_eq_true hb] at cB;have hE:b_c d d'≠0:=fun h=>R ⟨Z,hb,h⟩;obtain ⟨e1,e2,e3⟩:=j_X (op:=op) ⟨Z,hb⟩ hE;rw [e1,e2,e3];obtain ⟨E,eE⟩:∃ E,b_c d d'=E:=⟨_,rfl⟩
   obtain ⟨JL,eJ⟩:∃ JL,b_t d d'=JL:=⟨_,rfl⟩
   rw [eE] at hE cJ ⊢;rw [eJ] at cJ;have ad:(E != 0)=true:=by simp [hE]
   clear eE eJ e1 e2 e3 Z hb R h1 h2 h3 h4 hd hx O hy cK;go_enter Tryz.func145,Tryz.ntmps145;go_wp2_with fail
   generalize I:alloc _ _=W0;obtain ⟨L,XA,XB,XR⟩:=s_d I;clear I;refine (cA W0 L).mono ?_;rintro e w1 ⟨rfl,H⟩;have A:=b_5 (a_c L H) H;clear H;have xb:=XB.out.up A.2;obtain ⟨b0,b1,_,_⟩:=xb;go_wp2_with fail
   refine (cB w1 A.1).mono ?_;rintro e w2 ⟨rfl,M⟩;have J:=b_5 (a_c A.1 M) (a_c A.2 M);clear M b0 b1;have xa:=XA.out.up J.2;have xb:=XB.out.up J.2;obtain ⟨a0,a1,_,_⟩:=xa;obtain ⟨b0,b1,_,_⟩:=xb;go_wp2_with fail
   refine (cJ w2 J.1).mono ?_;rintro e w3 ⟨vj,rfl,ab,V⟩;have aa:=b_5 (a_c J.1 V) (a_c J.2 V);have ae:Hid (OwnK .i64 3 w3 w2.heap.size vj JL/\Bw w2 w3):=⟨ab,V⟩
   clear V ab a0 a1 b0 b1;obtain ⟨BF,r0,r1,r2,r3,y0,y1⟩:=i_N XR aa.1 aa.2 (by omega);go_wp2;exact brn E (by simp [results,Tryz.results145,go_sem,y0,y1]) ⟨_,rfl,TRes.none _ _,BF⟩
  ·rw [decide_eq_false hb] at cB;obtain ⟨e1,e2,e3⟩:=f_6 (op:=op) (d:=d) (x:=x) (d':=d') (y:=y) fun h=>hb h.2;rw [e1,e2,e3];clear e1 e2 e3 Z hb R h1 h2 h3 h4 hd hx O hy cK cJ;go_enter Tryz.func145,Tryz.ntmps145;go_wp2_with fail
   generalize I:alloc _ _=W0;obtain ⟨L,XA,XB,XR⟩:=s_d I;clear I;refine (cA W0 L).mono ?_;rintro e w1 ⟨rfl,H⟩;have A:=b_5 (a_c L H) H;clear H;have xb:=XB.out.up A.2;obtain ⟨b0,b1,_,_⟩:=xb;go_wp2_with fail
   refine (cB w1 A.1).mono ?_;rintro e w2 ⟨rfl,M⟩;have J:=b_5 (a_c A.1 M) (a_c A.2 M);clear M b0 b1;obtain ⟨BF,r0,r1,r2,r3,y0,y1⟩:=i_N XR J.1 J.2 (by omega);go_wp2;exact brn 1 (by simp [results,Tryz.results145,go_sem,y0,y1]) ⟨_,rfl,TRes.none _ _,BF⟩
 ·rw [decide_eq_false Z] at cA;obtain ⟨e1,e2,e3⟩:=f_6 (op:=op) (d:=d) (x:=x) (d':=d') (y:=y) fun h=>Z h.1;rw [e1,e2,e3];clear e1 e2 e3 Z R h1 h2 h3 h4 hd hx O hy cK cJ cB;go_enter Tryz.func145,Tryz.ntmps145;go_wp2_with fail
  generalize I:alloc _ _=W0;obtain ⟨L,XA,XB,XR⟩:=s_d I;clear I;refine (cA W0 L).mono ?_;rintro e w1 ⟨rfl,H⟩;have A:=b_5 (a_c L H) H;clear H;obtain ⟨BF,r0,r1,r2,r3,y0,y1⟩:=i_N XR A.1 A.2 (by omega);go_wp2;exact brn 1 (by simp [results,Tryz.results145,go_sem,y0,y1]) ⟨_,rfl,TRes.none _ _,BF⟩
theorem o_Q (K:FuncId) (aw:∀ args W,(callFunc K args).run Tryz.prog W = .ok (.enter K args) W) (op:Int->Int->Int) (cK:∀ a b,Fx.InR a->Fx.InR b->∀ W,Calls Tryz.prog K #[.int .i64 a,.int .i64 b] W fun e M=>e = .returned (.int .i64 (op a b))/\M=W)
  (p p2 p3 p4:Option Addr) (n c n2 c2 n3 c3 n4 c4:Nat) (d x d' y:List Int) (hd:RI d) (hx:RI x) (aD:RI d') (hy:RI y) (w:World) (h1:Nums .i64 w (.slice p n c) d) (h2:Nums .i64 w (.slice p2 n2 c2) x) (h3:Nums .i64 w (.slice p3 n3 c3) d') (h4:Nums .i64 w (.slice p4 n4 c4) y)
  (a b J:List Nat) (R:Joint d x d' y a b J):
  Calls Tryz.prog 145 #[.agg #[.slice p n c,.slice p2 n2 c2],.agg #[.slice p3 n3 c3,.slice p4 n4 c4],.func (.func K) #[] #[]] w fun e M=>∃ v',e = .returned (.tuple #[v',.int .i64 (c_8 d x d' y)])/\TRes M w.heap.size v' (d_l d x d' y) (d_m op d x d' y)/\Bw w M:=by
 have cA:=fun W (L:Bw w W)=>b_h _ _ d x hd W (h1.up L) (h2.up L);have cB:=fun W (L:Bw w W)=>b_h _ _ d' y aD W (h3.up L) (h4.up L);have cJ:=fun W (L:Bw w W)=>j_P _ _ d d' hd aD W (h1.up L) (h3.up L);obtain ⟨e1,e2,e3⟩:=R.E (op:=op);rw [e1,e2,e3];have aL:isP d x:=by rw [R.da];unfold isP;rw [a_n];exact ⟨R.ga,R.lx⟩
 have aW:isP d' y:=by rw [R.db];unfold isP;rw [a_n];exact ⟨R.gb,R.ly⟩
 rw [decide_eq_true aL] at cA;rw [decide_eq_true aW] at cB;rw [R.je,R.jn] at cJ;obtain ⟨JL,eJ⟩:∃ JL,itl J=JL:=⟨_,rfl⟩
 obtain ⟨V,eV⟩:∃ V,((range (a_f J)).map fun i=>op (x.getD (c_d a J i) 0) (y.getD (c_d b J i) 0))=V:=⟨_,rfl⟩
 obtain ⟨N,eN⟩:∃ N,a_f J=N:=⟨_,rfl⟩
 rw [eJ] at cJ ⊢;rw [eV];have A:Hid (Joint d x d' y a b J/\itl J=JL/\((range (a_f J)).map fun i=>op (x.getD (c_d a J i) 0) (y.getD (c_d b J i) 0))=V/\a_f J=N/\V.length=N):=⟨R,eJ,eV,eN,by rw [<- eV,<- eN];simp⟩
 have hN:1<=N/\N<=4096:=by rw [<- eN];exact ⟨R.gJ.pos,R.gJ.2.2⟩
 have a8:1<=(N:Int)/\(N:Int)<=4096:=by omega
 have HR:Hid (RI x/\RI y):=⟨hx,hy⟩
 have aH:Hid (∀ args W,(callFunc K args).run Tryz.prog W = .ok (.enter K args) W):=aw;have aY:Hid (∀ a b,Fx.InR a->Fx.InR b->∀ W,Calls Tryz.prog K #[.int .i64 a,.int .i64 b] W fun e M=>e = .returned (.int .i64 (op a b))/\M=W):=cK;have H0:Hid (Nums .i64 w (.slice p n c) (itl a)/\Nums .i64 w (.slice p2 n2 c2) x/\Nums .i64 w (.slice p3 n3 c3) (itl b)/\Nums .i64 w (.slice p4 n4 c4) y):=⟨by rw [<- R.da];exact h1,h2,by rw [<- R.db];exact h3,h4⟩
 clear e1 e2 e3 aL aW eJ eV eN h1 h2 h3 h4 hd hx aD hy cK R aw;go_enter Tryz.func145,Tryz.ntmps145;go_wp2_with fail
 generalize aI:alloc _ _=W0;obtain ⟨az,XA,XB,XR⟩:=s_d aI;clear aI;refine (cA W0 az).mono ?_;rintro e w1 ⟨rfl,ay⟩;have aj:=b_5 (a_c az ay) ay;clear ay;have xb:=XB.out.up aj.2;obtain ⟨b0,b1,_,_⟩:=xb;go_wp2_with fail
 refine (cB w1 aj.1).mono ?_;rintro e w2 ⟨rfl,ax⟩;have ad:=b_5 (a_c aj.1 ax) (a_c aj.2 ax);clear ax b0 b1;have xa:=XA.out.up ad.2;have xb:=XB.out.up ad.2;obtain ⟨a0,a1,_,_⟩:=xa;obtain ⟨b0,b1,_,_⟩:=xb;go_wp2_with fail
 refine (cJ w2 ad.1).mono ?_;rintro e w3 ⟨vj,rfl,aR,ak⟩;have ae:=b_5 (a_c ad.1 ak) (a_c ad.2 ak);have am:Hid (OwnK .i64 3 w3 w2.heap.size vj JL/\Bw w2 w3):=⟨aR,ak⟩
 clear ak aR a0 a1 b0 b1;have cZ:=size_any vj JL (by rw [<- A.2.1];exact e_I A.1.gJ.le) w3 am.1.nums;rw [<- A.2.1,a_n,a_T A.1.gJ,A.2.2.2.1] at cZ;go_wp2_with fail
 refine cZ.mono ?_;rintro e w9 ⟨rfl,rfl⟩;clear cZ;go_wp2_with (at_make;refine a_F l_5 (by decide) _ rfl (.tmp 36) (.tmp 36) rfl .i64 .i64 N N N rfl rfl rfl rfl (by omega) w.heap.size w ae.1.size ae.1 ?_;intro w4 an B4 a3;clear a3)
 have ac:=b_5 (a_c ae.1 B4) (a_c ae.2 B4);have al:Hid (OwnK .i64 3 w4 w2.heap.size vj JL):=am.1.up B4;obtain ⟨g,hg⟩:∃ g,w9.heap.size=g:=⟨_,rfl⟩
 rw [hg] at an;have Hg:Hid (W0.heap.size<=g/\w2.heap.size<=g/\g < w4.heap.size/\w9.heap.size=g):=⟨by rw [<- hg];exact ae.2.size,by rw [<- hg];exact am.2.size,an.size,hg⟩
 have aJ:∀ W,Bw w4 W->Calls Tryz.prog 174 #[.slice p n c,vj] W fun e M=>∃ v',e = .returned v'/\OwnK .i64 3 M w4.heap.size v' (itl (c_v a J))/\Bw W M:=fun W L=>by
  refine (g_M _ _ a J A.1.ga A.1.gJ (d_z A.1.ja) W (H0.1.up (a_c ac.1 L)) ?_).mono ?_
  ·rw [A.2.1];exact (al.out.up L).nums
  ·rintro e M ⟨v',rfl,h,hb⟩;exact ⟨v',rfl,h.low L.size,hb⟩
 have aU:∀ W,Bw w4 W->Calls Tryz.prog 174 #[.slice p3 n3 c3,vj] W fun e M=>∃ v',e = .returned v'/\OwnK .i64 3 M w4.heap.size v' (itl (c_v b J))/\Bw W M:=fun W L=>by
  refine (g_M _ _ b J A.1.gb A.1.gJ (d_z A.1.jb) W (H0.2.2.1.up (a_c ac.1 L)) ?_).mono ?_
  ·rw [A.2.1];exact (al.out.up L).nums
  ·rintro e M ⟨v',rfl,h,hb⟩;exact ⟨v',rfl,h.low L.size,hb⟩
 have xa:=XA.out.up ac.2;have xb:=XB.out.up ac.2;obtain ⟨a0,a1,_,_⟩:=xa;obtain ⟨b0,b1,_,_⟩:=xb;have z0:=a_b a0;have z1:=a_b b0;clear B4;haveI:Nonempty World:=⟨w⟩
 go_wp2_with fail
 refine rel [⟨3,41,fun v W=>OwnK .i64 3 W w4.heap.size v (itl (c_v a J))⟩,⟨7,45,fun v W=>OwnK .i64 3 W w4.heap.size v (itl (c_v b J))⟩] 8 76 (by kernel_rfl) rfl rfl (by kernel_rfl) (by rfl) ?_ ?_
 ·exact upC (fun _ _ _=>OwnK.up) (upC (fun _ _ _=>OwnK.up) upN)
 apply Exists.intro;refine ⟨fun x=>?_,?_,?_⟩
 ·simp only [take_succ_cons,take_zero]
  iterate 3
   apply c_w;rfl;rfl
   ·intro F hF hf K hK hFc hFf
    go_big_quiet_op
    exact hK
   (try simp only [a_v])
  refine c_g rfl rfl ?_ ?_
  ·intro F hF hf d hFc hFf;simp [a_j,a_e,go_sem];refine (aJ _ (hF.below d)).mono ?_;rintro e' w8 ⟨v8,rfl,h8,aA⟩;exact ⟨_,rfl,h8,aA⟩
  iterate 3
   (try simp only [a_v])
   apply c_w;rfl;rfl
   ·intro F hF hf K hK hFc hFf
    go_big_quiet_op
    exact hK
  (try simp only [a_v])
  refine c_g rfl rfl ?_ ?_
  ·intro F hF hf d hFc hFf;simp [a_j,a_e,go_sem];refine (aU _ (hF.below d)).mono ?_;rintro e' w8 ⟨v8,rfl,h8,aA⟩;exact ⟨_,rfl,h8,aA⟩
  (try simp only [a_v])
  refine b_A ?_;exact rfl
 ·exact fun x=>rfl
 ·intro w5 xs ab hf;simp only [drop_succ_cons,drop_zero];have aq:=hf _ mS;have ao:=hf _ (mC mS);obtain ⟨fa,aO⟩:∃ fa,xs 3=fa:=⟨_,rfl⟩
  obtain ⟨fb,aT⟩:∃ fb,xs 7=fb:=⟨_,rfl⟩
  simp only [aO,aT] at aq ao ⊢;clear aO aT hf;obtain ⟨pa,na,ca,rfl,af⟩:=aq.nums.lst;obtain ⟨pb,O,cb,rfl,ag⟩:=ao.nums.lst;obtain rfl:na=N:=by rw [<- af.1,a_p,f_Z,A.2.2.2.1]
  obtain rfl:O=na:=by rw [<- ag.1,a_p,f_Z,A.2.2.2.1]
  have ap:Hid (OwnK .i64 3 w5 w4.heap.size (.slice pa O ca) (itl (c_v a J))/\OwnK .i64 3 w5 w4.heap.size (.slice pb O cb) (itl (c_v b J))/\Bw w4 w5):=⟨aq,ao,ab⟩
  have ar:=b_5 (a_c ac.1 ab) (a_c ac.2 ab);have aX:=XA.out.up ar.2;have aG:=XB.out.up ar.2;have aP:=XR.out.up ar.2;have aF:Hid (Cel w5 w.heap.size (.slice p n c) (.slice p2 n2 c2)/\Cel w5 (w.heap.size+1) (.slice p3 n3 c3) (.slice p4 n4 c4)/\Cel w5 (w.heap.size+2) (.slice none 0 0) (.slice none 0 0)):=⟨aX,aG,aP⟩
  have hz:=a_b XR.1
  have aZ:Hid (OwnK .i64 48 w5 g (.slice (some ⟨g,0,none⟩) O O) (b_l V 0)):=by
   show OwnK _ _ _ _ _ _;rw [a_W,A.2.2.2.2];exact an.out.up ab
  have aM:Hid (OwnK .i64 3 w5 w2.heap.size vj JL):=al.out.up ab;have Hz:Hid (w.heap.size+2 < W0.heap.size):=hz;rw [hg];clear aq ao ab af ag aX aG aP a0 a1 b0 b1 z0 z1 aJ aU an al hg hz;go_wp2_with fail
  go_loopg [48] O (fun gg i wr=>∃ (k:Nat),k<=O/\gg=O - k/\i = .int .i64 (k:Int)/\Hid (OwnK .i64 48 wr g (.slice (some ⟨g,0,none⟩) O O) (b_l V k))/\Hid (Bw w wr/\Stay g w5 wr))
  case atStart=>exact ⟨0,by omega,by omega,by first|rfl|simp,aZ,ar.1,Stay.refl _ _⟩
  case round=>
   obtain ⟨k,hk,hg,rfl,aC,H⟩:=hrel;obtain ⟨R1,a4⟩:∃ R1:World,R1=wr:=⟨_,rfl⟩
   subst a4;by_cases ah:k < O
   ·have a9:(k:Int) < (O:Int):=by omega
    have a5:=(ap.1.nums.stay H.2 (ap.1.off Hg.2.2.1)).lst;have a6:=(ap.2.1.nums.stay H.2 (ap.2.1.off Hg.2.2.1)).lst;obtain ⟨_,_,_,e4,af⟩:=a5;cases e4;obtain ⟨_,_,_,e4,ag⟩:=a6;cases e4;obtain ⟨qa,oa,rfl,aE⟩:=af.2 k ah;obtain ⟨qb,ob,rfl,I⟩:=ag.2 k ah;have aa:k < a_f J:=by rw [A.2.2.2.1];exact ah
    rw [a_K,h_0 A.1.ga A.1.gJ A.1.fa A.1.ja k aa] at aE;rw [a_K,h_0 A.1.gb A.1.gJ A.1.fb A.1.jb k aa] at I;have ia:=f_x A.1.ga.2.1 A.1.gJ.2.1 A.1.fa A.1.ja k aa;have ib:=f_x A.1.gb.2.1 A.1.gJ.2.1 A.1.fb A.1.jb k aa;obtain ⟨_,_,_,e4,HX⟩:=(H0.2.1.up H.1).lst;cases e4;obtain ⟨_,_,_,e4,HY⟩:=(H0.2.2.2.up H.1).lst;cases e4;obtain ⟨i,ei⟩:∃ i,c_d a J k=i:=⟨_,rfl⟩
    obtain ⟨j,ej⟩:∃ j,c_d b J k=j:=⟨_,rfl⟩
    rw [ei] at aE ia;rw [ej] at I ib;rw [<- A.1.lx,HX.1] at ia;rw [<- A.1.ly,HY.1] at ib;obtain ⟨qx,ox,rfl,aV⟩:=HX.2 i ia;obtain ⟨qy,oy,rfl,aN⟩:=HY.2 j ib;have bc:(i:Int) < (n2:Int):=by omega
    have bb:(j:Int) < (n4:Int):=by omega
    have rx:=HR.1.in i (by rw [HX.1];exact ia);have ry:=HR.2.in j (by rw [HY.1];exact ib);obtain ⟨X,eX⟩:∃ X,x.getD i 0=X:=⟨_,rfl⟩
    obtain ⟨Y,eY⟩:∃ Y,y.getD j 0=Y:=⟨_,rfl⟩
    rw [eX] at aV rx;rw [eY] at aN ry;obtain ⟨Z,eZ⟩:∃ Z,op X Y=Z:=⟨_,rfl⟩
    have HZ:Hid (V.getD k 0=Z):=by
     show _=_;rw [<- A.2.2.1,a_J _ _ _ _ aa,ei,ej,eX,eY,eZ]
    have cz:∀ W,Calls Tryz.prog K #[.int .i64 X,.int .i64 Y] W fun e M=>e = .returned (.int .i64 Z)/\M=W:=fun W=>by rw [<- eZ];exact aY.out X Y rx ry W
    have av:w.heap.size≠g:=by have:=Hz.out;have:=Hg.1;omega
    have au:w.heap.size+1≠g:=by have:=Hz.out;have:=Hg.1;omega
    obtain ⟨a0,a1,_,_⟩:=aF.1.stay H.2 av;obtain ⟨b0,b1,_,_⟩:=aF.2.1.stay H.2 au;have z0:=a_b a0;have z1:=a_b b0;have z2:=a_b aE;have z3:=a_b I;have z4:=a_b aV;have z5:=a_b aN;have z6:=aC.size;have Hk:Hid (k < V.length):=by show _ < _;rw [A.2.2.2.2];exact ah
    clear eX eY eZ ei ej af ag HX HY av au aa ia ib;go_wp2_with fail
    apply e_K 21 76 (by kernel_rfl) rfl rfl (by kernel_rfl)
    ·intro F hF hFc hFf;simp only [take_succ_cons,take_zero]
     repeat (go_big_quiet_step ((rw [aH.out];exact ⟨rfl,hF.same (cz _)⟩)))
     refine wpQuiet_nil ?_;exact rfl
    ·intro W1 I;simp only [drop_succ_cons,drop_zero];have aB:=aC.out.up I;obtain ⟨a7,ba⟩:=aB.cell (by rw [a_y];exact A.2.2.2.2) k ah
     have H5:Hid (OwnK .i64 48 (W1.setCell ⟨g,k,none⟩ (.int .i64 Z)) g (.slice (some ⟨g,0,none⟩) O O) (b_l V (k+1))):=by
      have:=aB.store (by rw [a_y];exact A.2.2.2.2) k Z;rw [<- HZ.out,a_9 V k Hk.out] at this;rw [<- HZ.out];exact this
     have a2:w.heap.size<=g:=by have:=Hz.out;have:=Hg.1;omega
     have H6:Hid (Bw w (W1.setCell ⟨g,k,none⟩ (.int .i64 Z))/\Stay g w5 (W1.setCell ⟨g,k,none⟩ (.int .i64 Z))):=⟨(a_c H.1 I).setCell (p:=⟨g,k,none⟩) a2 _,(H.2.up I).set _ _⟩
     clear aB I cz z0 z1 z2 z3 z4 z5 z6 a0 a1 b0 b1;go_wp2;go_roundg (O - (k+1))
     case measure=>omega
     case rel=>exact ⟨k+1,by omega,rfl,by first|rfl|simp,H5,H6⟩
   ·obtain rfl:k=O:=by omega
    obtain ⟨pj,nj,cj,rfl,_⟩:=aM.out.nums.lst;have aS:w.heap.size+2≠g:=by have:=Hz.out;have:=Hg.1;omega
    have xr:=aF.2.2.stay H.2 aS;have ai:=aC.out;rw [<- A.2.2.2.2,a_0,A.2.2.2.2] at ai;have aQ:=aM.out.stay H.2 (am.1.off_new (by rw [Hg.2.2.2];exact Nat.le_refl _))
    have HF:Hid (TRes (set2 R1 (w.heap.size+2) (.slice pj nj cj) (.slice (some ⟨g,0,none⟩) k k)) w.heap.size (.agg #[.slice pj nj cj,.slice (some ⟨g,0,none⟩) k k]) JL V/\Bw w (set2 R1 (w.heap.size+2) (.slice pj nj cj) (.slice (some ⟨g,0,none⟩) k k))):=by
     refine ⟨(TRes.set (aQ.low ad.2.size) (ai.low Hg.1) Hz.out).low az.size,a_q H.1 _ (by omega) _ _⟩
    have cf:=xr.set (.slice pj nj cj) (.slice (some ⟨g,0,none⟩) k k);obtain ⟨r0,r1,r2,r3⟩:=xr;obtain ⟨y0,y1,_,_⟩:=cf;clear ai aQ;go_wp2;exact bodyPost_ret (v:=.tuple #[.agg #[.slice pj nj cj,.slice (some ⟨g,0,none⟩) k k],.int .i64 0]) (by simp [results,Tryz.results145,go_sem,y0,y1]) rfl ⟨_,rfl,HF.out⟩
theorem j_6 (K:FuncId) (A:∀ args W,(callFunc K args).run Tryz.prog W = .ok (.enter K args) W) (op:Int->Int->Int) (cK:∀ a b,Fx.InR a->Fx.InR b->∀ W,Calls Tryz.prog K #[.int .i64 a,.int .i64 b] W fun e Z=>e = .returned (.int .i64 (op a b))/\Z=W)
  (p p2 R L:Option Addr) (n c O I V H M c4:Nat) (d x d' y:List Int) (hd:RI d) (hx:RI x) (E:RI d') (hy:RI y) (w:World) (h1:Nums .i64 w (.slice p n c) d) (h2:Nums .i64 w (.slice p2 O I) x) (h3:Nums .i64 w (.slice R V H) d') (h4:Nums .i64 w (.slice L M c4) y):
  Calls Tryz.prog 145 #[.agg #[.slice p n c,.slice p2 O I],.agg #[.slice R V H,.slice L M c4],.func (.func K) #[] #[]] w fun e Z=>∃ v',e = .returned (.tuple #[v',.int .i64 (c_8 d x d' y)])/\TRes Z w.heap.size v' (d_l d x d' y) (d_m op d x d' y)/\Bw w Z:=by
 by_cases h:isP d x/\isP d' y/\b_c d d'=0
 ·obtain ⟨a,b,J,hJ⟩:=q_O ⟨h.1,h.2.1⟩ h.2.2;exact o_Q K A op cK p p2 R L n c O I V H M c4 d x d' y hd hx E hy w h1 h2 h3 h4 a b J hJ
 ·exact q_Z K A op cK p p2 R L n c O I V H M c4 d x d' y hd hx E hy w h1 h2 h3 h4 h
theorem o_R (p p2 p3 p4:Option Addr) (n c n2 c2 n3 c3 n4 c4:Nat) (d x d' y:List Int) (hd:RI d) (hx:RI x) (aa:RI d') (hy:RI y) (w:World) (h1:Nums .i64 w (.slice p n c) d) (h2:Nums .i64 w (.slice p2 n2 c2) x) (h3:Nums .i64 w (.slice p3 n3 c3) d') (h4:Nums .i64 w (.slice p4 n4 c4) y):
  Calls Tryz.prog 116 #[.agg #[.slice p n c,.slice p2 n2 c2],.agg #[.slice p3 n3 c3,.slice p4 n4 c4]] w fun e Z=>∃ v',e = .returned (.tuple #[v',.int .i64 (c_8 d x d' y)])/\TRes Z w.heap.size v' (d_l d x d' y) (d_m (fun a b=>Fx.hold (a+b)) d x d' y)/\Bw w Z:=by
 have cE:∀ W,Bw w W->Calls Tryz.prog 145 #[.agg #[.slice p n c,.slice p2 n2 c2],.agg #[.slice p3 n3 c3,.slice p4 n4 c4],.func (.func 146) #[] #[]] W fun e Z=>∃ v',e = .returned (.tuple #[v',.int .i64 (c_8 d x d' y)])/\TRes Z W.heap.size v' (d_l d x d' y) (d_m (fun a b=>Fx.hold (a+b)) d x d' y)/\Bw W Z:=
  fun W hW=>j_6 _ (fun args W=>by simp [go_sem]) _ (fun a b ha hb W=>Fx.add_any a b ha hb W) p p2 p3 p4 n c n2 c2 n3 c3 n4 c4 d x d' y hd hx aa hy W (h1.up hW) (h2.up hW) (h3.up hW) (h4.up hW)
 obtain ⟨E,eE⟩:∃ E,c_8 d x d' y=E:=⟨_,rfl⟩
 obtain ⟨D,eD⟩:∃ D,d_l d x d' y=D:=⟨_,rfl⟩
 obtain ⟨V,eV⟩:∃ V,d_m (fun a b=>Fx.hold (a+b)) d x d' y=V:=⟨_,rfl⟩
 rw [eE,eD,eV] at cE ⊢;clear eE eD eV h1 h2 h3 h4 hd hx aa hy;go_enter Tryz.func116,Tryz.ntmps116;go_wp2_with fail
 generalize A:alloc _ _=W0;have J:Hid (Bw w W0):=by show Below _ _ _;rw [<- A];go_grown
 have XR:Hid (Cel W0 (w.heap.size+2) (.slice none 0 0) (.slice none 0 0)):=e_W A (by simp [go_sem]);clear A;refine (cE W0 J).mono ?_;rintro e w1 ⟨v1,rfl,⟨s1,t1,rfl,I,L⟩,H⟩;obtain ⟨ps,ns,R,rfl,_⟩:=I.nums.lst;obtain ⟨M,O,ct,rfl,_⟩:=L.nums.lst;have xr:=XR.out.up H;have BF:=a_q (a_c J H) (w.heap.size+2) (by omega) (.slice ps ns R) (.slice M O ct);have HF:Hid (TRes (set2 w1 (w.heap.size+2) (.slice ps ns R) (.slice M O ct)) w.heap.size (.agg #[.slice ps ns R,.slice M O ct]) D V):=(TRes.set I L (a_b XR.1)).low J.size;have cf:=xr.set (.slice ps ns R) (.slice M O ct);obtain ⟨r0,r1,r2,r3⟩:=xr;obtain ⟨y0,y1,_,_⟩:=cf;clear I L H;go_wp2;exact bodyPost_ret (v:=.tuple #[.agg #[.slice ps ns R,.slice M O ct],.int .i64 E]) (by simp [results,Tryz.results116,go_sem,y0,y1]) rfl ⟨_,rfl,HF.out,BF⟩
theorem o_S (p p2 p3 p4:Option Addr) (n c n2 c2 n3 c3 n4 c4:Nat) (d x d' y:List Int) (hd:RI d) (hx:RI x) (aa:RI d') (hy:RI y) (w:World) (h1:Nums .i64 w (.slice p n c) d) (h2:Nums .i64 w (.slice p2 n2 c2) x) (h3:Nums .i64 w (.slice p3 n3 c3) d') (h4:Nums .i64 w (.slice p4 n4 c4) y):
  Calls Tryz.prog 118 #[.agg #[.slice p n c,.slice p2 n2 c2],.agg #[.slice p3 n3 c3,.slice p4 n4 c4]] w fun e Z=>∃ v',e = .returned (.tuple #[v',.int .i64 (c_8 d x d' y)])/\TRes Z w.heap.size v' (d_l d x d' y) (d_m (Fx.mulI) d x d' y)/\Bw w Z:=by
 have cE:∀ W,Bw w W->Calls Tryz.prog 145 #[.agg #[.slice p n c,.slice p2 n2 c2],.agg #[.slice p3 n3 c3,.slice p4 n4 c4],.func (.func 148) #[] #[]] W fun e Z=>∃ v',e = .returned (.tuple #[v',.int .i64 (c_8 d x d' y)])/\TRes Z W.heap.size v' (d_l d x d' y) (d_m (Fx.mulI) d x d' y)/\Bw W Z:=
  fun W hW=>j_6 _ (fun args W=>by simp [go_sem]) _ (fun a b ha hb W=>Fx.mul_any a b ha hb W) p p2 p3 p4 n c n2 c2 n3 c3 n4 c4 d x d' y hd hx aa hy W (h1.up hW) (h2.up hW) (h3.up hW) (h4.up hW)
 obtain ⟨E,eE⟩:∃ E,c_8 d x d' y=E:=⟨_,rfl⟩
 obtain ⟨D,eD⟩:∃ D,d_l d x d' y=D:=⟨_,rfl⟩
 obtain ⟨V,eV⟩:∃ V,d_m (Fx.mulI) d x d' y=V:=⟨_,rfl⟩
 rw [eE,eD,eV] at cE ⊢;clear eE eD eV h1 h2 h3 h4 hd hx aa hy;go_enter Tryz.func118,Tryz.ntmps118;go_wp2_with fail
 generalize A:alloc _ _=W0;have J:Hid (Bw w W0):=by show Below _ _ _;rw [<- A];go_grown
 have XR:Hid (Cel W0 (w.heap.size+2) (.slice none 0 0) (.slice none 0 0)):=e_W A (by simp [go_sem]);clear A;refine (cE W0 J).mono ?_;rintro e w1 ⟨v1,rfl,⟨s1,t1,rfl,I,L⟩,H⟩;obtain ⟨ps,ns,R,rfl,_⟩:=I.nums.lst;obtain ⟨M,O,ct,rfl,_⟩:=L.nums.lst;have xr:=XR.out.up H;have BF:=a_q (a_c J H) (w.heap.size+2) (by omega) (.slice ps ns R) (.slice M O ct);have HF:Hid (TRes (set2 w1 (w.heap.size+2) (.slice ps ns R) (.slice M O ct)) w.heap.size (.agg #[.slice ps ns R,.slice M O ct]) D V):=(TRes.set I L (a_b XR.1)).low J.size;have cf:=xr.set (.slice ps ns R) (.slice M O ct);obtain ⟨r0,r1,r2,r3⟩:=xr;obtain ⟨y0,y1,_,_⟩:=cf;clear I L H;go_wp2;exact bodyPost_ret (v:=.tuple #[.agg #[.slice ps ns R,.slice M O ct],.int .i64 E]) (by simp [results,Tryz.results118,go_sem,y0,y1]) rfl ⟨_,rfl,HF.out,BF⟩
def m_m (d x:List Int):Int:=if isP d x then 0 else 1
def m_n (d x:List Int):List Int:=if isP d x then d else []
def m_o (d x:List Int) (k:Int):List Int:=if isP d x then x.map fun y=>Fx.mulI y k else []
def l_c (d x d':List Int):Int:=if isP d x/\goodN (ntl d') then if a_f (ntl d')=x.length then 0 else 4 else 1
def m_p (d x d':List Int):List Int:=if (isP d x/\goodN (ntl d'))/\a_f (ntl d')=x.length then d' else []
def o_T (d x d':List Int):List Int:=if (isP d x/\goodN (ntl d'))/\a_f (ntl d')=x.length then x else []
theorem i_c (p p2 p3:Option Addr) (n c n2 c2 n3 c3:Nat) (d x d':List Int) (hd:RI d) (ad:RI d') (w:World) (h1:Nums .i64 w (.slice p n c) d) (h2:Nums .i64 w (.slice p2 n2 c2) x) (h3:Nums .i64 w (.slice p3 n3 c3) d'):
  Calls Tryz.prog 129 #[.agg #[.slice p n c,.slice p2 n2 c2],.slice p3 n3 c3] w fun e L=>∃ O,e = .returned (.tuple #[O,.int .i64 (l_c d x d')])/\TRes L w.heap.size O (m_p d x d') (o_T d x d')/\Bw w L:=by
 have cA:=fun W (M:Bw w W)=>b_h _ _ d x hd W (h1.up M) (h2.up M);have cB:=fun W (M:Bw w W)=>c_I _ d' ad W (h3.up M);have cZ:=fun W (M:Bw w W)=>size_any _ d' ad W (h3.up M);have HN:Hid (Nums .i64 w (.slice p n c) d/\Nums .i64 w (.slice p2 n2 c2) x/\Nums .i64 w (.slice p3 n3 c3) d'):=⟨h1,h2,h3⟩
 obtain ⟨_,_,_,e4,HX⟩:=h2.lst;cases e4;unfold l_c m_p o_T;by_cases Z:(isP d x/\goodN (ntl d'))/\a_f (ntl d')=x.length
 ·obtain ⟨⟨hp,J⟩,hN⟩:=Z;rw [decide_eq_true hp] at cA;rw [decide_eq_true J] at cB;rw [a_T J] at cZ;rw [if_pos ⟨hp,J⟩];have ae:x.length<=4096:=by rw [hp.2];exact hp.1.2.2
  have HP:Hid (isP d x/\goodN (ntl d')/\x.length<=4096):=⟨hp,J,ae⟩
  rw [if_pos hN,if_pos ⟨⟨hp,J⟩,hN⟩,if_pos ⟨⟨hp,J⟩,hN⟩];rw [hN,HX.1] at cZ;clear hN h1 h2 h3 hd ad hp J ae;go_enter Tryz.func129,Tryz.ntmps129;go_wp2_with fail
  generalize R:alloc _ _=W0;obtain ⟨V,XA,XR⟩:=i_M R;clear R;refine (cA W0 V).mono ?_;rintro e w1 ⟨rfl,I⟩;have A:=b_5 (a_c V I) I;clear I;go_wp2_with fail
  refine (cB w1 A.1).mono ?_;rintro e w2 ⟨rfl,rfl⟩;clear cB;obtain ⟨a0,a1,_,_⟩:=XA.out.up A.2;have cz:∀ m,Calls Tryz.prog 115 #[.slice p3 n3 c3] (w2.drewN m) fun e L=>e = .returned (.int .i64 (n2:Int))/\L=w2.drewN m:=fun m=>cZ _ (a_i A.1 m);go_wp2_with fail
  go_quiet (exact Calls.quiet_of_same (cz _))
  generalize aj:drewN w2 nq=w5;have H:Hid (Bw w w5/\Bw W0 w5):=by rw [<- aj];exact ⟨a_i A.1 nq,a_i A.2 nq⟩
  clear a0 a1 aj;obtain ⟨a0,a1,_,_⟩:=XA.out.up H.2
  have am:∀ W,Bw w5 W->Calls Tryz.prog 46 #[.slice p3 n3 c3] W fun e L=>∃ O,e = .returned O/\OwnK .i64 3 L w5.heap.size O d'/\Bw W L:=fun W M=>by
   refine (c_m _ d' (by have:=HP.2.1.1;rw [a_O] at this;omega) W (HN.2.2.up (a_c H.1 M))).mono ?_;rintro e L ⟨O,rfl,h,hb⟩;exact ⟨O,rfl,h.low M.size,hb⟩
  have al:∀ W,Bw w5 W->Calls Tryz.prog 47 #[.slice p2 n2 c2] W fun e L=>∃ O,e = .returned O/\OwnK .i64 48 L w5.heap.size O x/\Bw W L:=fun W M=>by
   refine (g_J _ x (by have:=HP.2.2;omega) W (HN.2.1.up (a_c H.1 M))).mono ?_;rintro e L ⟨O,rfl,h,hb⟩;exact ⟨O,rfl,h.low M.size,hb⟩
  have z0:=a_b a0;haveI:Nonempty World:=⟨w⟩
  clear cz cZ cA;go_wp2_with fail
  refine rel [⟨1,23,fun v W=>OwnK .i64 3 W w5.heap.size v d'⟩,⟨4,26,fun v W=>OwnK .i64 48 W w5.heap.size v x⟩] 5 28 (by kernel_rfl) rfl rfl (by kernel_rfl) (by rfl) ?_ ?_
  ·exact upC (fun _ _ _=>OwnK.up) (upC (fun _ _ _=>OwnK.up) upN)
  apply Exists.intro;refine ⟨fun x=>?_,?_,?_⟩
  ·simp only [take_succ_cons,take_zero];apply c_w;rfl;rfl
   ·intro F hF hf K hK hFc hFf
    go_big_quiet_op
    exact hK
   (try simp only [a_v])
   refine e_j rfl rfl ?_ ?_
   ·intro F hF hf d_;have hFc:=hF.cell;have hFf:=hF.frozen;simp [a_j,a_e,go_sem];refine (am _ (hF.below d_)).mono ?_;rintro e' w8 ⟨v8,rfl,h8,af⟩;exact ⟨_,rfl,h8,af⟩
   iterate 2
    (try simp only [a_v])
    apply c_w;rfl;rfl
    ·intro F hF hf K hK hFc hFf
     go_big_quiet_op
     exact hK
   (try simp only [a_v])
   refine e_j rfl rfl ?_ ?_
   ·intro F hF hf d_;have hFc:=hF.cell;have hFf:=hF.frozen;simp [a_j,a_e,go_sem];refine (al _ (hF.below d_)).mono ?_;rintro e' w8 ⟨v8,rfl,h8,af⟩;exact ⟨_,rfl,h8,af⟩
   (try simp only [a_v])
   refine b_A ?_;exact rfl
  ·exact fun x=>rfl
  ·intro w6 xs ai hf;simp only [drop_succ_cons,drop_zero];have ab:=hf _ mS;have aa:=hf _ (mC mS);obtain ⟨fa,ak⟩:∃ fa,xs 1=fa:=⟨_,rfl⟩
   obtain ⟨fb,ah⟩:∃ fb,xs 4=fb:=⟨_,rfl⟩
   simp only [ak,ah] at ab aa ⊢;clear ak ah hf;obtain ⟨pa,na,ca,rfl,_⟩:=ab.nums.lst;obtain ⟨pb,nb,cb,rfl,_⟩:=aa.nums.lst
   have HF:Hid (TRes (set2 w6 (w.heap.size+1) (.slice pa na ca) (.slice pb nb cb)) w.heap.size (.agg #[.slice pa na ca,.slice pb nb cb]) d' x/\Bw w (set2 w6 (w.heap.size+1) (.slice pa na ca) (.slice pb nb cb))):=by
    exact ⟨(TRes.set ab aa (Nat.lt_of_lt_of_le (a_b XR.1) H.2.size)).low H.1.size,a_q (a_c H.1 ai) _ (by omega) _ _⟩
   clear ab aa a0 a1 z0;have xr:=(XR.out.up (a_c H.2 ai))
   have cf:=xr.set (.slice pa na ca) (.slice pb nb cb);obtain ⟨r0,r1,r2,r3⟩:=xr;obtain ⟨y0,y1,_,_⟩:=cf;go_wp2;exact bodyPost_ret (v:=.tuple #[.agg #[.slice pa na ca,.slice pb nb cb],.int .i64 0]) (by simp [results,Tryz.results129,go_sem,y0,y1]) rfl ⟨_,rfl,HF.out⟩
 obtain ⟨E,eE⟩:∃ E,(if isP d x/\goodN (ntl d') then if a_f (ntl d')=x.length then (0:Int) else 4 else 1)=E:=⟨_,rfl⟩
 rw [eE,if_neg Z,if_neg Z];have HE:Hid _:=eE;have HO:Hid _:=Z;clear eE Z h1 h2 h3 hd ad;go_enter Tryz.func129,Tryz.ntmps129;go_wp2_with fail
 generalize R:alloc _ _=W0;obtain ⟨V,XA,XR⟩:=i_M R;clear R;refine (cA W0 V).mono ?_;rintro e w1 ⟨rfl,I⟩;have A:=b_5 (a_c V I) I;clear I;by_cases hp:isP d x
 case' neg=>
  rw [decide_eq_false hp];have HC:Hid _:=HE.symm.trans (if_neg fun h=>hp h.1);have ac:=A;clear cA cB cZ
 case' pos=>
  rw [decide_eq_true hp];have ag:Hid _:=hp;clear hp;go_wp2_with fail
  refine (cB w1 A.1).mono ?_;rintro e w2 ⟨rfl,rfl⟩;by_cases J:goodN (ntl d')
  case' neg=>
   rw [decide_eq_false J];have HC:Hid _:=HE.symm.trans (if_neg fun h=>J h.2);have ac:=A;clear cA cB cZ
  case' pos=>
   rw [decide_eq_true J];rw [a_T J] at cZ;have hN:¬ a_f (ntl d')=x.length:=fun h=>HO.out ⟨⟨ag.out,J⟩,h⟩;have HC:Hid (E=4):=HE.symm.trans (by rw [if_pos ⟨ag.out,J⟩,if_neg hN]);obtain ⟨N,eN⟩:∃ N,a_f (ntl d')=N:=⟨_,rfl⟩
   rw [eN] at cZ hN;rw [HX.1] at hN;have an:((N:Int) != (n2:Int))=true:=by simp;omega
   have ao:¬ ((N:Int)=(n2:Int)):=by omega
   clear eN hN J;obtain ⟨a0,a1,_,_⟩:=XA.out.up A.2;have cz:∀ m,Calls Tryz.prog 115 #[.slice p3 n3 c3] (w2.drewN m) fun e L=>e = .returned (.int .i64 (N:Int))/\L=w2.drewN m:=fun m=>cZ _ (a_i A.1 m);go_wp2_with fail
   go_quiet (exact Calls.quiet_of_same (cz _))
   have ac:Hid (Bw w (w2.drewN nq)/\Bw W0 (w2.drewN nq)):=⟨a_i A.1 nq,a_i A.2 nq⟩
   clear cz a0 a1 cA cB cZ
 all_goals
  obtain ⟨BF,r0,r1,r2,r3,y0,y1⟩:=i_N XR ac.1 ac.2 (by omega);go_wp2;exact brn E (by simp [results,Tryz.results129,go_sem,y0,y1,HC.out]) ⟨_,rfl,TRes.none _ _,BF⟩
end Go.Proofs.YtkfpainpomobfaaGreatDoor.Wd
namespace Go.Proofs.YtkfpainpomobfaaGreatDoor.Wd
open Go.RowKit Fx List World Nat
/-- Two words that stand for a number. -/
def wd (v:Int):Value:=.agg #[.int .i64 (v / 18446744073709551616),.int .u64 (v % 18446744073709551616)]
def InW (v:Int):Prop:=-170141183460469231731687303715884105728<=v/\v < 170141183460469231731687303715884105728
def wr (v:Int):Int:=(v+170141183460469231731687303715884105728) % 340282366920938463463374607431768211456 - 170141183460469231731687303715884105728
theorem j_7 (v:Int):InW (wr v):=by unfold InW wr;omega
theorem s_f {v:Int} (h:InW v):wr v=v:=by unfold InW at h;unfold wr;omega
theorem InR.w {a:Int} (h:InR a):InW a:=by unfold InR at h;unfold InW;omega
theorem t_A (h l:Int) (H:0<=l/\l < 18446744073709551616):Value.agg #[.int .i64 h,.int .u64 l]=wd (h*18446744073709551616+l):=by
 unfold wd;have A:(h*18446744073709551616+l) / 18446744073709551616=h:=by omega
 have E:(h*18446744073709551616+l) % 18446744073709551616=l:=by omega
 rw [A,E]
theorem o_U {h l v:Int} (A:h=v / 18446744073709551616) (E:l=v % 18446744073709551616):Value.agg #[.int .i64 h,.int .u64 l]=wd v:=by
 subst A E;rfl
theorem s_g {h l v:Int} (A:h=v / 18446744073709551616) (E:l=v % 18446744073709551616):Ending.returned (.agg #[.int .i64 h,.int .u64 l]) = .returned (wd v):=by
 rw [o_U A E]
/-- A quotient, rounded: to the nearest, of two that are as near to the even one; on both sides of 0. -/
def rqI (x d:Int):Int:=if d < 2*(x % d)∨(2*(x % d)=d/\x / d % 2=1) then x / d+1 else x / d
theorem rqI_neg (x d:Int) (E:0 < d):rqI (-x) d = -rqI x d:=by
 obtain ⟨q,H⟩:∃ q,x / d=q:=⟨_,rfl⟩
 obtain ⟨r,A⟩:∃ r,x % d=r:=⟨_,rfl⟩
 have M:0<=r:=A ▸ Int.emod_nonneg x (by omega);have L:r < d:=A ▸ Int.emod_lt_of_pos x E;have I:d*q+r=x:=by rw [<- H,<- A];exact Int.mul_ediv_add_emod x d
 by_cases J:r=0
 ·have e:(-x) / d = -q/\(-x) % d=0:=by
   rw [Int.ediv_emod_unique E];refine ⟨?_,by omega,E⟩;rw [<- I,J,Int.mul_neg];omega
  unfold rqI;rw [e.1,e.2,H,A,J]
  split <;> split <;> omega
 ·have e:(-x) / d = -q - 1/\(-x) % d=d - r:=by
   rw [Int.ediv_emod_unique E];refine ⟨?_,by omega,by omega⟩;rw [<- I,Int.mul_sub,Int.mul_neg];omega
  unfold rqI;rw [e.1,e.2,H,A]
  split <;> split <;> omega
theorem dd (x:Int) {p q:Int} (hp:0 < p):x / p / q=x / (p*q):=by
 rw [Int.ediv_ediv,if_neg (fun c=>by omega),Int.sub_zero]
theorem j_8 (x p:Int) (hp:0 < p):x % (p*2)=x % p+p*(x / p % 2):=by
 have H:=Int.mul_ediv_add_emod x p;have E:=Int.mul_ediv_add_emod x (p*2);have A:=Int.mul_ediv_add_emod (x / p) 2;rw [dd x hp] at A;rw [Int.mul_assoc] at E;have:p*(x / p)=p*(2*(x / (p*2)))+p*(x / p % 2):=by rw [<- Int.mul_add,A]
 omega
/-- Rounding towards the lower one, then the half's bit, then what is below. -/
theorem rq_down (x:Int) (k:Nat) (hb:x / 2 ^ k % 2=0):rqI x (2 ^ (k+1))=x / 2 ^ (k+1):=by
 obtain ⟨p,A⟩:∃ p:Int,(2:Int) ^ k=p:=⟨_,rfl⟩
 have hp:0 < p:=A ▸ Int.pow_pos (by decide);have E:(2:Int) ^ (k+1)=p*2:=by rw [Int.pow_succ,A]
 rw [A] at hb;have H:x % (p*2)=x % p+p*(x / p % 2):=j_8 x p hp;unfold rqI;rw [E,H,hb];have:=Int.emod_lt_of_pos x hp;have:=Int.emod_nonneg x (show p≠0 by omega);rw [if_neg];omega
theorem rq_up (x:Int) (k:Nat) (hb:x / 2 ^ k % 2=1):rqI x (2 ^ (k+1))=x / 2 ^ (k+1)+(if x / 2 ^ (k+1) % 2=1∨x % 2 ^ k≠0 then 1 else 0):=by
 obtain ⟨p,A⟩:∃ p:Int,(2:Int) ^ k=p:=⟨_,rfl⟩
 have hp:0 < p:=A ▸ Int.pow_pos (by decide);have E:(2:Int) ^ (k+1)=p*2:=by rw [Int.pow_succ,A]
 rw [A] at hb ⊢;have H:x % (p*2)=x % p+p*(x / p % 2):=j_8 x p hp;unfold rqI;rw [E,H,hb];have:=Int.emod_lt_of_pos x hp;have:=Int.emod_nonneg x (show p≠0 by omega)
 split <;> split <;> omega
/-- The lower one, in its words. -/
theorem t_B (a:Int) (n:Nat):a / 2 ^ n / 18446744073709551616=a / 18446744073709551616 / 2 ^ n:=by
 rw [dd a (Int.pow_pos (by decide)),dd a (by decide),Int.mul_comm]
theorem s_h (a:Int) (n:Nat) (h:64<=n):a / 2 ^ n=a / 18446744073709551616 / 2 ^ (n - 64):=by
 rw [dd a (by decide),show (18446744073709551616:Int)=2 ^ 64 by decide,<- Int.pow_add,show 64+(n - 64)=n by omega]
theorem s_i (x y:Nat) (H:x < 18446744073709551616) (J:y < 18446744073709551616):bits .or .u64 (x:Int) (y:Int)=((x ||| y:Nat):Int):=by
 show IntKind.u64.wrap ((BitVec.ofInt 64 (x:Int) ||| BitVec.ofInt 64 (y:Int)).toNat:Int)=_
 have A:(BitVec.ofInt 64 (x:Int)).toNat=x:=by
  rw [BitVec.ofInt_natCast,BitVec.toNat_ofNat];exact mod_eq_of_lt (by omega)
 have E:(BitVec.ofInt 64 (y:Int)).toNat=y:=by
  rw [BitVec.ofInt_natCast,BitVec.toNat_ofNat];exact mod_eq_of_lt (by omega)
 have I:x ||| y < 2 ^ 64:=or_lt_two_pow (by omega) (by omega);rw [BitVec.toNat_or,A,E,IntKind.wrap_u64];omega
theorem o_V (x y:Int) (i:Nat) (I:i<=64) (H:0<=x) (E:x*2 ^ i < 18446744073709551616) (L:0<=y) (A:y < 2 ^ i):bits .or .u64 (x*2 ^ i) y=x*2 ^ i+y:=by
 obtain ⟨m,rfl⟩:=Int.eq_ofNat_of_zero_le H;obtain ⟨l,rfl⟩:=Int.eq_ofNat_of_zero_le L;have e:((m:Int)*2 ^ i)=((m*2 ^ i:Nat):Int):=by rw [Int.natCast_mul,Int.natCast_pow];rfl
 have M:l < 2 ^ i:=by
  have:((l:Nat):Int) < ((2 ^ i:Nat):Int):=by rw [Int.natCast_pow];exact A
  omega
 have J:2 ^ i<=2 ^ 64:=Nat.pow_le_pow_right (by decide) I;rw [e] at E ⊢;rw [s_i _ _ (by omega) (by omega),<- shiftLeft_eq,<- shiftLeft_add_eq_or_of_lt M];omega
theorem t_C (h l:Int) (n:Nat) (hn:n < 64) (J:0<=l/\l < 18446744073709551616):
  bits .or .u64 (h*2 ^ (64 - n) % 18446744073709551616) (l / 2 ^ n)=(h*18446744073709551616+l) / 2 ^ n % 18446744073709551616:=by
 obtain ⟨p,H⟩:∃ p:Int,(2:Int) ^ n=p:=⟨_,rfl⟩
 obtain ⟨c,E⟩:∃ c:Int,(2:Int) ^ (64 - n)=c:=⟨_,rfl⟩
 have hp:0 < p:=H ▸ Int.pow_pos (by decide);have R:0 < c:=E ▸ Int.pow_pos (by decide);have A:c*p=18446744073709551616:=by rw [<- H,<- E,<- Int.pow_add,show 64 - n+n=64 by omega];rfl
 have L:h*2 ^ (64 - n) % 18446744073709551616=(h % p)*2 ^ (64 - n):=by
  rw [E,<- A,Int.mul_comm c p,Int.mul_comm h c,Int.mul_comm p c,Int.mul_emod_mul_of_pos _ _ R,Int.mul_comm]
 have I:=Int.emod_nonneg h (show p≠0 by omega);have r1:=Int.emod_lt_of_pos h hp;have V:0<=l / p:=Int.ediv_nonneg J.1 (by omega);have M:l / p < c:=Int.ediv_lt_of_lt_mul hp (by rw [A];exact J.2)
 have m1:(h % p)*c < 18446744073709551616:=by
  have:(h % p+1)*c<=p*c:=Int.mul_le_mul_of_nonneg_right (by omega) (by omega);rw [Int.mul_comm p c,A,Int.add_mul] at this;omega
 rw [L,o_V _ _ _ (by omega) I (by rw [E];exact m1) (by rw [H];exact V) (by rw [E,H];exact M),E,H]
 have O:(h*18446744073709551616+l) / p=h*c+l / p:=by
  rw [<- A,<- Int.mul_assoc,Int.add_comm,Int.add_mul_ediv_right _ _ (by omega),Int.add_comm]
 have Z:h*c=(h / p)*18446744073709551616+(h % p)*c:=by
  have:=Int.mul_ediv_add_emod h p
  conv=>lhs;rw [<- this]
  rw [<- A,Int.add_mul,Int.mul_comm p (h / p),Int.mul_assoc,Int.mul_comm p c]
 rw [O,Z];have m2:0<=(h % p)*c:=Int.mul_nonneg I (by omega)
 have m3:(h % p)*c+l / p < 18446744073709551616:=by
  have:(h % p+1)*c<=p*c:=Int.mul_le_mul_of_nonneg_right (by omega) (by omega);rw [Int.mul_comm p c,A,Int.add_mul] at this;omega
 omega
/-- How many of the lowest bits are 0. -/
theorem p_1 (x k:Nat) (H:0 < x) (h:x < 18446744073709551616):Lib.ctz 64 x < k↔x % 2 ^ k≠0:=by
 obtain ⟨m,e,M⟩:=Lib.ctzFrom_spec 64 x H (by omega);have I:Lib.ctz 64 x=Lib.ctzFrom 64 x:=by unfold Lib.ctz;rw [if_neg (by omega)]
 rw [I];obtain ⟨z,L⟩:∃ z,Lib.ctzFrom 64 x=z:=⟨_,rfl⟩
 rw [L] at e ⊢;constructor
 ·intro J A;obtain ⟨q,E⟩:=dvd_of_mod_eq_zero A
  have:2 ^ k=2 ^ z*(2*2 ^ (k - z - 1)):=by
   rw [<- pow_succ',<- Nat.pow_add];congr 1;omega
  rw [this,Nat.mul_assoc] at E;rw [E] at e;have:=Nat.eq_of_mul_eq_mul_left (Nat.two_pow_pos z) e;rw [Nat.mul_assoc] at this;omega
 ·intro A;apply Classical.byContradiction;intro J;apply A;rw [e,show z=k+(z - k) by omega,Nat.pow_add,Nat.mul_assoc];exact mul_mod_right ..
end Go.Proofs.YtkfpainpomobfaaGreatDoor.Wd
