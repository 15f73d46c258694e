/- Tensors: what matm.Sum hands back. · Ten -/
import Derived.Test.YtkfpainpomobfaaGreatDoorR09
set_option linter.unusedVariables false
set_option linter.unusedSimpArgs false
set_option maxHeartbeats 16000000
set_option maxRecDepth 16000
namespace Go.Proofs.YtkfpainpomobfaaGreatDoor.Wd
open Go.RowKit Fx List World Nat
/-- An order of one's own. -/
def RowO (B:Nat) (o:List Int) (v:Value) (W:World):Prop:=∃ p n c,v = .slice p n c/\OwnK .i64 3 W B (.slice p n c) o
theorem RowO.up {B:Nat} {o:List Int} {v:Value} {W W':World} (h:RowO B o v W) (E:Bw W W'):RowO B o v W':=by
 obtain ⟨p,n,c,e,A⟩:=h;exact ⟨p,n,c,e,A.up E⟩
theorem r_o (p p2:Option Addr) (n c n2 c2:Nat) (d x:List Int) (I:Int) (hr:InR I) (hd:RI d) (hx:RI x) (bl:n<=10) (w:World) (h1:Nums .i64 w (.slice p n c) d) (h2:Nums .i64 w (.slice p2 n2 c2) x):
  Calls Tryz.prog 122 #[.agg #[.slice p n c,.slice p2 n2 c2],.int .i64 I] w fun e w'=>∃ v',e = .returned (.tuple #[v',.int .i64 (smE d x I)])/\TRes w' w.heap.size v' (smD d x I) (smV d x I)/\Bw w w':=by
 obtain ⟨_,_,_,e4,HD⟩:=h1.lst;cases e4;obtain ⟨_,_,_,e4,HX⟩:=h2.lst;cases e4;have aW:d.length=n:=HD.1;obtain ⟨O,eO⟩:∃ O,c_Y n I=O:=⟨_,rfl⟩
 have rO:RI O:=fun y hy=>by
  rw [<- eO] at hy;unfold c_Y j_h at hy;rcases mem_append.1 hy with h|h
  ·obtain ⟨k,hk,rfl⟩:=mem_map.1 (mem_filter.1 h).1;have:=mem_range.1 hk;omega
  ·simp at h;rw [h];exact hr
 obtain ⟨E,eE⟩:∃ E,i_j d x O=E:=⟨_,rfl⟩
 obtain ⟨DD,aL⟩:∃ E,h_w d x O=E:=⟨_,rfl⟩
 obtain ⟨VV,az⟩:∃ E,f_t d x O=E:=⟨_,rfl⟩
 have cL:Hid (∀ B W,B<=W.heap.size->Calls Tryz.prog 153 #[.int .i64 (n:Int),.int .i64 I] W fun e w'=>∃ u,e = .returned u/\RowO B O u w'/\Bw W w'):=fun B W hB=>by
  rw [<- eO];refine (i_m n (by omega) I hr W).mono ?_;rintro e w' ⟨u,rfl,h,hb⟩;obtain ⟨q,m,k,rfl,_⟩:=h.nums.lst;exact ⟨_,rfl,⟨_,_,_,rfl,h.low hB⟩,hb⟩
 have cT:Hid (∀ B W B' v,B<=W.heap.size->Bw w W->RowO B' O v W->Calls Tryz.prog 152 #[.agg #[.slice p n c,.slice p2 n2 c2],v] W fun e w'=>∃ u,e = .returned u/\TupP B DD VV E u w'/\Bw W w'):=fun B W B' v hB hW hv=>by
  obtain ⟨q,m,k,rfl,h⟩:=hv;rw [<- eE,<- aL,<- az];refine (m_M p p2 q n c n2 c2 m k d x O hd rO W (h1.up hW) (h2.up hW) h.nums).mono ?_;rintro e w' ⟨u,rfl,h,hb⟩;exact ⟨_,rfl,⟨u,rfl,(h.low hB).own⟩,hb⟩
 have HE:Hid (c_Y n I=O/\i_j d x O=E/\h_w d x O=DD/\f_t d x O=VV/\d.length=n/\RI x/\InR I):=⟨eO,eE,aL,az,aW,hx,hr⟩
 have HN:Hid (Nums .i64 w (.slice p n c) d/\Nums .i64 w (.slice p2 n2 c2) x):=⟨h1,h2⟩
 have a7:(n:Int)<=10:=by omega
 have bp:-9223372036854775808<=I/\I<=9223372036854775807:=hr;obtain ⟨sE,aD⟩:∃ e,smE d x I=e:=⟨_,rfl⟩
 obtain ⟨sD,aB⟩:∃ e,smD d x I=e:=⟨_,rfl⟩
 obtain ⟨sV,aC⟩:∃ e,smV d x I=e:=⟨_,rfl⟩
 rw [aD,aB,aC];have HM:Hid (smE d x I=sE/\smD d x I=sD/\smV d x I=sV):=⟨aD,aB,aC⟩
 haveI:Nonempty World:=⟨w⟩
 clear aD aB aC eO eE aL az rO hd hx h1 h2 aW hr;go_enter Tryz.func122,Tryz.ntmps122;go_wp2_with fail
 refine a_Q (fun W0 ao=>?_);have B0:Bw w W0:=by rw [ao];go_grown
 have XA:Hid (Cel W0 w.heap.size (.slice p n c) (.slice p2 n2 c2)):=by show Cel _ _ _ _;unfold Cel;rw [ao];simp [go_sem]
 have XR:Hid (Cel W0 (w.heap.size+1) (.slice none 0 0) (.slice none 0 0)):=by show Cel _ _ _ _;unfold Cel;rw [ao];simp [go_sem]
 have aM:Hid (Bw w W0):=B0;clear ao B0;obtain ⟨a0,a1,_,_⟩:=XA.out;have a9:=a_b a0;refine q_G [⟨5,17,RowO W0.heap.size O⟩,⟨6,18,TupP W0.heap.size DD VV E⟩,⟨7,11,TupP W0.heap.size DD VV E⟩,⟨8,19,OwnT W0.heap.size DD VV⟩,⟨10,6,NewC W0.heap.size⟩] 11 66 (by kernel_rfl) rfl rfl 9 _ rfl (by decide) rfl (by kernel_rfl) (by kernel_rfl) (fun _ _ _ _ h=>h) (by rfl) ?_ ?_
 ·exact upC (fun _ _ _=>RowO.up) (upC (fun _ _ _=>TupP.up) (upC (fun _ _ _=>TupP.up) (upC (fun _ _ _=>OwnT.up) (upC (fun _ _ _=>NewC.up) upN))))
 apply Exists.intro;refine ⟨?yl1,?wk1,?pk1,?rest1⟩
 case wk1=>
  intro x;simp only [take_succ_cons,take_zero]
  iterate 5
   apply c_w;rfl;rfl
   ·intro F hF hf K hK hFc hFf
    go_big_quiet_op
    exact hK
   (try simp only [a_v])
  refine c_g rfl rfl ?_ ?_
  ·intro F hF hf d hFc hFf;simp [a_j,a_e,go_sem];refine (cL.out W0.heap.size (F d) (hF.below d).size).mono ?_;rintro e' w8 ⟨v8,rfl,h8,aE⟩;exact ⟨_,rfl,h8,aE⟩
  (try simp only [a_v])
  refine c_g rfl rfl ?_ ?_
  ·intro F hF hf d hFc hFf;have h9:=hf _ mS (by rfl) d;simp [a_j,a_e,go_sem];refine (cT.out W0.heap.size (F d) _ _ (hF.below d).size (a_c aM (hF.below d)) h9).mono ?_;rintro e' w8 ⟨v8,rfl,h8,aE⟩;exact ⟨_,rfl,h8,aE⟩
  (try simp only [a_v])
  refine c_g rfl rfl ?_ ?_
  ·intro F hF hf d hFc hFf;have h9:=hf _ (mC mS) (by rfl) d;simp [a_j,a_e,go_sem];exact ⟨h9,Below.refl _ _⟩
  (try simp only [a_v])
  refine c_g rfl rfl ?_ ?_
  ·intro F hF hf d hFc hFf;have h9:=hf _ (mC (mC mS)) (by rfl) d;obtain ⟨u9,e9,o9⟩:=h9;simp only [] at e9;simp [a_j,a_e,go_sem,e9];exact ⟨o9,Below.refl _ _⟩
  (try simp only [a_v])
  apply c_w;rfl;rfl
  ·intro F hF hf K hK hFc hFf;have h9:=hf _ (mC (mC mS)) (by rfl);obtain ⟨u9,e9,_⟩:=h9 w;simp only [] at e9
   go_big_quiet_op
   exact hK
  (try simp only [a_v])
  refine c_g rfl rfl ?_ ?_
  ·intro F hF hf d hFc hFf;simp [a_j,a_e,go_sem];exact ⟨⟨(F d).heap.size,rfl,by show ((F d).heap.push _)[(F d).heap.size]?=_;simp,(hF.below d).size⟩,a_a _ _⟩
  (try simp only [a_v])
  refine b_A ?_;exact rfl
 case pk1=>
  intro x;simp only [b_q,foldl_cons,foldl_nil,a_v]
 case yl1=>
  intro x hx;obtain ⟨W9,u9,e9,_⟩:=hx _ (mC (mC mS)) (by rfl);simp only [] at e9;refine ⟨.int .i64 E,fun t ht=>?_,.inl ⟨by rfl,fun w=>?_⟩⟩
  ·cases ht;rfl
  ·simp [execOp,Act.eval,e9,go_sem]
 intro z1 xs aq hf;simp only [drop_succ_cons,drop_zero];have be:=hf _ (mC (mC (mC mS)));have hN:=hf _ (mC (mC (mC (mC mS))));obtain ⟨V,M,J,aa,R,L,ev,o1,o2⟩:=be;obtain ⟨g6,eb,ak,aw⟩:=hN;simp only [] at ev eb;obtain ⟨x5,e5⟩:∃ q,xs 5=q:=⟨_,rfl⟩
 obtain ⟨x6,e6⟩:∃ q,xs 6=q:=⟨_,rfl⟩
 obtain ⟨x7,e7⟩:∃ q,xs 7=q:=⟨_,rfl⟩
 simp only [ev,eb,e5,e6,e7];have a6:=c_x ak;have f1:=o1.off_type ak (by decide);have f2:=o2.off_type ak (by decide);have hS:Bw W0 (set2 z1 g6 (.slice V M J) (.slice aa R L)):=b_1 aq g6 aw _ _;have HO:Hid (OwnK .i64 3 (set2 z1 g6 (.slice V M J) (.slice aa R L)) W0.heap.size (.slice V M J) DD/\OwnK .i64 48 (set2 z1 g6 (.slice V M J) (.slice aa R L)) W0.heap.size (.slice aa R L) VV/\W0.heap.size<=g6):=⟨o1.stay (Stay.set2 _ _ _) f1,o2.stay (Stay.set2 _ _ _) f2,aw⟩
 have am:Hid (Cel (set2 z1 g6 (.slice V M J) (.slice aa R L)) g6 (.slice V M J) (.slice aa R L)):=(c_x ak).set _ _;have ac:Hid (Bw w (set2 z1 g6 (.slice V M J) (.slice aa R L))/\Bw W0 (set2 z1 g6 (.slice V M J) (.slice aa R L))):=⟨a_c aM hS,hS⟩
 obtain ⟨c0,c1,a8,a4⟩:=a6;have cz:=a_b c0;clear hf e5 e6 e7 ev eb f1 f2 o1 o2 cL cT a0 a1 a9 hS aw aq ak;by_cases hs:smP d x I
 ·obtain ⟨hp,ax,av⟩:=hs;obtain ⟨a,ga,rfl⟩:=b_u hp.1;obtain ⟨s,rfl⟩:=Int.eq_ofNat_of_zero_le ax;rw [a_p] at av;have ad:s < a.length:=by omega
  have aG:x.length=a_f a:=by have:=hp.2;rw [a_n] at this;exact this
  have ay:a.length=n:=by have:=HE.2.2.2.2.1;rw [a_p] at this;exact this
  obtain ⟨k1,k2,k3,k4⟩:=q_9 ga aG s ad;rw [ay,HE.1] at k1 k2 k3 k4;have hE:E=0:=by rw [<- HE.2.1];exact k1
  rw [HE.2.2.1] at k2;rw [HE.2.2.2.1] at k3 k4;subst hE k2;have ap:smP (itl a) x (s:Int):=⟨hp,ax,by rw [a_p];exact av⟩
  have au:sE=0:=by rw [<- HM.1];exact if_pos ap
  have aA:sD=itl (a_R a s):=by rw [<- HM.2.1];unfold smD;rw [if_pos ap,a_n];rfl
  have ai:sV=m_y a s x:=by rw [<- HM.2.2];unfold smV;rw [if_pos ap,a_n];rfl
  subst au aA;obtain ⟨C,eC⟩:∃ C,a.getD s 0=C:=⟨_,rfl⟩
  obtain ⟨N,eN⟩:∃ N,a_f (a_R a s)=N:=⟨_,rfl⟩
  have al:N*C=a_f a:=by rw [<- eN,<- eC];exact f_c a s ad
  have a5:1<=C:=by rw [<- eC];exact h_r ga s ad
  have aV:1<=N:=by rw [<- eN];exact (c_X ga s ad).pos
  have aZ:N<=4096:=by rw [<- eN];exact (c_X ga s ad).2.2
  have a2:C<=4096:=by have:=mul_le_mul_right C aV;rw [al,Nat.one_mul] at this;have:=ga.2.2;omega
  have aU:n2=N*C:=by rw [al,<- aG];exact HX.1.symm
  have hQ:(n2:Int) / (C:Int)=(N:Int):=by
   rw [aU]
   push_cast
   exact Int.mul_ediv_cancel _ (by omega)
  rw [eC,eN] at k4;rw [eC] at HO
  have HS:Hid (sV=m_y a s x/\sV.length=N/\VV.length=N*C/\(∀ i k,i < N->k < C->VV.getD (i*C+k) 0=x.getD ((i / a_f (a.drop (s+1))*C+k)*a_f (a.drop (s+1))+i % a_f (a.drop (s+1))) 0)/\a.getD s 0=C/\a_f (a_R a s)=N/\RI VV/\a.length=n/\s < a.length/\N*C<=4096):=by
   refine ⟨ai,by rw [ai,k_d,eN],by rw [k3,al],k4,eC,eN,fun y hy=>?_,ay,ad,by rw [al];exact ga.2.2⟩;rw [<- HE.2.2.2.1] at hy;unfold f_t at hy
   split at hy
   ·obtain ⟨i,_,rfl⟩:=mem_map.1 hy;exact b_y HE.2.2.2.2.2.1 _
   ·cases hy
  obtain ⟨q,o,rfl,aO⟩:=HD.2 s (by omega);rw [a_K,eC] at aO;have bs:(s:Int) < (n:Int):=by omega
  have bq:1<=(C:Int)/\(C:Int)<=4096:=by omega
  have bt:1<=(N:Int)/\(N:Int)<=4096:=by omega
  have bk:(n2:Int)<=4096:=by have:=HS.2.2.2.2.2.2.2.2.2;omega
  have bi:1<=(n:Int):=by omega
  obtain ⟨n',aP⟩:∃ n',n=n'+1:=⟨n - 1,by omega⟩
  have en:(n:Int) - 1=(n':Int):=by omega
  have Hn:Hid (n=n'+1):=aP;clear hp ax av aG ay k1 k3 k4 ap ai eC eN al a5 a2 aV aZ aU ad ga aP;obtain ⟨Wz,aY⟩:∃ Wz,(set2 z1 g6 (.slice V M J) (.slice aa R L))=Wz:=⟨_,rfl⟩
  rw [aY] at HO ac am;obtain ⟨q0,q1,_,_⟩:=am.out;obtain ⟨a0,a1,_,_⟩:=XA.out.up ac.2;have q9:=a_b q0;have a9:=a_b a0;have ua:=a_d aO ac.1;have bh:=a_b ua;go_wp2_with (at_make;refine a_F l_5 (by decide) _ rfl (.tmp 34) (.tmp 34) rfl .i64 .i64 N N N rfl rfl rfl rfl (by omega) Wz.heap.size Wz (Nat.le_refl _) (Below.refl _ _) ?_;intro w4 aI B4 bd;clear bd)
  clear q0 q1 a0 a1 q9 a9 ua bh aY c0 c1 a8 a4 cz;obtain ⟨g,hg⟩:∃ g,Wz.heap.size=g:=⟨_,rfl⟩
  rw [hg] at aI ⊢;have ag:Hid (Bw w w4/\Bw W0 w4/\Bw Wz w4):=⟨a_c ac.1 B4,a_c ac.2 B4,B4⟩
  have Hg:Hid (Wz.heap.size=g/\g6 < g/\W0.heap.size<=g/\w.heap.size+1 < W0.heap.size):=⟨hg,by rw [<- hg];exact a_b am.1,by rw [<- hg];exact ac.2.size,a_b XR.1⟩
  have ba:Hid (OwnK .i64 48 w4 g (.slice (some ⟨g,0,none⟩) N N) (b_l sV 0)):=by
   show OwnK _ _ _ _ _ _;rw [a_W,HS.2.1];exact aI.out
  clear aI B4 hg
  go_loopg [38] N (fun gg i wr=>∃ (k:Nat),k<=N/\gg=N - k/\i = .int .i64 (k:Int)/\Hid (OwnK .i64 48 wr g (.slice (some ⟨g,0,none⟩) N N) (b_l sV k))/\Hid (Bw w wr/\Stay g w4 wr))
  case atStart=>exact ⟨0,by omega,by omega,by first|rfl|simp,ba,ag.1,Stay.refl _ _⟩
  case round=>
   obtain ⟨k,hk,bx,rfl,aH,ab⟩:=hrel;obtain ⟨R1,bg⟩:∃ R1:World,R1=wr:=⟨_,rfl⟩
   subst bg;have xA:Cel R1 w.heap.size (.slice (some ⟨q,o,none⟩) n c) (.slice p2 n2 c2):=(XA.out.up ag.2.1).stay ab.2 (by have:=Hg.out;omega);have xR:Cel R1 (w.heap.size+1) (.slice none 0 0) (.slice none 0 0):=(XR.out.up ag.2.1).stay ab.2 (by have:=Hg.out;omega);have x6:Cel R1 g6 (.slice V M J) (.slice aa R L):=(am.out.up ag.2.2).stay ab.2 (by have:=Hg.out;omega);have o7:OwnK .i64 48 R1 W0.heap.size (.slice aa R L) VV:=(HO.2.1.up ag.2.2).stay ab.2 (HO.2.1.off_new (by have:=Hg.out;omega));have o6:OwnK .i64 3 R1 W0.heap.size (.slice V M J) (itl (a_R a s++[C])):=(HO.1.up ag.2.2).stay ab.2 (HO.1.off_new (by have:=Hg.out;omega));by_cases aj:k < N
   ·have bv:(k:Int) < (N:Int):=by omega
    obtain ⟨Z,eZ⟩:=s_r aa k C L;obtain ⟨C1,aT⟩:∃ C1,L - k*C=C1:=⟨_,rfl⟩
    rw [aT] at eZ
    have nV:∀ W,Bw R1 W->Nums .i64 W (.slice Z C C1) ((range C).map fun j=>VV.getD (k*C+j) 0):=fun W hW=>by
     have:=o_6 N C k HS.2.2.1 aj o7.cap (o7.up hW).nums;rw [eZ] at this;exact this
    have rV:RI ((range C).map fun j=>VV.getD (k*C+j) 0):=fun y hy=>by
     obtain ⟨i,_,rfl⟩:=mem_map.1 hy;exact b_y HS.2.2.2.2.2.2.1 _
    have wT:=o_5 rV (by rw [length_map,length_range];omega)
    have eT:hold (c_M ((range C).map fun j=>VV.getD (k*C+j) 0))=sV.getD k 0:=by
     rw [HS.1,m_z a s x k (by rw [HS.2.2.2.2.2.1];exact aj),HS.2.2.2.2.1];unfold t_m c_M;rw [length_map,length_range]
     congr 1
     refine b_3 C fun j hj=>?_;rw [a_J _ _ _ _ hj,HS.2.2.2.1 k j aj hj]
    have aJ:Hid (∀ W,Bw R1 W->Calls Tryz.prog 155 #[.slice Z C C1] W fun e w'=>e = .returned (wd (c_M ((range C).map fun j=>VV.getD (k*C+j) 0)))/\Bw W w'):=fun W hW=>m_A Z C C1 _ rV (by omega) W (nV W hW);have ah:∀ W,Calls Tryz.prog 154 #[wd (c_M ((range C).map fun j=>VV.getD (k*C+j) 0))] W fun e w'=>e = .returned (.int .i64 (hold (c_M ((range C).map fun j=>VV.getD (k*C+j) 0))))/\Bw W w':=fun W=>j_b _ wT W;rw [eT] at ah;obtain ⟨th,tl,et,t1,t2,t3,t4,Ht⟩:=words wT;rw [et] at aJ ah;obtain ⟨Y,eY⟩:∃ Y,sV.getD k 0=Y:=⟨_,rfl⟩
    rw [eY] at ah;have HY:Hid (sV.getD k 0=Y):=eY;have aR:k*C+C<=N*C:=by have:=mul_le_mul_right C (show k+1<=N by omega);rw [Nat.add_mul,Nat.one_mul] at this;exact this
    obtain ⟨A,eA⟩:∃ A,k*C=A:=⟨_,rfl⟩
    obtain ⟨B,eB⟩:∃ B,(k+1)*C=B:=⟨_,rfl⟩
    have bo:(k:Int)*(C:Int)=(A:Int):=by rw [<- eA];push_cast;rfl
    have bm:((k:Int)+1)*(C:Int)=(B:Int):=by rw [<- eB];push_cast;rfl
    have bn:A+C=B:=by rw [<- eA,<- eB,Nat.add_mul,Nat.one_mul]
    have aN:=o7.cap;have ae:VV.length=R:=by obtain ⟨_,_,_,e4,H⟩:=o7.nums.lst;cases e4;exact H.1
    have a3:B<=4096/\B<=R:=by
     have h1:=HS.2.2.2.2.2.2.2.2.2;have h2:=HS.2.2.1;rw [eA] at aR;omega
    rw [eA,eB] at eZ;have kc:=fun W=>j_d aa R L A B (by omega) (by omega) W;rw [eZ] at kc;have bj:(B:Int)<=4096/\0<=(A:Int)/\(A:Int)<=4096:=by omega
    obtain ⟨s0,s1,_,_⟩:=x6;have s9:=a_b s0;have bu:=aH;clear eT et wT rV nV eZ aT eY aR eA eB aN ae a3 o7 o6 xA xR;go_wp2_with fail
    refine (aJ.out R1 (Below.refl _ _)).mono ?_;rintro e w6 ⟨rfl,aQ⟩;have bc:Hid (Bw R1 w6):=aQ;clear aQ aJ;go_wp2_with fail
    refine (ah w6).mono ?_;rintro e w7 ⟨rfl,aS⟩;have an:Bw R1 w7:=a_c bc aS;have aF:=aH.out.up an;obtain ⟨aX,bw⟩:=aF.cell (by rw [a_y];exact HS.2.1) k aj;have br:=a_b aX
    have H5:Hid (OwnK .i64 48 (w7.setCell ⟨g,k,none⟩ (.int .i64 Y)) g (.slice (some ⟨g,0,none⟩) N N) (b_l sV (k+1))):=by
     have:=aF.store (by rw [a_y];exact HS.2.1) k Y;rw [<- HY.out,a_9 sV k (by rw [HS.2.1];exact aj)] at this;rw [<- HY.out];exact this
    have bb:w.heap.size<=g:=by have:=Hg.out;omega
    have H6:Hid (Bw w (w7.setCell ⟨g,k,none⟩ (.int .i64 Y))/\Stay g w4 (w7.setCell ⟨g,k,none⟩ (.int .i64 Y))):=⟨(a_c ab.1 an).setCell (p:=⟨g,k,none⟩) bb _,(ab.2.up an).set _ _⟩
    clear aS an aF ah s0 s1 s9;go_wp2;go_roundg (N - (k+1))
    case measure=>omega
    case rel=>exact ⟨k+1,by omega,rfl,by first|rfl|simp,H5,H6⟩
   ·obtain rfl:k=N:=by omega
    have af:=aH.out;rw [<- HS.2.1,a_0,HS.2.1] at af;have ae:(itl (a_R a s++[C])).length=M:=by obtain ⟨_,_,_,e4,H⟩:=o6.nums.lst;cases e4;exact H.1
    have ar:(a_R a s).length=n':=by
     have h1:=HS.2.2.2.2.2.2.2.1;have h2:=HS.2.2.2.2.2.2.2.2.1;have h3:=Hn.out;simp only [a_R,length_append,length_take,length_drop];omega
    rw [a_p,length_append,length_singleton,ar] at ae;obtain ⟨Z,eZ⟩:=b_H V 0 n' J;have kc:=fun W=>m_B V M J n' (by have:=o6.cap;omega) W;rw [eZ] at kc;rw [Nat.sub_zero,Nat.sub_zero] at kc
    have oD:OwnK .i64 3 R1 W0.heap.size (.slice Z n' J) (itl (a_R a s)):=by
     have:=o6.cut n' (show n'<=M by omega);rw [eZ,Nat.sub_zero,Nat.sub_zero] at this
     have e:(itl (a_R a s++[C])).take n'=itl (a_R a s):=by
      unfold itl;rw [map_append,take_left' (by rw [length_map];exact ar)]
     rw [e] at this;exact this
    have HF:Hid (TRes (set2 R1 (w.heap.size+1) (.slice Z n' J) (.slice (some ⟨g,0,none⟩) k k)) w.heap.size (.agg #[.slice Z n' J,.slice (some ⟨g,0,none⟩) k k]) (itl (a_R a s)) sV/\Bw w (set2 R1 (w.heap.size+1) (.slice Z n' J) (.slice (some ⟨g,0,none⟩) k k))):=
     ⟨⟨_,_,rfl,(oD.stay (Stay.set2 _ _ _) (oD.off (by have:=Hg.out;omega))).low (by have:=Hg.out;omega),(af.stay (Stay.set2 _ _ _) (af.off (by have:=Hg.out;omega))).low (by have:=Hg.out;omega)⟩,a_q ab.1 _ (by omega) _ _⟩
    have cf:=xR.set (.slice Z n' J) (.slice (some ⟨g,0,none⟩) k k);obtain ⟨a0,a1,_,_⟩:=xA;obtain ⟨s0,s1,_,_⟩:=x6;obtain ⟨r0,r1,r2,r3⟩:=xR;obtain ⟨y0,y1,_,_⟩:=cf;have a9:=a_b a0;have s9:=a_b s0;clear af o6 o7 oD eZ ae ar;go_wp2;exact bodyPost_ret (v:=.tuple #[.agg #[.slice Z n' J,.slice (some ⟨g,0,none⟩) k k],.int .i64 0]) (by simp [results,Tryz.results122,go_sem,y0,y1]) rfl ⟨_,rfl,HF.out⟩
 ·obtain ⟨k1,k2,k3,k4,k5,k6⟩:=q_8 hs;rw [HE.2.2.2.2.1,HE.1] at k4 k5 k6;have hE:E=1:=by rw [<- HE.2.1];exact k4
  have au:sE=1:=by rw [<- HM.1];exact k1
  have aA:sD = []:=by rw [<- HM.2.1];exact k2
  have ai:sV = []:=by rw [<- HM.2.2];exact k3
  subst hE au aA ai;clear k1 k2 k3 k4 k5 k6 hs;obtain ⟨BF,r0,r1,r2,r3,y0,y1⟩:=i_N XR ac.1 ac.2 (by omega);go_wp2;exact brn 1 (by simp [results,Tryz.results122,go_sem,y0,y1]) ⟨_,rfl,TRes.none _ _,BF⟩
theorem p_t (p p2 p3 p4:Option Addr) (n c n2 c2 n3 c3 n4 c4:Nat) (d x d' y:List Int) (st:Int) (hd:RI d) (hx:RI x) (aO:RI d') (hy:RI y) (w:World) (hT:Hid (Tz w)) (h1:Nums .i64 w (.slice p n c) d) (h2:Nums .i64 w (.slice p2 n2 c2) x) (h3:Nums .i64 w (.slice p3 n3 c3) d') (h4:Nums .i64 w (.slice p4 n4 c4) y):
  Calls Tryz.prog 127 #[.agg #[.slice p n c,.slice p2 n2 c2],.agg #[.slice p3 n3 c3,.slice p4 n4 c4],.int .i64 st] w fun e w'=>∃ v',e = .returned (.tuple #[v',.int .i64 (rwE d x d' y st)])/\TRes w' w.heap.size v' (rwD d x d' y st) (rwV d x d' y st)/\Bw w w':=by
 have cA:=fun W (hW:Bw w W)=>b_h _ _ d x hd W (h1.up hW) (h2.up hW);have cB:=fun W (hW:Bw w W)=>b_h _ _ d' y aO W (h3.up hW) (h4.up hW);have aL:∀ W:World,Calls Tryz.prog 158 #[.int .i64 st] W fun e w'=>e = .returned (.bool (decide (1<=st/\st<=64)))/\Bw W w':=fun W=>i_u st W;obtain ⟨_,_,_,e4,HD⟩:=h1.lst;cases e4;obtain ⟨_,_,_,e4,ai⟩:=h3.lst;cases e4;have HN:Hid (Nums .i64 w (.slice p2 n2 c2) x/\Nums .i64 w (.slice p4 n4 c4) y):=⟨h2,h4⟩
 haveI:Nonempty World:=⟨w⟩
 obtain ⟨E,eE⟩:∃ E,rwE d x d' y st=E:=⟨_,rfl⟩
 obtain ⟨D,eD⟩:∃ D,rwD d x d' y st=D:=⟨_,rfl⟩
 obtain ⟨V,eV⟩:∃ V,rwV d x d' y st=V:=⟨_,rfl⟩
 rw [eE,eD,eV];have HE:Hid (rwE d x d' y st=E/\rwD d x d' y st=D/\rwV d x d' y st=V):=⟨eE,eD,eV⟩
 have HR:Hid (RI x/\RI y):=⟨hx,hy⟩
 clear eE eD eV hd hx aO hy h1 h2 h3 h4;go_enter Tryz.func127,Tryz.ntmps127;go_wp2_with fail
 generalize aG:alloc _ _=W0;obtain ⟨aI,XA,XB,XR⟩:=t_y aG;clear aG;refine (cA W0 aI).mono ?_;rintro e w1 ⟨rfl,am⟩;have ah:=b_5 (a_c aI am) am;clear am cA;by_cases hp:isP d x
 case neg=>
  rw [decide_eq_false hp];obtain ⟨BF,r0,r1,r2,r3,y0,y1⟩:=i_N XR ah.1 ah.2 (by omega);go_wp2;obtain ⟨e1,e2,e3⟩:=m_3 (d:=d) (x:=x) (d':=d') (y:=y) (st:=st) (fun h=>hp h.1);rw [HE.1] at e1;rw [HE.2.1] at e2;rw [HE.2.2] at e3;exact brn 1 (by simp [results,Tryz.results127,go_sem,y0,y1]) ⟨_,by rw [e1],by rw [e2,e3];exact TRes.none _ _,BF⟩
 rw [decide_eq_true hp];have az:Hid _:=hp;obtain ⟨b0,b1,_,_⟩:=XB.out.up ah.2;clear hp;go_wp2_with fail
 refine (cB w1 ah.1).mono ?_;rintro e w2 ⟨rfl,aj⟩;have au:=b_5 (a_c ah.1 aj) (a_c ah.2 aj);clear aj cB b0 b1 ah;by_cases hq:isP d' y
 case neg=>
  rw [decide_eq_false hq];obtain ⟨BF,r0,r1,r2,r3,y0,y1⟩:=i_N XR au.1 au.2 (by omega);go_wp2;obtain ⟨e1,e2,e3⟩:=m_3 (d:=d) (x:=x) (d':=d') (y:=y) (st:=st) (fun h=>hq h.2.1);rw [HE.1] at e1;rw [HE.2.1] at e2;rw [HE.2.2] at e3;exact brn 1 (by simp [results,Tryz.results127,go_sem,y0,y1]) ⟨_,by rw [e1],by rw [e2,e3];exact TRes.none _ _,BF⟩
 rw [decide_eq_true hq];have ay:Hid _:=hq;clear hq;go_wp2_with fail
 refine (aL w2).mono ?_;rintro e w3 ⟨rfl,aD⟩;have A:=b_5 (a_c au.1 aD) (a_c au.2 aD);clear aD aL au;by_cases hs:1<=st/\st<=64
 case neg=>
  rw [decide_eq_false hs];obtain ⟨BF,r0,r1,r2,r3,y0,y1⟩:=i_N XR A.1 A.2 (by omega);go_wp2;obtain ⟨e1,e2,e3⟩:=m_3 (d:=d) (x:=x) (d':=d') (y:=y) (st:=st) (fun h=>hs h.2.2);rw [HE.1] at e1;rw [HE.2.1] at e2;rw [HE.2.2] at e3;exact brn 1 (by simp [results,Tryz.results127,go_sem,y0,y1]) ⟨_,by rw [e1],by rw [e2,e3];exact TRes.none _ _,BF⟩
 rw [decide_eq_true hs];have HA:Hid (rwA d x d' y st):=⟨az.out,ay.out,hs⟩
 obtain ⟨stN,rfl⟩:∃ q:Nat,st=q:=⟨st.toNat,by omega⟩
 have bb:n<=4:=by have:=az.1.1;rw [a_O,HD.1] at this;exact this
 have a4:(n:Int)<=4:=by omega
 have a6:n3<=4:=by have:=ay.1.1;rw [a_O,ai.1] at this;exact this
 have a3:(n3:Int)<=4:=by omega
 by_cases hn:n=2
 case neg=>
  have aE:((n:Int) != 2)=true:=by simp;omega
  have aB:¬ ((n:Int)=2):=by omega
  obtain ⟨a0,a1,_,_⟩:=XA.out.up A.2;obtain ⟨b0,b1,_,_⟩:=XB.out.up A.2;have a9:=a_b a0;have b9:=a_b b0;go_wp2_with fail
  go_quiet (fail)
  generalize O:drewN w3 nq=w5;have H:Hid (Bw w w5/\Bw W0 w5):=by rw [<- O];exact ⟨a_i A.1 nq,a_i A.2 nq⟩
  clear O;clear a0 a1 b0 b1 a9 b9;obtain ⟨BF,r0,r1,r2,r3,y0,y1⟩:=i_N XR H.1 H.2 (by omega);go_wp2;obtain ⟨e1,e2,e3⟩:=f_C HA.out (fun h=>hn (by rw [<- HD.1];exact h.1));rw [HE.1] at e1;rw [HE.2.1] at e2;rw [HE.2.2] at e3;exact brn 4 (by simp [results,Tryz.results127,go_sem,y0,y1]) ⟨_,by rw [e1],by rw [e2,e3];exact TRes.none _ _,BF⟩
 subst hn;by_cases aM:n3=3
 case neg=>
  have aE:((n3:Int) != 3)=true:=by simp;omega
  have aB:¬ ((n3:Int)=3):=by omega
  obtain ⟨a0,a1,_,_⟩:=XA.out.up A.2;obtain ⟨b0,b1,_,_⟩:=XB.out.up A.2;have a9:=a_b a0;have b9:=a_b b0;go_wp2_with fail
  go_quiet (fail)
  generalize O:drewN w3 nq=w5;have H:Hid (Bw w w5/\Bw W0 w5):=by rw [<- O];exact ⟨a_i A.1 nq,a_i A.2 nq⟩
  clear O;clear a0 a1 b0 b1 a9 b9;obtain ⟨BF,r0,r1,r2,r3,y0,y1⟩:=i_N XR H.1 H.2 (by omega);go_wp2;obtain ⟨e1,e2,e3⟩:=f_C HA.out (fun h=>aM (by rw [<- ai.1];exact h.2.1));rw [HE.1] at e1;rw [HE.2.1] at e2;rw [HE.2.2] at e3;exact brn 4 (by simp [results,Tryz.results127,go_sem,y0,y1]) ⟨_,by rw [e1],by rw [e2,e3];exact TRes.none _ _,BF⟩
 subst aM;obtain ⟨D0,D1,rfl,aN,k0,k1,k2⟩:=b_G az.out HD.1;obtain ⟨E0,E1,E2,rfl,aJ,l0,l1,l2,l3⟩:=e_l ay.out ai.1
 have aH:Hid ((∃ q o,p=some ⟨q,o,none⟩/\w.cell? ⟨q,o,none⟩=some (.int .i64 (D0:Int))/\w.cell? ⟨q,o+1,none⟩=some (.int .i64 (D1:Int)))/\(∃ q o,p3=some ⟨q,o,none⟩/\w.cell? ⟨q,o,none⟩=some (.int .i64 (E0:Int))/\w.cell? ⟨q,o+1,none⟩=some (.int .i64 (E1:Int))/\w.cell? ⟨q,o+2,none⟩=some (.int .i64 (E2:Int)))):=by
  obtain ⟨q,o,rfl,aZ⟩:=HD.2 0 (by omega);obtain ⟨q',o',e',aX⟩:=HD.2 1 (by omega);cases e';obtain ⟨r,s,rfl,aU⟩:=ai.2 0 (by omega);obtain ⟨r',s',e',am⟩:=ai.2 1 (by omega);cases e';obtain ⟨r',s',e',aj⟩:=ai.2 2 (by omega);cases e';exact ⟨⟨_,_,rfl,aZ,aX⟩,_,_,rfl,aU,am,aj⟩
 obtain ⟨⟨qa,oa,rfl,ak,ao⟩,qb,ob,rfl,aw,an,al⟩:=aH.out;have zD:=d_C k2 k0 k1;have a2:E0*E1<=4096:=Nat.le_trans (Nat.le_mul_of_pos_right _ l2) l3;have zE:=d_C a2 l0 l1;have a7:E2<=4096:=by have:=Nat.mul_le_mul (Nat.mul_le_mul l0 l1) (Nat.le_refl E2);omega
 have a8:(D0:Int)<=4096/\(D1:Int)<=4096:=by omega
 have a5:(E0:Int)<=4096/\(E1:Int)<=4096/\(E2:Int)<=4096:=by omega
 by_cases hm:D0=E1
 case neg=>
  have aE:((D0:Int) != (E1:Int))=true:=by simp;omega
  have aB:¬ ((D0:Int)=(E1:Int)):=by omega
  obtain ⟨a0,a1,_,_⟩:=XA.out.up A.2;obtain ⟨b0,b1,_,_⟩:=XB.out.up A.2;have a9:=a_b a0;have b9:=a_b b0;have M:=a_d ak A.1;have ad:=a_b M;have R:=a_d ao A.1;have ab:=a_b R;have I:=a_d aw A.1;have aa:=a_b I;have L:=a_d an A.1;have ae:=a_b L;have J:=a_d al A.1;have ac:=a_b J;go_wp2_with fail
  go_quiet (fail)
  generalize O:drewN w3 nq=w5;have H:Hid (Bw w w5/\Bw W0 w5):=by rw [<- O];exact ⟨a_i A.1 nq,a_i A.2 nq⟩
  clear O;clear a0 a1 b0 b1 a9 b9 M ad R ab I aa L ae J ac;obtain ⟨BF,r0,r1,r2,r3,y0,y1⟩:=i_N XR H.1 H.2 (by omega);go_wp2;obtain ⟨e1,e2,e3⟩:=f_C HA.out (fun h=>hm (by have:=h.2.2.1;simp at this;omega));rw [HE.1] at e1;rw [HE.2.1] at e2;rw [HE.2.2] at e3;exact brn 4 (by simp [results,Tryz.results127,go_sem,y0,y1]) ⟨_,by rw [e1],by rw [e2,e3];exact TRes.none _ _,BF⟩
 subst hm;have aE:((D0:Int) != (D0:Int))=false:=by simp
 by_cases hw:E2<=D1
 case neg=>
  have aY:¬ ((E2:Int)<=(D1:Int)):=by omega
  have bc:(D1:Int) < (E2:Int):=by omega
  obtain ⟨a0,a1,_,_⟩:=XA.out.up A.2;obtain ⟨b0,b1,_,_⟩:=XB.out.up A.2;have a9:=a_b a0;have b9:=a_b b0;have M:=a_d ak A.1;have ad:=a_b M;have R:=a_d ao A.1;have ab:=a_b R;have I:=a_d aw A.1;have aa:=a_b I;have L:=a_d an A.1;have ae:=a_b L;have J:=a_d al A.1;have ac:=a_b J;go_wp2_with fail
  go_quiet (fail)
  generalize O:drewN w3 nq=w5;have H:Hid (Bw w w5/\Bw W0 w5):=by rw [<- O];exact ⟨a_i A.1 nq,a_i A.2 nq⟩
  clear O;clear a0 a1 b0 b1 a9 b9 M ad R ab I aa L ae J ac;obtain ⟨BF,r0,r1,r2,r3,y0,y1⟩:=i_N XR H.1 H.2 (by omega);go_wp2;obtain ⟨e1,e2,e3⟩:=f_C HA.out (fun h=>hw (by have:=h.2.2.2;simp at this;omega));rw [HE.1] at e1;rw [HE.2.1] at e2;rw [HE.2.2] at e3;exact brn 4 (by simp [results,Tryz.results127,go_sem,y0,y1]) ⟨_,by rw [e1],by rw [e2,e3];exact TRes.none _ _,BF⟩
 have aY:(E2:Int)<=(D1:Int):=by omega
 obtain ⟨S,hS⟩:∃ S,b_B D1 E2 stN=S:=⟨_,rfl⟩
 have rf:=m_4 HA.out hw hS;have e1:=rf.1.symm.trans HE.1;have e2:=rf.2.1.symm.trans HE.2.1;have e3:=rf.2.2.symm.trans HE.2.2;have HG:Hid (∀ (gs:Nat) (pd:Option Addr) (nd cd:Nat) (W:World),Bw w W->Nums .i64 W (.slice pd nd cd) [(E0:Int),(S:Int)]->SlC W gs D0 D1 E0 E2 stN->W.cell? ⟨w.heap.size,1,none⟩=some (.slice p2 n2 c2)->W.cell? ⟨w.heap.size+1,1,none⟩=some (.slice p4 n4 c4)->Calls Tryz.prog 159 #[.slice pd nd cd,.func (.func 161) #[] #[.pointer (some ⟨gs,0,none⟩),.pointer (some ⟨w.heap.size,0,none⟩),.pointer (some ⟨w.heap.size+1,0,none⟩)]] W fun e w'=>∃ v',e = .returned (.tuple #[v',.int .i64 (m_0 [(E0:Int),(S:Int)])])/\TRes w' W.heap.size v' (l_j [(E0:Int),(S:Int)]) (if goodN (ntl [(E0:Int),(S:Int)]) then g_e D0 D1 E2 E0 S stN x y else [])/\Bw W w'):=fun gs pd nd cd W hW hN hs aS aV=>p_i D0 D1 E0 E2 stN S hS l2 hw zD.2 (by omega) (by omega) k0 l0 l3 k2 zE.1 zD.1 gs _ _ p2 n2 c2 p4 n4 c4 x y HR.1 HR.2 aN aJ pd nd cd W (Hid.up_tz hT hW) hN hs aS aV (HN.1.up hW) (HN.2.up hW);rw [e1,e2,e3] at HG
 have aP:∀ W:World,Calls Tryz.prog 160 #[.agg #[.int .i64 (D0:Int),.int .i64 (D1:Int),.int .i64 (E0:Int),.int .i64 (E2:Int),.int .i64 (stN:Int)]] W fun e w'=>e = .returned (.int .i64 (S:Int))/\Bw W w':=fun W=>by
  have:=i_t D0 D1 E0 E2 stN hw (by omega) (by omega) (by omega) W;rw [hS] at this;exact this
 have ba:∀ (fn:Fn) (first aQ:Array Value) (w:World),(Instr.makeFunc fn first aQ).run Tryz.prog w = .ok (.func fn first aQ) w:=fun _ _ _ _=>rfl;clear rf e1 e2 e3 HD ai aH aN aJ HN hS az ay HA HR;obtain ⟨a0,a1,_,_⟩:=XA.out.up A.2;obtain ⟨b0,b1,_,_⟩:=XB.out.up A.2;have a9:=a_b a0;have b9:=a_b b0;have M:=a_d ak A.1;have ad:=a_b M;have R:=a_d ao A.1;have ab:=a_b R;have I:=a_d aw A.1;have aa:=a_b I;have L:=a_d an A.1;have ae:=a_b L;have J:=a_d al A.1;have ac:=a_b J;go_wp2_with fail
 go_quiet (fail)
 generalize O:drewN w3 nq=w5;have H:Hid (Bw w w5/\Bw W0 w5):=by rw [<- O];exact ⟨a_i A.1 nq,a_i A.2 nq⟩
 clear O;clear a0 a1 b0 b1 a9 b9 M ad R ab I aa L ae J ac;obtain ⟨a0,a1,_,_⟩:=XA.out.up H.2;obtain ⟨b0,b1,_,_⟩:=XB.out.up H.2;have a9:=a_b a0;have b9:=a_b b0;have M:=a_d ak H.1;have ad:=a_b M;have R:=a_d ao H.1;have ab:=a_b R;have I:=a_d aw H.1;have aa:=a_b I;have L:=a_d an H.1;have ae:=a_b L;have J:=a_d al H.1;have ac:=a_b J;go_wp2_with fail
 refine h_k (.cells #[.int .i64 0,.int .i64 0,.int .i64 0,.int .i64 0,.int .i64 0] 213) 18 19 83 8 (by kernel_rfl) rfl rfl (by kernel_rfl) rfl rfl rfl ?_;apply Exists.intro;refine ⟨?_,?_,?_⟩
 ·intro F hF;have hFc:=hF.cell;have hFf:=hF.frozen;simp only [take_succ_cons,take_zero,eraseIdx_cons_succ,eraseIdx_cons_zero]
  repeat (go_big_quiet_step (fail))
  refine wpQuiet_nil ?_;exact rfl
 ·intro W
  kernel_rfl
 intro W6 g8 hW hM;have Y0:=hM.cell (i:=0) rfl;have Y1:=hM.cell (i:=1) rfl;have Y2:=hM.cell (i:=2) rfl;have Y3:=hM.cell (i:=3) rfl;have Y4:=hM.cell (i:=4) rfl;have Z0:=hM.frozen 0;have Z1:=hM.frozen 1;have Z2:=hM.frozen 2;have Z3:=hM.frozen 3;have Z4:=hM.frozen 4;have aR:g8 < W6.heap.size:=hM.1;have aC:w5.heap.size<=g8:=hM.2.1;have N5:=five W6 g8 (.int .i64 (D0:Int)) (.int .i64 (D1:Int)) (.int .i64 (E0:Int)) (.int .i64 (E2:Int)) (.int .i64 (stN:Int)) Y0 Y1 Y2 Y3 Y4;have N6:=d_X (a_c H.1 hW) g8 (Nat.le_trans H.1.size aC) (.int .i64 (D0:Int)) (.int .i64 (D1:Int)) (.int .i64 (E0:Int)) (.int .i64 (E2:Int)) (.int .i64 (stN:Int));have N7:=d_X (a_c H.2 hW) g8 (Nat.le_trans H.2.size aC) (.int .i64 (D0:Int)) (.int .i64 (D1:Int)) (.int .i64 (E0:Int)) (.int .i64 (E2:Int)) (.int .i64 (stN:Int));simp only [drop_succ_cons,drop_zero];unfold k_Z;clear hM hW a0 a1 b0 b1 a9 b9 M ad R ab I aa L ae J ac aC;go_wp2_with fail
 refine a_Q (fun w7 aF=>?_);rw [<- aF] at N5 N6 N7;clear aF Y0 Y1 Y2 Y3 Y4 Z0 Z1 Z2 Z3 Z4 aR;have Z:Hid (Bw w w7/\Bw W0 w7):=⟨N6,N7⟩
 have X7:Hid (SlC w7 g8 D0 D1 E0 E2 stN):=N5;clear N5 N6 N7;obtain ⟨a0,a1,_,_⟩:=XA.out.up Z.2;obtain ⟨b0,b1,_,_⟩:=XB.out.up Z.2;have a9:=a_b a0;have b9:=a_b b0;have M:=a_d ak Z.1;have ad:=a_b M;have R:=a_d ao Z.1;have ab:=a_b R;have I:=a_d aw Z.1;have aa:=a_b I;have L:=a_d an Z.1;have ae:=a_b L;have J:=a_d al Z.1;have ac:=a_b J;obtain ⟨z0,z1,z2,z3,z4⟩:=X7.out;have zl:=a_b z0;refine q_G [⟨4,78,LitN [(E0:Int),(S:Int)]⟩,⟨6,80,TupP w7.heap.size D V E⟩,⟨7,81,OwnT w7.heap.size D V⟩] 9 83 (by kernel_rfl) rfl rfl 8 _ rfl (by decide) rfl (by kernel_rfl) (by kernel_rfl) (fun _ _ _ _ h=>h) (by rfl) ?_ ?_
 ·exact upC (fun _ _ _=>LitN.up) (upC (fun _ _ _=>TupP.up) (upC (fun _ _ _=>OwnT.up) upN))
 apply Exists.intro;refine ⟨?yl1,?wk1,?pk1,?rest1⟩
 case wk1=>
  intro x;simp only [take_succ_cons,take_zero]
  iterate 3
   apply c_w;rfl;rfl
   ·intro F hF hf K hK hFc hFf
    go_big_quiet_op
    exact hK
   (try simp only [a_v])
  apply c_w;rfl;rfl
  ·intro F hF hf K hK hFc hFf
   go_big_quiet_op
   first|exact hK|(apply Exists.intro;refine ⟨fun _=>?_,?_⟩;(· exact hF.call (aP _));exact hK)
  (try simp only [a_v])
  refine c_g rfl rfl ?_ ?_
  ·intro F hF hf d hFc hFf;simp [a_j,a_e,go_sem];exact ⟨⟨(F d).heap.size,rfl,a_8 (k:=.i64) (F d) [(E0:Int),(S:Int)] 2 (0,0) rfl⟩,a_a _ _⟩
  (try simp only [a_v])
  apply c_w;rfl;rfl
  ·intro F hF hf K hK hFc hFf
   go_big_quiet_op
   exact hK
  (try simp only [a_v])
  refine c_g rfl rfl ?_ ?_
  ·intro F hF hf d hFc hFf;have h9:=hf _ mS (by rfl) d;obtain ⟨g9,e9,n9⟩:=h9;simp only [] at e9 n9;rw [e9] at n9;simp [a_j,a_e,go_sem,e9];have hB:=hF.below d;refine (HG.out g8 _ _ _ (F d) (a_c Z.1 hB) n9 (X7.out.up hB) (XA.out.up (a_c Z.2 hB)).2.1 (XB.out.up (a_c Z.2 hB)).2.1).mono ?_;rintro e' w8 ⟨v8,rfl,h8,aT⟩;exact ⟨_,rfl,⟨v8,rfl,(h8.low hB.size).own⟩,aT⟩
  (try simp only [a_v])
  refine c_g rfl rfl ?_ ?_
  ·intro F hF hf d hFc hFf;have h9:=hf _ (mC mS) (by rfl) d;obtain ⟨u9,e9,n9⟩:=h9;simp only [] at e9 n9;simp [a_j,a_e,go_sem,e9];exact ⟨n9,Below.refl _ _⟩
  (try simp only [a_v])
  apply c_w;rfl;rfl
  ·intro F hF hf K hK hFc hFf;have h9:=hf _ (mC mS) (by rfl);obtain ⟨u9,e9,_⟩:=h9 w;simp only [] at e9
   go_big_quiet_op
   exact hK
  (try simp only [a_v])
  refine b_A ?_;exact rfl
 case pk1=>
  intro x;simp only [b_q,foldl_cons,foldl_nil,a_v]
 case yl1=>
  intro x hx;obtain ⟨W9,u9,e9,_⟩:=hx _ (mC mS) (by rfl);simp only [] at e9;refine ⟨.int .i64 E,fun t ht=>?_,.inl ⟨by rfl,fun w=>?_⟩⟩
  ·cases ht;rfl
  ·simp [execOp,Act.eval,e9,go_sem]
 intro zz xs ap hf;simp only [drop_succ_cons,drop_zero];have aW:=hf _ (mC (mC mS));obtain ⟨ax,av,ag,ar,aq,af,ev,o1,o2⟩:=aW;simp only [] at ev;obtain ⟨x4,e4⟩:∃ q,xs 4=q:=⟨_,rfl⟩
 obtain ⟨x6,e6⟩:∃ q,xs 6=q:=⟨_,rfl⟩
 simp only [ev,e4,e6];have aA:=b_5 (a_c Z.1 ap) (a_c Z.2 ap);have xr:=XR.out.up aA.2;have hz:=a_b XR.1;have bd:=Z.2.size;have HF:Hid (TRes (set2 zz (w.heap.size+1+1) (.slice ax av ag) (.slice ar aq af)) w.heap.size (.agg #[.slice ax av ag,.slice ar aq af]) D V/\Bw w (set2 zz (w.heap.size+1+1) (.slice ax av ag) (.slice ar aq af))):=⟨(TRes.set o1 o2 (by omega)).low (by have:=Z.1.size;omega),a_q aA.1 _ (by omega) _ _⟩
 have cf:=xr.set (.slice ax av ag) (.slice ar aq af);obtain ⟨r0,r1,r2,r3⟩:=xr;obtain ⟨y0,y1,_,_⟩:=cf;have r9:=a_b r0;clear o1 o2 ap hf a0 a1 b0 b1 a9 b9 M ad R ab I aa L ae J ac z0 z1 z2 z3 z4 zl HG aP;go_wp2;exact bodyPost_ret (v:=.tuple #[.agg #[.slice ax av ag,.slice ar aq af],.int .i64 E]) (by simp [results,Tryz.results127,go_sem,y0,y1]) rfl ⟨_,rfl,HF.out⟩
end Go.Proofs.YtkfpainpomobfaaGreatDoor.Wd
