/- The reference's Row, where the shapes fi -/
import Derived.Test.YtkfpainpomobfaaGreatDoorR29
set_option linter.unusedVariables false
set_option linter.unusedSimpArgs false
set_option maxHeartbeats 16000000
set_option maxRecDepth 16000
namespace Go.Proofs.YtkfpainpomobfaaGreatDoor.Wd
open Go.RowKit Fx List World Nat
theorem n_8 (R L O wd st S:Nat) (hS:b_B L wd st=S) (h0:1<=wd) (h1:wd<=L) (h2:L<=4096) (h3:1<=st) (h4:st<=64) (hR:1<=R) (hO:1<=O) (h5:O*R*wd<=4096) (h7:R*L<=4096) (h8:O<=4096) (h9:R<=4096) (qa oa qb ob:Nat) (p2 p4:Option Addr) (c n2 c2 c3 n4 c4:Nat) (x y:List Int) (hx:RI x) (hy:RI y) (bq:x.length=R*L) (bm:y.length=O*R*wd) (w:World) (aS:w.cell? ⟨qa,oa,none⟩=some (.int .i64 (R:Int))) (bc:w.cell? ⟨qa,oa+1,none⟩=some (.int .i64 (L:Int))) (a5:w.cell? ⟨qb,ob,none⟩=some (.int .i64 (O:Int))) (aV:w.cell? ⟨qb,ob+1,none⟩=some (.int .i64 (R:Int))) (aT:w.cell? ⟨qb,ob+2,none⟩=some (.int .i64 (wd:Int))) (nx:Nums .i64 w (.slice p2 n2 c2) x) (ny:Nums .i64 w (.slice p4 n4 c4) y)
  (cA:∀ W,Bw w W->Calls Tryz.prog 42 #[.agg #[.slice (some ⟨qa,oa,none⟩) 2 c,.slice p2 n2 c2]] W fun e w'=>e = .returned (.bool true)/\Bw W w') (cB:∀ W,Bw w W->Calls Tryz.prog 42 #[.agg #[.slice (some ⟨qb,ob,none⟩) 3 c3,.slice p4 n4 c4]] W fun e w'=>e = .returned (.bool true)/\Bw W w'):
  Calls Tryz.prog 77 #[.agg #[.slice (some ⟨qa,oa,none⟩) 2 c,.slice p2 n2 c2],.agg #[.slice (some ⟨qb,ob,none⟩) 3 c3,.slice p4 n4 c4],.int .i64 (st:Int)] w fun e w'=>∃ v',e = .returned (.tuple #[v',.int .i64 (m_0 [(O:Int),(S:Int)])])/\TRes w' w.heap.size v' (l_j [(O:Int),(S:Int)]) (if goodN (ntl [(O:Int),(S:Int)]) then g_e R L wd O S st x y else [])/\Bw w w':=by
 obtain ⟨_,_,_,e4,HX⟩:=nx.lst;cases e4;obtain ⟨_,_,_,e4,HY⟩:=ny.lst;cases e4;have aR:S<=4096:=by rw [<- hS];exact Nat.le_trans (k_i h0 h1) h2
 obtain ⟨Dq,bB⟩:∃ D,L - wd=D:=⟨_,rfl⟩
 have cC:(L:Int) - (wd:Int)=(Dq:Int):=by omega
 obtain ⟨qq,bd⟩:∃ q,Dq / st=q:=⟨_,rfl⟩
 have cK:(Dq:Int) / (st:Int)=(qq:Int):=by rw [<- bd];rfl
 have bP:S=qq+1:=by rw [<- hS];unfold b_B;rw [bB,bd]
 have cF:(qq:Int)+1=(S:Int):=by omega
 have dg:(qq:Int)<=4096/\(Dq:Int)<=4096:=by omega
 have hi:1<=(wd:Int)/\(wd:Int)<=(L:Int)/\(L:Int)<=4096/\1<=(st:Int)/\(st:Int)<=64/\1<=(R:Int)/\(R:Int)<=4096/\1<=(O:Int)/\(O:Int)<=4096/\1<=(S:Int)/\(S:Int)<=4096:=by omega
 have dl:decide ((L:Int) < (wd:Int))=false:=decide_eq_false (by omega);have cU:decide (L < wd)=false:=decide_eq_false (by omega);have c5:decide ((st:Int) < 1)=false:=decide_eq_false (by omega);have cy:decide (64 < (st:Int))=false:=decide_eq_false (by omega);have cM:decide ((L:Int) < 1)=false:=decide_eq_false (by omega);have cQ:decide (4096 < (L:Int))=false:=decide_eq_false (by omega);have cE:decide ((wd:Int) < 1)=false:=decide_eq_false (by omega);have cL:decide (4096 < (wd:Int))=false:=decide_eq_false (by omega);have cH:((R:Int) != (R:Int))=false:=by simp
 have cJ:((O:Int) != (O:Int))=false:=by simp
 have cO:((S:Int) != (S:Int))=false:=by simp
 haveI:Nonempty World:=⟨w⟩
 by_cases hg:goodN (ntl [(O:Int),(S:Int)])
 ·have ak:Hid (RI x/\RI y/\x.length=R*L/\y.length=O*R*wd/\R*L<=4096/\O*R*wd<=4096):=⟨hx,hy,bq,bm,h7,h5⟩
  have HP:Hid (1<=O/\O*R*wd<=4096/\0 < wd/\(∀ n,n < S->n*st+wd<=L)/\True):=⟨hO,h5,h0,fun n hn=>l_l h1 h3 (by rw [hS];exact hn),trivial⟩
  have cG:Hid (∀ W v,Nums .i64 W v [(O:Int),(S:Int)]->Calls Tryz.prog 65 #[v] W fun e w'=>e = .returned (.bool true)/\w'=W):=fun W v hv=>by
   have:=b_g v [(O:Int),(S:Int)] (g_N h8 aR) W hv;rw [decide_eq_true hg] at this;exact this
  have cN:Hid (∀ W v,Nums .i64 W v [(O:Int),(S:Int)]->Calls Tryz.prog 95 #[v,.int .i64 0] W fun e w'=>∃ v',e = .returned v'/\t_q w' W.heap.size v' [(O:Int),(S:Int)] (O*S) (replicate (O*S) 0)/\Bw W w'):=fun W v hv=>by
   have:=e_P v [(O:Int),(S:Int)] (g_N h8 aR) hg 0 W hv;rw [c_9] at this;exact this
  rw [show m_0 [(O:Int),(S:Int)]=0 from if_pos hg,show l_j [(O:Int),(S:Int)] = [(O:Int),(S:Int)] from if_pos hg,if_pos hg];have bK:1<=O*S/\O*S<=4096:=⟨by have:=hg.pos;rw [c_9] at this;exact this,by have:=hg.2.2;rw [c_9] at this;exact this⟩
  obtain ⟨V,eV⟩:∃ V,g_e R L wd O S st x y=V:=⟨_,rfl⟩
  obtain ⟨NM,a3⟩:∃ N,O*S=N:=⟨_,rfl⟩
  obtain ⟨bp,aO⟩:∃ D,[(O:Int),(S:Int)]=D:=⟨_,rfl⟩
  have HV:Hid (V=g_e R L wd O S st x y/\V.length=NM/\O*S=NM):=⟨eV.symm,by rw [<- eV,i_q,a3],a3⟩
  rw [a3] at bK cN;rw [eV,aO];have bW:Hid ([(O:Int),(S:Int)]=bp):=aO;have cS:1<=(NM:Int)/\(NM:Int)<=4096:=by omega
  clear eV a3 aO hx hy bq bm nx ny hS h0 h1 h2 h3 h4 hR hO h8 h9 h5 h7 hg bB bd bP aR;go_enter Tryz.func77,Tryz.ntmps77;go_wp2_with fail
  generalize aM:alloc _ _=W0;obtain ⟨aH,XA,XB,XR⟩:=t_y aM;clear aM;refine (cA W0 aH).mono ?_;rintro e w1 ⟨rfl,am⟩;have af:=b_5 (a_c aH am) am;clear am cA;obtain ⟨b0,b1,_,_⟩:=XB.out.up af.2;go_wp2_with fail
  refine (cB w1 af.1).mono ?_;rintro e w2 ⟨rfl,ab⟩;have E:=b_5 (a_c af.1 ab) (a_c af.2 ab);clear ab cB b0 b1 af;obtain ⟨a0,a1,_,_⟩:=XA.out.up E.2;obtain ⟨b0,b1,_,_⟩:=XB.out.up E.2;have a9:=a_b a0;have b9:=a_b b0;have ad:=a_d aS E.1;have ap:=a_b ad;have ai:=a_d bc E.1;have aq:=a_b ai;have ae:=a_d a5 E.1;have al:=a_b ae;have ag:=a_d aV E.1;have aw:=a_b ag;have ac:=a_d aT E.1;have ao:=a_b ac;go_wp2_with fail
  go_quiet (fail)
  generalize ah:drewN w2 nq=w3;have A:Hid (Bw w w3/\Bw W0 w3):=by rw [<- ah];exact ⟨a_i E.1 nq,a_i E.2 nq⟩
  clear ah;clear a0 a1 b0 b1 a9 b9 ad ap ai aq ae al ag aw ac ao;obtain ⟨a0,a1,_,_⟩:=XA.out.up A.2;obtain ⟨b0,b1,_,_⟩:=XB.out.up A.2;have a9:=a_b a0;have b9:=a_b b0;have ad:=a_d aS A.1;have ap:=a_b ad;have ai:=a_d bc A.1;have aq:=a_b ai;have ae:=a_d a5 A.1;have al:=a_b ae;have ag:=a_d aV A.1;have aw:=a_b ag;have ac:=a_d aT A.1;have ao:=a_b ac;go_wp2_with fail
  go_quiet (fail)
  generalize ah:drewN w3 nq=w4;have av:Hid (Bw w w4/\Bw W0 w4):=by rw [<- ah];exact ⟨a_i A.1 nq,a_i A.2 nq⟩
  clear ah;clear a0 a1 b0 b1 a9 b9 ad ap ai aq ae al ag aw ac ao;go_wp2_with fail
  generalize au:alloc _ _=W5;have ar:Bw w4 W5:=by rw [<- au];exact a_a w4 _
  have aC:=b_5 (a_c av.1 ar) (a_c av.2 ar);have aY:Hid (Nums .i64 W5 (.slice (some ⟨w4.heap.size,0,none⟩) 2 2) [(O:Int),(S:Int)]):=by show Nums _ _ _ _;rw [<- au];exact a_8 (k:=.i64) w4 [(O:Int),(S:Int)] 2 (0,0) rfl
  clear au ar A av;refine (cG.out W5 _ aY.out).mono ?_;rintro e w6 ⟨rfl,rfl⟩;clear aY;go_wp2_with fail
  generalize bn:alloc _ _=W7;have bu:Bw w6 W7:=by rw [<- bn];exact a_a w6 _
  have aL:=b_5 (a_c aC.1 bu) (a_c aC.2 bu);have bR:Hid (Nums .i64 W7 (.slice (some ⟨w6.heap.size,0,none⟩) 2 2) [(O:Int),(S:Int)]):=by show Nums _ _ _ _;rw [<- bn];exact a_8 (k:=.i64) w6 [(O:Int),(S:Int)] 2 (0,0) rfl
  clear bn bu aC cG;refine (cN.out W7 _ bR.out).mono ?_;rintro e w8 ⟨v8,rfl,⟨s8,g,cg,rfl,aZ,bE,bj,bN⟩,bF⟩;rw [bW.out] at aZ;obtain ⟨p8,n8,c8,rfl,_⟩:=aZ.nums.lst;clear bR cN;go_wp2_with fail
  generalize bt:alloc _ _=W9;have B9:Bw w8 W9:=by rw [<- bt];exact a_a w8 _
  have XT:Hid (Cel W9 w8.heap.size (.slice p8 n8 c8) (.slice (some ⟨g,0,none⟩) NM cg)):=by show Cel _ _ _ _;unfold Cel;rw [<- bt];simp [go_sem]
  have ba:Hid (Bw w W9/\Bw W0 W9):=⟨a_c aL.1 (a_c bF B9),a_c aL.2 (a_c bF B9)⟩
  have bO:Hid (OwnK .i64 3 W9 W7.heap.size (.slice p8 n8 c8) bp/\Off g (.slice p8 n8 c8)):=⟨aZ.up B9,bj⟩
  have co:Hid (OwnK .i64 48 W9 g (.slice (some ⟨g,0,none⟩) NM cg) (b_l V (0*S))):=by
   show OwnK _ _ _ _ _ _;rw [Nat.zero_mul,a_W,HV.2.1];exact (bE.up B9).base
  have hz:=a_b XR.1;have bH:=bE.size;have Hg:Hid (W0.heap.size<=g/\w.heap.size+1+1 < W0.heap.size/\g < w8.heap.size/\W0.heap.size<=W7.heap.size):=⟨Nat.le_trans aL.2.size bN,hz,bH,aL.2.size⟩
  obtain ⟨b8,bS⟩:∃ b8,w8.heap.size=b8:=⟨_,rfl⟩
  rw [bS] at XT Hg ⊢;clear bt B9 hz bH aZ bE bF bN bj aL bS bW
  go_loopg [14] O (fun gg i wr=>∃ (I:Nat),I<=O/\gg=O - I/\i = .int .i64 (I:Int)/\Hid (OwnK .i64 48 wr g (.slice (some ⟨g,0,none⟩) NM cg) (b_l V (I*S)))/\Hid (Bw w wr/\Stay g W9 wr))
  case atStart=>exact ⟨0,by omega,by omega,by first|rfl|simp,co,ba.1,Stay.refl _ _⟩
  case round=>
   obtain ⟨I,hI,db,rfl,bz,aJ⟩:=hrel;obtain ⟨R1,ct⟩:∃ q:World,q=wr:=⟨_,rfl⟩
   subst ct;by_cases bM:I < O
   ·have cI:(I:Int) < (O:Int):=by omega
    go_wp2_with fail
    rw [show I*S=I*S+0 from rfl] at bz
    go_loopg [15] S (fun gg i wr=>∃ (J:Nat),J<=S/\gg=S - J/\i = .int .i64 (J:Int)/\Hid (OwnK .i64 48 wr g (.slice (some ⟨g,0,none⟩) NM cg) (b_l V (I*S+J)))/\Hid (Bw w wr/\Stay g W9 wr))
    case atStart=>exact ⟨0,by omega,by omega,by first|rfl|simp,bz,aJ⟩
    case round=>
     obtain ⟨J,hJ,c1,rfl,bv,an⟩:=hrel;obtain ⟨R2,ca⟩:∃ q:World,q=wr:=⟨_,rfl⟩
     subst ca;by_cases aX:J < S
     ·have cT:(J:Int) < (S:Int):=by omega
      go_wp2_with fail
      have cb:Hid (LiesS (R2.alloc (.cells #[.bool false,.int .u64 0,.int .u64 0,.int .u64 0,.int .u64 0] 165)) R2.heap.size (c_B (fun x' H=>x.getD (x'*L+J*st+H) 0*y.getD ((I*R+x')*wd+H) 0) wd (0*wd))):=by show LiesS _ _ _;rw [Nat.zero_mul,m_Q];exact i_K R2 _
      go_loopg [17] R (fun gg i wr=>∃ (P:Nat),P<=R/\gg=R - P/\i = .int .i64 (P:Int)/\Hid (LiesS wr R2.heap.size (c_B (fun x' H=>x.getD (x'*L+J*st+H) 0*y.getD ((I*R+x')*wd+H) 0) wd (P*wd)))/\Hid (Bw R2 wr))
      case atStart=>exact ⟨0,by omega,by omega,by first|rfl|simp,cb,a_a R2 _⟩
      case round=>
       obtain ⟨P,hP,de,rfl,LP,aU⟩:=hrel;obtain ⟨R3,cx⟩:∃ q:World,q=wr:=⟨_,rfl⟩
       subst cx;by_cases bs:P < R
       ·have cR:(P:Int) < (R:Int):=by omega
        go_wp2_with fail
        rw [show P*wd=P*wd+0 from rfl] at LP
        go_loopg [18] wd (fun gg i wr=>∃ (Q:Nat),Q<=wd/\gg=wd - Q/\i = .int .i64 (Q:Int)/\Hid (LiesS wr R2.heap.size (c_B (fun x' H=>x.getD (x'*L+J*st+H) 0*y.getD ((I*R+x')*wd+H) 0) wd (P*wd+Q)))/\Hid (Bw R2 wr))
        case atStart=>exact ⟨0,by omega,by omega,by first|rfl|simp,LP,aU⟩
        case round=>
         obtain ⟨Q,hQ,cV,rfl,L0,aD⟩:=hrel;obtain ⟨R4,cw⟩:∃ q:World,q=wr:=⟨_,rfl⟩
         subst cw;by_cases bw:Q < wd
         ·have cz:(Q:Int) < (wd:Int):=by omega
          have xA:Cel R4 w.heap.size (.slice (some ⟨qa,oa,none⟩) 2 c) (.slice p2 n2 c2):=((XA.out.up ba.2).stay an.2 (by have:=Hg.out;omega)).up aD.out;have xB:Cel R4 (w.heap.size+1) (.slice (some ⟨qb,ob,none⟩) 3 c3) (.slice p4 n4 c4):=((XB.out.up ba.2).stay an.2 (by have:=Hg.out;omega)).up aD.out;have br:Bw w R4:=a_c an.1 aD.out;have bJ:P*L+J*st+Q < R*L:=by have q1:=HP.2.2.2.1 J aX;have q2:(P+1)*L<=R*L:=mul_le_mul_right L bs;rw [Nat.add_mul,Nat.one_mul] at q2;omega
          have bG:(I*R+P)*wd+Q < O*R*wd:=b_D (b_D bM bs) bw;have cj:R*L<=4096/\O*R*wd<=4096:=⟨ak.2.2.2.2.1,ak.2.2.2.2.2⟩
          have bZ:n2=R*L:=by rw [<- HX.1];exact ak.2.2.1
          have bI:n4=O*R*wd:=by rw [<- HY.1];exact ak.2.2.2.1
          obtain ⟨qx,ox,cn,bL⟩:=HX.2 (P*L+J*st+Q) (by omega);obtain ⟨qy,oy,cm,b2⟩:=HY.2 ((I*R+P)*wd+Q) (by omega);subst cn cm;have aA:=a_d bL br;have ay:=a_d b2 br;have cs:=a_b aA;have cc:=a_b ay;have a2:=b_y ak.1 (P*L+J*st+Q);have a6:=b_y ak.2.1 ((I*R+P)*wd+Q);have cD:P*wd+Q < R*wd:=b_D bs bw;have ch:R*wd<=O*R*wd:=by rw [Nat.mul_assoc];exact Nat.le_mul_of_pos_left _ HP.1
          have cv:O*R*wd<=4096:=HP.2.1
          have aj:((c_B (fun x' H=>x.getD (x'*L+J*st+H) 0*y.getD ((I*R+x')*wd+H) 0) wd (P*wd+Q)).natAbs:Int)+((x.getD (P*L+J*st+Q) 0*y.getD ((I*R+P)*wd+Q) 0).natAbs:Int) < 115792089237316195423570985008687907853269984665640564039457584007913129639936:=by
           have q1:=m_S (f:=(fun x' H=>x.getD (x'*L+J*st+H) 0*y.getD ((I*R+x')*wd+H) 0)) (B:=85070591730234615865843651857942052864) (by omega) wd (P*wd+Q) (fun q _=>prod_rng (b_y ak.1 _) (b_y ak.2.1 _));have q2:=prod_rng a2 a6;generalize x.getD (P*L+J*st+Q) 0*y.getD ((I*R+P)*wd+Q) 0=z at *;generalize c_B (fun x' H=>x.getD (x'*L+J*st+H) 0*y.getD ((I*R+x')*wd+H) 0) wd (P*wd+Q)=z' at *;omega
          have eS:c_B (fun x' H=>x.getD (x'*L+J*st+H) 0*y.getD ((I*R+x')*wd+H) 0) wd (P*wd+(Q+1))=c_B (fun x' H=>x.getD (x'*L+J*st+H) 0*y.getD ((I*R+x')*wd+H) 0) wd (P*wd+Q)+x.getD (P*L+J*st+Q) 0*y.getD ((I*R+P)*wd+Q) 0:=m_R _ bw;obtain ⟨SS,aF⟩:∃ q9:Int,c_B (fun x' H=>x.getD (x'*L+J*st+H) 0*y.getD ((I*R+x')*wd+H) 0) wd (P*wd+Q)=q9:=⟨_,rfl⟩
          rw [aF] at L0 eS aj;obtain ⟨X,eX⟩:∃ X,x.getD (P*L+J*st+Q) 0=X:=⟨_,rfl⟩
          obtain ⟨Y,eY⟩:∃ Y,y.getD ((I*R+P)*wd+Q) 0=Y:=⟨_,rfl⟩
          rw [eX] at aA a2;rw [eY] at ay a6;rw [eX,eY] at aj eS;have HS:Hid (c_B (fun x' H=>x.getD (x'*L+J*st+H) 0*y.getD ((I*R+x')*wd+H) 0) wd (P*wd+(Q+1))=SS+X*Y):=eS;obtain ⟨be,aQ⟩:∃ q,P*L=q:=⟨_,rfl⟩
          have ck:(P:Int)*(L:Int)=(be:Int):=by rw [<- aQ];push_cast;rfl
          obtain ⟨bb,aN⟩:∃ q,J*st=q:=⟨_,rfl⟩
          have b6:(J:Int)*(st:Int)=(bb:Int):=by rw [<- aN];push_cast;rfl
          obtain ⟨a8,bh⟩:∃ q,be+bb=q:=⟨_,rfl⟩
          have b3:(be:Int)+(bb:Int)=(a8:Int):=by omega
          obtain ⟨bo,bk⟩:∃ q,a8+Q=q:=⟨_,rfl⟩
          have b7:(a8:Int)+(Q:Int)=(bo:Int):=by omega
          rw [aQ,aN,bh,bk] at bJ aA;obtain ⟨aW,aI⟩:∃ q,I*R=q:=⟨_,rfl⟩
          have cp:(I:Int)*(R:Int)=(aW:Int):=by rw [<- aI];push_cast;rfl
          obtain ⟨aB,bg⟩:∃ q,aW+P=q:=⟨_,rfl⟩
          have ci:(aW:Int)+(P:Int)=(aB:Int):=by omega
          have bU:aB<=aB*wd:=Nat.le_mul_of_pos_right _ HP.2.2.1;obtain ⟨a4,ax⟩:∃ q,aB*wd=q:=⟨_,rfl⟩
          have cu:(aB:Int)*(wd:Int)=(a4:Int):=by rw [<- ax];push_cast;rfl
          rw [ax] at bU;obtain ⟨bA,bi⟩:∃ q,a4+Q=q:=⟨_,rfl⟩
          have b5:(a4:Int)+(Q:Int)=(bA:Int):=by omega
          rw [aI,bg,ax,bi] at bG ay;have cr:(bo:Int) < (n2:Int)/\(bA:Int) < (n4:Int)/\(n2:Int)<=4096/\(n4:Int)<=4096/\(be:Int)<=4096/\(bb:Int)<=4096/\(a8:Int)<=4096/\(bo:Int)<=4096/\(aW:Int)<=4096/\(aB:Int)<=4096/\(a4:Int)<=4096/\(bA:Int)<=4096:=by omega
          obtain ⟨r,u0,u1,u2,u3,bC,q0,q1,q2,q3,q4,z0,z1,z2,z3,z4,hN⟩:=L0.out;obtain ⟨zp,hp,bT⟩:=Rf.timesD a2 a6;obtain ⟨pr,v0,v1,v2,v3,rfl,hp⟩:=hp.agg;obtain ⟨zs,hs,bQ⟩:=Rf.plusD hN hp aj;obtain ⟨sr,t0,t1,t2,t3,rfl,hs⟩:=hs.agg;have cd:Hid (Rf.IsS (.agg #[.bool sr,.int .u64 t0,.int .u64 t1,.int .u64 t2,.int .u64 t3]) (SS+X*Y)):=hs;obtain ⟨a0,a1,_,_⟩:=xA;obtain ⟨b0,b1,_,_⟩:=xB;have a9:=a_b a0;have b9:=a_b b0;clear eX eY aF eS aj a2 a6 bL b2 hN hp hs aQ aN bh bk aI bg ax bi bU bJ bG cj bZ bI br;go_wp2_with fail
          apply e_K 29 163 (by kernel_rfl) rfl rfl (by kernel_rfl)
          ·intro F hF hFc hFf;simp only [take_succ_cons,take_zero]
           repeat (go_big_quiet_step (first|(go_at_call 101;with_reducible exact hF.call (bT _))|(go_at_call 100;with_reducible exact hF.call (bQ _))))
           refine wpQuiet_nil ?_;exact rfl
          ·intro W2 aE;simp only [drop_succ_cons,drop_zero];have M:=L0.out.up aE;have N0:Hid (LiesS (((((W2.setCell ⟨R2.heap.size,0,none⟩ (.bool sr)).setCell ⟨R2.heap.size,1,none⟩ (.int .u64 t0)).setCell ⟨R2.heap.size,2,none⟩ (.int .u64 t1)).setCell ⟨R2.heap.size,3,none⟩ (.int .u64 t2)).setCell ⟨R2.heap.size,4,none⟩ (.int .u64 t3)) R2.heap.size (SS+X*Y)):=M.set cd.out;have B2:Hid (Bw R2 (((((W2.setCell ⟨R2.heap.size,0,none⟩ (.bool sr)).setCell ⟨R2.heap.size,1,none⟩ (.int .u64 t0)).setCell ⟨R2.heap.size,2,none⟩ (.int .u64 t1)).setCell ⟨R2.heap.size,3,none⟩ (.int .u64 t2)).setCell ⟨R2.heap.size,4,none⟩ (.int .u64 t3))):=d_X (a_c aD.out aE) _ (Nat.le_refl _) _ _ _ _ _;obtain ⟨r',w0,cZ,c7,dk,cP,cW,cX,dc,cY,c6,df,dj,dh,da,c0,_⟩:=M;clear aE bT bQ q0 q1 q2 q3 q4 z0 z1 z2 z3 z4 bC L0 aD aA ay cs cc a0 a1 b0 b1 a9 b9;go_wp2;go_roundg (wd - (Q+1))
           case measure=>omega
           case rel=>exact ⟨Q+1,by omega,rfl,by first|rfl|simp,by rw [HS.out];exact N0,B2⟩
         ·obtain rfl:wd=Q:=by omega
          rw [p_g] at L0;go_wp2;go_roundg (R - (P+1))
          case measure=>omega
          case rel=>exact ⟨P+1,by omega,rfl,by first|rfl|simp,L0,aD⟩
       ·obtain rfl:R=P:=by omega
        have xT:Cel R3 b8 (.slice p8 n8 c8) (.slice (some ⟨g,0,none⟩) NM cg):=(XT.out.stay an.2 (by have:=Hg.out;omega)).up aU.out;have aG:I*S+J < O*S:=b_D bM aX
        have eZ:V.getD (I*S+J) 0=rnd (c_B (fun x' H=>x.getD (x'*L+J*st+H) 0*y.getD ((I*R+x')*wd+H) 0) wd (R*wd)):=by
         rw [HV.1,p_h _ _ _ _ _ _ _ _ _ aG];unfold j_j;rw [b_8 _ _ _ aX,c_l _ _ _ aX]
        obtain ⟨SS,aF⟩:∃ q9:Int,c_B (fun x' H=>x.getD (x'*L+J*st+H) 0*y.getD ((I*R+x')*wd+H) 0) wd (R*wd)=q9:=⟨_,rfl⟩
        rw [aF] at LP eZ;rw [HV.2.2] at aG;obtain ⟨a7,az⟩:∃ q,I*S=q:=⟨_,rfl⟩
        have b4:(I:Int)*(S:Int)=(a7:Int):=by rw [<- az];push_cast;rfl
        obtain ⟨aa,bl⟩:∃ q,a7+J=q:=⟨_,rfl⟩
        have cq:(a7:Int)+(J:Int)=(aa:Int):=by omega
        rw [az,bl] at aG eZ bv;have ce:Hid (I*S+(J+1)=aa+1):=by show _=_;rw [az];omega
        obtain ⟨Z,bD⟩:∃ Z,V.getD aa 0=Z:=⟨_,rfl⟩
        have HZ:Hid (V.getD aa 0=Z):=bD;have cr:(aa:Int) < (NM:Int)/\(a7:Int)<=4096/\(aa:Int)<=4096:=by omega
        obtain ⟨r,u0,u1,u2,u3,bC,q0,q1,q2,q3,q4,z0,z1,z2,z3,z4,hN⟩:=LP.out;obtain ⟨zh,hh,bV⟩:=Rf.halvedD hN;obtain ⟨hr,v0,v1,v2,v3,rfl,hh⟩:=hh.agg
        have bY:∀ W,Calls Tryz.prog 102 #[.agg #[.bool hr,.int .u64 v0,.int .u64 v1,.int .u64 v2,.int .u64 v3]] W fun e w'=>e = .returned (.int .i64 Z)/\Bw W w':=fun W=>by
         rw [<- bD,eZ];exact Rf.heldS _ _ hh W
        obtain ⟨t0,t1,_,_⟩:=xT;have t9:=a_b t0;clear eZ bD aF az bl hN hh;go_wp2_with fail
        apply e_K 11 163 (by kernel_rfl) rfl rfl (by kernel_rfl)
        ·intro F hF hFc hFf;simp only [take_succ_cons,take_zero]
         repeat (go_big_quiet_step (first|(go_at_call 103;with_reducible exact hF.call (bV _))|(go_at_call 102;with_reducible exact hF.call (bY _))))
         refine wpQuiet_nil ?_;exact rfl
        ·intro W2 aE;simp only [drop_succ_cons,drop_zero];have ab:=a_c aU.out aE;have bx:=bv.out.up ab;obtain ⟨bX,di⟩:=bx.cell (by rw [a_y];exact HV.2.1) aa aG;have c9:=a_b bX
         have H5:Hid (OwnK .i64 48 (W2.setCell ⟨g,aa,none⟩ (.int .i64 Z)) g (.slice (some ⟨g,0,none⟩) NM cg) (b_l V (I*S+(J+1)))):=by
          have:=bx.store (by rw [a_y];exact HV.2.1) aa Z;rw [<- HZ.out,a_9 V aa (by rw [HV.2.1];exact aG)] at this;rw [<- HZ.out];show OwnK _ _ _ _ _ _;rw [ce.out];exact this
         have cl:w.heap.size<=g:=by have:=Hg.out;omega
         have H6:Hid (Bw w (W2.setCell ⟨g,aa,none⟩ (.int .i64 Z))/\Stay g W9 (W2.setCell ⟨g,aa,none⟩ (.int .i64 Z))):=⟨(a_c an.1 ab).setCell (p:=⟨g,aa,none⟩) cl _,(an.2.up ab).set _ _⟩
         clear aE ab bx bV bY q0 q1 q2 q3 q4 z0 z1 z2 z3 z4 bC LP aU t0 t1 t9;go_wp2;go_roundg (S - (J+1))
         case measure=>omega
         case rel=>exact ⟨J+1,by omega,rfl,by first|rfl|simp,H5,H6⟩
     ·obtain rfl:S=J:=by omega
      have H7:Hid (OwnK .i64 48 R2 g (.slice (some ⟨g,0,none⟩) NM cg) (b_l V ((I+1)*S))):=by
       show OwnK _ _ _ _ _ _;rw [Nat.add_mul,Nat.one_mul];exact bv.out
      go_wp2;go_roundg (O - (I+1))
      case measure=>omega
      case rel=>exact ⟨I+1,by omega,rfl,by first|rfl|simp,H7,an⟩
   ·obtain rfl:O=I:=by omega
    have aP:=bz.out;rw [HV.2.2,<- HV.2.1,a_0,HV.2.1] at aP;have xR:Cel R1 (w.heap.size+1+1) (.slice none 0 0) (.slice none 0 0):=(XR.out.up ba.2).stay aJ.2 (by have:=Hg.out;omega);have xT:Cel R1 b8 (.slice p8 n8 c8) (.slice (some ⟨g,0,none⟩) NM cg):=XT.out.stay aJ.2 (by have:=Hg.out;omega);have o1:=bO.1.stay aJ.2 bO.2
    have HF:Hid (TRes (set2 R1 (w.heap.size+1+1) (.slice p8 n8 c8) (.slice (some ⟨g,0,none⟩) NM cg)) w.heap.size (.agg #[.slice p8 n8 c8,.slice (some ⟨g,0,none⟩) NM cg]) bp V/\Bw w (set2 R1 (w.heap.size+1+1) (.slice p8 n8 c8) (.slice (some ⟨g,0,none⟩) NM cg))):=
     ⟨(TRes.set (B:=W0.heap.size) (o1.low Hg.2.2.2) (aP.low Hg.1) Hg.2.1).low (by have:=Hg.out;omega),a_q aJ.1 _ (by omega) _ _⟩
    have cf:=xR.set (.slice p8 n8 c8) (.slice (some ⟨g,0,none⟩) NM cg);obtain ⟨t0,t1,_,_⟩:=xT;obtain ⟨r0,r1,r2,r3⟩:=xR;obtain ⟨y0,y1,_,_⟩:=cf;have t9:=a_b t0;clear aP o1;go_wp2;exact bodyPost_ret (v:=.tuple #[.agg #[.slice p8 n8 c8,.slice (some ⟨g,0,none⟩) NM cg],.int .i64 0]) (by simp [results,Tryz.results77,go_sem,y0,y1]) rfl ⟨_,rfl,HF.out⟩
 ·have cG:Hid (∀ W v,Nums .i64 W v [(O:Int),(S:Int)]->Calls Tryz.prog 65 #[v] W fun e w'=>e = .returned (.bool false)/\w'=W):=fun W v hv=>by
   have:=b_g v [(O:Int),(S:Int)] (g_N h8 aR) W hv;rw [decide_eq_false hg] at this;exact this
  rw [show m_0 [(O:Int),(S:Int)]=2 from if_neg hg,show l_j [(O:Int),(S:Int)] = [] from if_neg hg,if_neg hg];clear hx hy bq bm nx ny HX HY hg hS bB bd bP aR;go_enter Tryz.func77,Tryz.ntmps77;go_wp2_with fail
  generalize aM:alloc _ _=W0;obtain ⟨aH,XA,XB,XR⟩:=t_y aM;clear aM;refine (cA W0 aH).mono ?_;rintro e w1 ⟨rfl,am⟩;have af:=b_5 (a_c aH am) am;clear am cA;obtain ⟨b0,b1,_,_⟩:=XB.out.up af.2;go_wp2_with fail
  refine (cB w1 af.1).mono ?_;rintro e w2 ⟨rfl,ab⟩;have E:=b_5 (a_c af.1 ab) (a_c af.2 ab);clear ab cB b0 b1 af;obtain ⟨a0,a1,_,_⟩:=XA.out.up E.2;obtain ⟨b0,b1,_,_⟩:=XB.out.up E.2;have a9:=a_b a0;have b9:=a_b b0;have ad:=a_d aS E.1;have ap:=a_b ad;have ai:=a_d bc E.1;have aq:=a_b ai;have ae:=a_d a5 E.1;have al:=a_b ae;have ag:=a_d aV E.1;have aw:=a_b ag;have ac:=a_d aT E.1;have ao:=a_b ac;go_wp2_with fail
  go_quiet (fail)
  generalize ah:drewN w2 nq=w3;have A:Hid (Bw w w3/\Bw W0 w3):=by rw [<- ah];exact ⟨a_i E.1 nq,a_i E.2 nq⟩
  clear ah;clear a0 a1 b0 b1 a9 b9 ad ap ai aq ae al ag aw ac ao;obtain ⟨a0,a1,_,_⟩:=XA.out.up A.2;obtain ⟨b0,b1,_,_⟩:=XB.out.up A.2;have a9:=a_b a0;have b9:=a_b b0;have ad:=a_d aS A.1;have ap:=a_b ad;have ai:=a_d bc A.1;have aq:=a_b ai;have ae:=a_d a5 A.1;have al:=a_b ae;have ag:=a_d aV A.1;have aw:=a_b ag;have ac:=a_d aT A.1;have ao:=a_b ac;go_wp2_with fail
  go_quiet (fail)
  generalize ah:drewN w3 nq=w4;have av:Hid (Bw w w4/\Bw W0 w4):=by rw [<- ah];exact ⟨a_i A.1 nq,a_i A.2 nq⟩
  clear ah;clear a0 a1 b0 b1 a9 b9 ad ap ai aq ae al ag aw ac ao;go_wp2_with fail
  generalize au:alloc _ _=W5;have ar:Bw w4 W5:=by rw [<- au];exact a_a w4 _
  have aC:=b_5 (a_c av.1 ar) (a_c av.2 ar);have aY:Hid (Nums .i64 W5 (.slice (some ⟨w4.heap.size,0,none⟩) 2 2) [(O:Int),(S:Int)]):=by show Nums _ _ _ _;rw [<- au];exact a_8 (k:=.i64) w4 [(O:Int),(S:Int)] 2 (0,0) rfl
  clear au ar A av;refine (cG.out W5 _ aY.out).mono ?_;rintro e w6 ⟨rfl,rfl⟩;obtain ⟨BF,r0,r1,r2,r3,y0,y1⟩:=i_N XR aC.1 aC.2 (by omega);go_wp2;exact brn 2 (by simp [results,Tryz.results77,go_sem,y0,y1]) ⟨_,rfl,TRes.none _ _,BF⟩
end Go.Proofs.YtkfpainpomobfaaGreatDoor.Wd
