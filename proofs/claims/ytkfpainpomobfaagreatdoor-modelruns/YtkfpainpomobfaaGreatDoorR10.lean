/- The greatest of so many: what conv.first -/
import Derived.Test.YtkfpainpomobfaaGreatDoorR09
set_option linter.unusedVariables false
set_option linter.unusedSimpArgs false
set_option maxHeartbeats 16000000
set_option maxRecDepth 16000
namespace Go.Proofs.YtkfpainpomobfaaGreatDoor.Wd
open Go.RowKit Fx List World Nat
theorem k_j (v:List Int) (b wd:Nat) (hb:b+wd<=v.length):∀ m,m < wd->b+b_P ((v.drop b).take wd) 0 m=b_P v b m
 | 0,_=>rfl
 | m+1,hm=>by
  have H:=k_j v b wd hb m (by omega);have E:=(e_S ((v.drop b).take wd) 0 m).2
  have e:∀ j,j < wd->((v.drop b).take wd).getD j 0=v.getD (b+j) 0:=fun j A=>by
   rw [getD_eq_getElem?_getD,getD_eq_getElem?_getD,getElem?_take_of_lt A,getElem?_drop]
  rw [b_P,b_P,e _ (by omega),e _ (by omega),H,show b+(0+(m+1))=b+(m+1) by omega]
  split <;> omega
theorem m_5 (p:Option Addr) (n c:Nat) (l:List Int) (Z:RI l) (hn:1<=n) (ac:n<=4096) (w:World) (hv:Nums .i64 w (.slice p n c) l):
  Calls Tryz.prog 165 #[.slice p n c] w fun e w'=>e = .returned (.int .i64 ((b_P l 0 (n - 1):Nat):Int))/\w'=w:=by
 obtain ⟨_,_,_,e4,HX⟩:=hv.lst;cases e4;have ab:(n:Int)<=4096:=by omega
 have HL:Hid (RI l):=Z;clear hv Z;haveI:Nonempty World:=⟨w⟩
 go_enter Tryz.func165,Tryz.ntmps165;go_wp2_with fail
 go_loopg [3,8] n (fun gg r i wr=>∃ (k:Nat),k<=n/\gg=n - k/\i = .int .i64 (k:Int)/\r = .int .i64 ((b_P l 0 (k - 1):Nat):Int)/\Hid (wr=w))
 case atStart=>exact ⟨0,by omega,by omega,by first|rfl|simp,rfl,rfl⟩
 case round=>
  obtain ⟨k,hk,ad,rfl,rfl,hW⟩:=hrel;obtain rfl:=hW.out;by_cases R:k < n
  ·have J:(k:Int) < (n:Int):=by omega
   have O:=(e_S l 0 (k - 1)).2;obtain ⟨b,A⟩:∃ b,b_P l 0 (k - 1)=b:=⟨_,rfl⟩
   rw [A] at O;have L:b < n:=by omega
   have ae:(b:Int) < (n:Int):=by omega
   obtain ⟨q,o,rfl,V⟩:=HX.2 k R;obtain ⟨q',o',e',d2⟩:=HX.2 b L;cases e';have l1:=a_b V;obtain ⟨X,H⟩:∃ X,l.getD k 0=X:=⟨_,rfl⟩
   obtain ⟨Y,E⟩:∃ Y,l.getD b 0=Y:=⟨_,rfl⟩
   rw [H] at V;rw [E] at d2;rw [A];by_cases I:Y < X
   ·have M:Hid (b_P l 0 (k+1 - 1)=k):=by
     show _=_;cases k with
     | zero=>
      obtain rfl:b=0:=by omega
      rw [H] at E;omega
     | succ m=>
      rw [show m+1+1 - 1=m+1 by omega,b_P,show b_P l 0 m=b from A,E,show 0+(m+1)=m+1 by omega,H,if_pos I]
    clear H E A;go_wp2;go_roundg (n - (k+1))
    case measure=>omega
    case rel=>exact ⟨k+1,by omega,rfl,by first|rfl|simp,by rw [M.out],rfl⟩
   ·have M:Hid (b_P l 0 (k+1 - 1)=b):=by
     show _=_;cases k with
     | zero=>omega
     | succ m=>
      rw [show m+1+1 - 1=m+1 by omega,b_P,show b_P l 0 m=b from A,E,show 0+(m+1)=m+1 by omega,H,if_neg I]
    have aa:X<=Y:=by omega
    clear H E A;go_wp2;go_roundg (n - (k+1))
    case measure=>omega
    case rel=>exact ⟨k+1,by omega,rfl,by first|rfl|simp,by rw [M.out],rfl⟩
  ·obtain rfl:k=n:=by omega
   have J:¬ (k:Int) < (k:Int):=by omega
   go_wp2;go_ret;exact ⟨rfl,rfl⟩
/-- Pool: what the document says. -/
abbrev plW (d:List Int) (wd:Int):Prop:=1<=wd/\wd<=d.getD 1 0
def plE (d x:List Int) (wd:Int):Int:=if isP d x then if d.length=2 then if plW d wd then 0 else 1 else 4 else 1
def plD (d x:List Int) (wd:Int):List Int:=if isP d x/\d.length=2/\plW d wd then [d.getD 0 0,(((d.getD 1 0).toNat / wd.toNat:Nat):Int)] else []
def plV (d x:List Int) (wd:Int):List Int:=if isP d x/\d.length=2/\plW d wd then g_A (d.getD 0 0).toNat (d.getD 1 0).toNat ((d.getD 1 0).toNat / wd.toNat) wd.toNat x else []
def plP (d x:List Int) (wd:Int):List Int:=if isP d x/\d.length=2/\plW d wd then i_r (d.getD 0 0).toNat (d.getD 1 0).toNat ((d.getD 1 0).toNat / wd.toNat) wd.toNat x else []
theorem r_a {d x:List Int} {wd:Int} (h:¬ (isP d x/\d.length=2/\plW d wd)):plD d x wd = []/\plV d x wd = []/\plP d x wd = []:=⟨if_neg h,if_neg h,if_neg h⟩
theorem k_k (c l n A:Nat) (v:List Int) (q:Nat) (h:q < c*n):(i_r c l n A v).getD q 0=((e_n l n A v q:Nat):Int):=a_J _ _ _ _ h
theorem k_l (c l n A:Nat) (v:List Int) (q:Nat) (h:q < c*n):(g_A c l n A v).getD q 0=v.getD (e_n l n A v q) 0:=a_J _ _ _ _ h
theorem p_j (p p2:Option Addr) (n c n2 c2:Nat) (d x:List Int) (wd:Int) (hd:RI d) (hx:RI x) (bg:n2<=c2) (w:World) (h1:Nums .i64 w (.slice p n c) d) (h2:Nums .i64 w (.slice p2 n2 c2) x):
  Calls Tryz.prog 128 #[.agg #[.slice p n c,.slice p2 n2 c2],.int .i64 wd] w fun e w'=>∃ v' u',e = .returned (.tuple #[v',u',.int .i64 (plE d x wd)])/\TRes w' w.heap.size v' (plD d x wd) (plV d x wd)/\OwnK .i64 3 w' w.heap.size u' (plP d x wd)/\Bw w w':=by
 have cA:=fun W (hW:Bw w W)=>b_h _ _ d x hd W (h1.up hW) (h2.up hW);obtain ⟨_,_,_,e4,HD⟩:=h1.lst;cases e4;obtain ⟨_,_,_,e4,HX⟩:=h2.lst;cases e4;haveI:Nonempty World:=⟨w⟩
 by_cases aE:isP d x/\d.length=2/\plW d wd
 ·obtain ⟨hp,bh,be⟩:=aE;rw [decide_eq_true hp] at cA;obtain rfl:n=2:=by rw [<- HD.1];exact bh
  obtain ⟨L,H,rfl,ao,k0,k1,k2⟩:=b_G hp HD.1
  have al:Hid (∃ q o,p=some ⟨q,o,none⟩/\w.cell? ⟨q,o,none⟩=some (.int .i64 (L:Int))/\w.cell? ⟨q,o+1,none⟩=some (.int .i64 (H:Int))):=by
   obtain ⟨q,o,rfl,aU⟩:=HD.2 0 (by omega);obtain ⟨q',o',e',aR⟩:=HD.2 1 (by omega);cases e';exact ⟨_,_,rfl,aU,aR⟩
  obtain ⟨qa,oa,rfl,aL,aN⟩:=al.out;have zD:=d_C k2 k0 k1;have bp:(L:Int)<=4096/\(H:Int)<=4096:=by omega
  have hw:1<=wd/\wd<=(H:Int):=be;obtain ⟨J,rfl⟩:∃ q:Nat,wd=q:=⟨wd.toNat,by omega⟩
  have aj:isP [(L:Int),(H:Int)] x/\[(L:Int),(H:Int)].length=2/\plW [(L:Int),(H:Int)] (J:Int):=⟨hp,rfl,hw⟩
  obtain ⟨q,eq⟩:∃ q,H / J=q:=⟨_,rfl⟩
  have e1:plE [(L:Int),(H:Int)] x (J:Int)=0/\plD [(L:Int),(H:Int)] x (J:Int) = [(L:Int),(q:Int)]/\plV [(L:Int),(H:Int)] x (J:Int)=g_A L H q J x/\plP [(L:Int),(H:Int)] x (J:Int)=i_r L H q J x:=by
   rw [<- eq];refine ⟨?_,?_,?_,?_⟩
   ·unfold plE;rw [if_pos hp,if_pos (show [(L:Int),(H:Int)].length=2 from rfl),if_pos aj.2.2]
   ·unfold plD;rw [if_pos aj];rfl
   ·unfold plV;rw [if_pos aj];rfl
   ·unfold plP;rw [if_pos aj];rfl
  rw [e1.1,e1.2.1,e1.2.2.1,e1.2.2.2];have aI:1<=J/\J<=H:=by omega
  have a3:q*J<=H:=by rw [<- eq];exact div_mul_le_self H J
  have bq:1<=q:=by rw [<- eq];exact (le_div_iff_mul_le (by omega)).2 (by omega)
  have bl:q<=H:=by rw [<- eq];exact div_le_self H J
  have bG:(H:Int) / (J:Int)=(q:Int):=by rw [<- eq];rfl
  obtain ⟨I,ai⟩:∃ N,L*q=N:=⟨_,rfl⟩
  have bA:(L:Int)*(q:Int)=(I:Int):=by rw [<- ai];push_cast;rfl
  have bQ:1<=I/\I<=4096:=⟨by rw [<- ai];exact Nat.mul_le_mul k0 bq,by rw [<- ai];exact Nat.le_trans (mul_le_mul_left L bl) k2⟩
  have bz:1<=(I:Int)/\(I:Int)<=4096:=by omega
  obtain ⟨V,eV⟩:∃ V,g_A L H q J x=V:=⟨_,rfl⟩
  obtain ⟨P,eP⟩:∃ P,i_r L H q J x=P:=⟨_,rfl⟩
  rw [eV,eP]
  have HV:Hid (V.length=I/\P.length=I/\(∀ i,i < I->P.getD i 0=((e_n H q J x i:Nat):Int)/\V.getD i 0=x.getD (e_n H q J x i) 0/\i / q*H+i % q*J+J<=L*H/\e_n H q J x i < L*H)):=by
   refine ⟨by rw [<- eV,g_f,ai],by rw [<- eP,i_s,ai],fun i hi=>?_⟩;rw [<- ai] at hi;exact ⟨by rw [<- eP];exact k_k _ _ _ _ _ _ hi,by rw [<- eV];exact k_l _ _ _ _ _ _ hi,m_T x hi aI.1 a3⟩
  have ab:Hid (RI x/\x.length=L*H/\n2=L*H/\L*H<=4096/\n2<=c2/\Nums .i64 w (.slice p2 n2 c2) x):=⟨hx,ao,by rw [<- HX.1];exact ao,k2,bg,h2⟩
  have bM:1<=(J:Int)/\(J:Int)<=(H:Int)/\(q:Int)<=4096/\1<=(q:Int):=by omega
  clear e1 aj eV eP ai eq hp hx ao h1 h2 HD al k0 k1 k2 a3 hw hd;go_enter Tryz.func128,Tryz.ntmps128;go_wp2_with fail
  generalize ak:alloc _ _=W0;obtain ⟨am,XA,XR⟩:=i_M ak;clear ak;refine (cA W0 am).mono ?_;rintro e w1 ⟨rfl,ag⟩;have O:=b_5 (a_c am ag) ag;clear ag cA;obtain ⟨a0,a1,_,_⟩:=XA.out.up O.2;have a9:=a_b a0;have ar:=a_d aL O.1;have aW:=a_d aN O.1;have aV:=a_b ar;go_wp2_with fail
  go_quiet (fail)
  generalize au:drewN w1 nq=w5;have aD:Hid (Bw w w5/\Bw W0 w5):=by rw [<- au];exact ⟨a_i O.1 nq,a_i O.2 nq⟩
  clear au a0 a1 a9 ar aW aV
  go_wp2_with (first
   |(at_make;refine a_F l_5 (by decide) w5 rfl (.tmp 44) (.tmp 44) rfl .i64 .i64 I I I rfl rfl rfl rfl (by omega) w.heap.size w aD.1.size aD.1 ?_;intro w6 aT B6 aQ)
   |(at_make;refine a_F e_g (by decide) w6 rfl (.tmp 48) (.tmp 48) rfl .i64 .i64 I I I rfl rfl rfl rfl (by omega) w.heap.size w aQ.size aQ ?_;intro w7 a6 B7 aZ))
  have bt:Hid (Bw w w7/\Bw W0 w7):=⟨aZ,a_c aD.2 (a_c B6 B7)⟩
  have HG:Hid (w5.heap.size < w6.heap.size/\W0.heap.size<=w5.heap.size/\w.heap.size+1 < W0.heap.size):=⟨aT.size,aD.2.size,a_b XR.1⟩
  have bc:Hid (OwnK .i64 48 w7 w5.heap.size (.slice (some ⟨w5.heap.size,0,none⟩) I I) (b_l V 0)/\OwnK .i64 3 w7 w6.heap.size (.slice (some ⟨w6.heap.size,0,none⟩) I I) (b_l P 0)):=⟨by rw [a_W,HV.1];exact aT.out.up B7,by rw [a_W,HV.2.1];exact a6.out⟩
  obtain ⟨R,a4⟩:∃ g,w5.heap.size=g:=⟨_,rfl⟩
  obtain ⟨gl,a7⟩:∃ g,w6.heap.size=g:=⟨_,rfl⟩
  rw [a4,a7] at bc HG ⊢;clear aT a6 B6 aQ B7 aZ a4 a7;go_wp2_with fail
  go_loopg [52] I (fun gg i wr=>∃ (k:Nat),k<=I/\gg=I - k/\i = .int .i64 (k:Int)/\Hid (OwnK .i64 48 wr R (.slice (some ⟨R,0,none⟩) I I) (b_l V k)/\OwnK .i64 3 wr gl (.slice (some ⟨gl,0,none⟩) I I) (b_l P k))/\Hid (Bw w wr/\Bw W0 wr))
  case atStart=>exact ⟨0,by omega,by omega,by first|rfl|simp,bc,bt⟩
  case round=>
   obtain ⟨k,hk,bJ,rfl,HO,af⟩:=hrel;obtain ⟨R1,bo⟩:∃ R1:World,R1=wr:=⟨_,rfl⟩
   subst bo;by_cases ac:k < I
   ·have bj:(k:Int) < (I:Int):=by omega
    obtain ⟨eP,eV,aa,an⟩:=HV.2.2 k ac;have bb:k / q<=k:=div_le_self k q;have a8:k % q<=k:=mod_le k q;have bk:=ab.2.2.2.1;have ae:=k_j x (k / q*H+k % q*J) J (by rw [ab.2.1];exact aa) (J - 1) (by omega);have ah:e_n H q J x k=b_P x (k / q*H+k % q*J) (J - 1):=rfl;obtain ⟨kd,ax⟩:∃ a,k / q=a:=⟨_,rfl⟩
    obtain ⟨km,az⟩:∃ a,k % q=a:=⟨_,rfl⟩
    have bw:(k:Int) / (q:Int)=(kd:Int):=by rw [<- ax];rfl
    have bu:(k:Int) % (q:Int)=(km:Int):=by rw [<- az];rfl
    rw [ax,az] at aa ae ah;rw [ax] at bb;rw [az] at a8;obtain ⟨A,eA⟩:∃ a,kd*H=a:=⟨_,rfl⟩
    obtain ⟨B,eB⟩:∃ a,km*J=a:=⟨_,rfl⟩
    have bN:(kd:Int)*(H:Int)=(A:Int):=by rw [<- eA];push_cast;rfl
    have bD:(km:Int)*(J:Int)=(B:Int):=by rw [<- eB];push_cast;rfl
    rw [eA,eB] at aa ae ah;obtain ⟨C,eC⟩:∃ a,A+B=a:=⟨_,rfl⟩
    have bO:(A:Int)+(B:Int)=(C:Int):=by omega
    rw [eC] at aa ae ah;rw [<- ae] at ah;obtain ⟨bst,aJ⟩:∃ a,b_P ((x.drop C).take J) 0 (J - 1)=a:=⟨_,rfl⟩
    rw [aJ] at ah;rw [ah] at eP eV an;obtain ⟨E,eE⟩:∃ a,C+J=a:=⟨_,rfl⟩
    have bH:(C:Int)+(J:Int)=(E:Int):=by omega
    obtain ⟨PP,bd⟩:∃ a,C+bst=a:=⟨_,rfl⟩
    have bv:(C:Int)+(bst:Int)=(PP:Int):=by omega
    rw [bd] at eP eV an;obtain ⟨Z,eZ⟩:∃ Z,x.getD PP 0=Z:=⟨_,rfl⟩
    rw [eZ] at eV;have bI:(kd:Int)<=4096/\(km:Int)<=4096/\(A:Int)<=4096/\(B:Int)<=4096/\(C:Int)<=4096/\(E:Int)<=4096/\(PP:Int) < (n2:Int)/\(n2:Int)<=4096/\(bst:Int)<=4096:=by have:=ab.2.2.1;omega
    have ba:∀ W,Sem.run Tryz.prog (Instr.slice 26 (.slice p2 n2 c2) (some (.int .i64 (C:Int))) (some (.int .i64 (E:Int))) none) W = .ok (sliced p2 C E c2 1) W:=fun W=>j_d p2 n2 c2 C E (by omega) (by have:=ab.2.2;omega) W;obtain ⟨pc,aC⟩:=b_H p2 C E c2;rw [show E - C=J by omega] at aC
    have cF:Hid (∀ W,Bw w W->Calls Tryz.prog 165 #[.slice pc J (c2 - C)] W fun e w'=>e = .returned (.int .i64 (bst:Int))/\w'=W):=fun W hW=>by
     have hc:=d_Y (i:=C) (j:=E) (by omega) (by have:=ab.2.2.1;omega) (by rw [ab.2.1];exact ab.2.2.1.symm) ab.2.2.2.2.1 (ab.2.2.2.2.2.up hW);rw [aC,show E - C=J by omega] at hc;have:=m_5 pc J (c2 - C) _ (fun z hz=>ab.1 z (mem_of_mem_drop (mem_of_mem_take hz))) aI.1 (by omega) W hc;rw [aJ] at this;exact this
    rw [aC] at ba;have HZ:Hid (P.getD k 0=(PP:Int)/\V.getD k 0=Z):=⟨eP,eV⟩
    obtain ⟨_,_,_,e4,a5⟩:=ab.2.2.2.2.2.lst;cases e4;obtain ⟨qx,ox,bi,aP⟩:=a5.2 PP (by omega);subst bi;rw [eZ] at aP;have bm:Hid (w.cell? ⟨qx,ox+PP,none⟩=some (.int .i64 Z)):=aP;obtain ⟨a0,a1,_,_⟩:=XA.out.up af.2;have a9:=a_b a0;obtain ⟨M,aS⟩:=HO.2.cell (by rw [a_y];exact HV.2.1) k ac;have av:=a_b M;clear eP eV ah ae aJ aC eZ bd eE eC eA eB ax az aP a5 aa an bb a8 bk;go_wp2_with fail
    go_quiet (fail)
    generalize a2:drewN R1 nq=w8;have aw:Bw R1 w8:=by rw [<- a2];exact a_i (Below.refl _ _) nq
    have aB:Hid (OwnK .i64 48 w8 R (.slice (some ⟨R,0,none⟩) I I) (b_l V k)/\OwnK .i64 3 w8 gl (.slice (some ⟨gl,0,none⟩) I I) (b_l P k)):=⟨HO.1.up aw,HO.2.up aw⟩
    have ap:=b_5 (a_c af.1 aw) (a_c af.2 aw);clear a2 aw a0 a1 a9 M aS av HO af;obtain ⟨a0,a1,_,_⟩:=XA.out.up ap.2;have a9:=a_b a0;obtain ⟨M,aS⟩:=aB.2.cell (by rw [a_y];exact HV.2.1) k ac;have av:=a_b M;go_wp2_with fail
    refine (cF.out w8 ap.1).mono ?_;rintro e w9 ⟨rfl,rfl⟩;have ay:w.heap.size<=gl/\W0.heap.size<=gl/\w.heap.size<=R/\W0.heap.size<=R/\gl≠R:=by have:=HG.out;omega
    have N1:Hid (OwnK .i64 48 (w9.setCell ⟨gl,k,none⟩ (.int .i64 (PP:Int))) R (.slice (some ⟨R,0,none⟩) I I) (b_l V k)/\OwnK .i64 3 (w9.setCell ⟨gl,k,none⟩ (.int .i64 (PP:Int))) gl (.slice (some ⟨gl,0,none⟩) I I) (b_l P (k+1))):=by
     refine ⟨aB.1.stay ((Stay.refl gl w9).set k _) (fun ad n c e=>by cases e;show R≠gl;omega),?_⟩;have:=aB.2.store (by rw [a_y];exact HV.2.1) k (PP:Int);rw [<- HZ.1,a_9 P k (by rw [HV.2.1];exact ac)] at this;rw [<- HZ.1];exact this
    have N2:Hid (Bw w (w9.setCell ⟨gl,k,none⟩ (.int .i64 (PP:Int)))/\Bw W0 (w9.setCell ⟨gl,k,none⟩ (.int .i64 (PP:Int)))):=⟨ap.1.setCell (p:=⟨gl,k,none⟩) ay.1 _,ap.2.setCell (p:=⟨gl,k,none⟩) ay.2.1 _⟩
    clear aB ap cF a0 a1 a9;go_wp2_with fail
    refine a_Q (fun bK aF=>?_);rw [<- aF] at N1 N2;clear aF M aS av;obtain ⟨a0,a1,_,_⟩:=XA.out.up N2.2;have a9:=a_b a0;obtain ⟨M,_⟩:=N1.2.cell (by rw [a_y];exact HV.2.1) k ac;have av:=a_b M
    have aG:(b_l P (k+1)).getD k 0=(PP:Int):=by
     rw [<- HZ.1,<- a_9 P k (by rw [HV.2.1];exact ac)];rw [getD_eq_getElem?_getD,getElem?_set_self (by rw [a_y,HV.2.1];exact ac)];rfl
    rw [aG] at M;have aH:=a_d bm.out N2.1;have bn:=a_b aH;clear aG;apply e_K 11 97 (by kernel_rfl) rfl rfl (by kernel_rfl)
    ·intro F hF hFc hFf;simp only [take_succ_cons,take_zero]
     repeat (go_big_quiet_step (fail))
     refine wpQuiet_nil ?_;exact rfl
    ·intro W5 aq;simp only [drop_succ_cons,drop_zero];have aM:=N1.1.up aq;have aY:=N1.2.up aq;obtain ⟨aO,bx⟩:=aM.cell (by rw [a_y];exact HV.1) k ac;have bP:=a_b aO
     have H5:Hid (OwnK .i64 48 (W5.setCell ⟨R,k,none⟩ (.int .i64 Z)) R (.slice (some ⟨R,0,none⟩) I I) (b_l V (k+1))/\OwnK .i64 3 (W5.setCell ⟨R,k,none⟩ (.int .i64 Z)) gl (.slice (some ⟨gl,0,none⟩) I I) (b_l P (k+1))):=by
      refine ⟨?_,aY.stay ((Stay.refl R W5).set k _) (fun ad n c e=>by cases e;show gl≠R;omega)⟩;have:=aM.store (by rw [a_y];exact HV.1) k Z;rw [<- HZ.2,a_9 V k (by rw [HV.1];exact ac)] at this;rw [<- HZ.2];exact this
     have H6:Hid (Bw w (W5.setCell ⟨R,k,none⟩ (.int .i64 Z))/\Bw W0 (W5.setCell ⟨R,k,none⟩ (.int .i64 Z))):=⟨(a_c N2.1 aq).setCell (p:=⟨R,k,none⟩) ay.2.2.1 _,(a_c N2.2 aq).setCell (p:=⟨R,k,none⟩) ay.2.2.2.1 _⟩
     clear aq aM aY a0 a1 a9 M av aH bn N1 N2;go_wp2;go_roundg (I - (k+1))
     case measure=>omega
     case rel=>exact ⟨k+1,by omega,rfl,by first|rfl|simp,H5,H6⟩
   ·obtain rfl:k=I:=by omega
    have bj:¬ (k:Int) < (k:Int):=by omega
    have f1:=HO.1;have f2:=HO.2;have g1:b_l V k=V:=by have:=a_0 V;rw [HV.1] at this;exact this
    have g2:b_l P k=P:=by have:=a_0 P;rw [HV.2.1] at this;exact this
    rw [g1] at f1;rw [g2] at f2;have o1:OwnK .i64 3 (R1.alloc (.cells #[.int .i64 (L:Int),.int .i64 (q:Int)] 3)) R1.heap.size (.slice (some ⟨R1.heap.size,0,none⟩) 2 2) [(L:Int),(q:Int)]:=b_b (k:=.i64) R1 [(L:Int),(q:Int)] 2 rfl (by decide);have hU:=a_a R1 (.cells #[.int .i64 (L:Int),.int .i64 (q:Int)] 3);have xr:=(XR.out.up af.2).up hU;have br:=HG.out;have aX:=af.2.size
    have HF:Hid (TRes (set2 (R1.alloc (.cells #[.int .i64 (L:Int),.int .i64 (q:Int)] 3)) (w.heap.size+1) (.slice (some ⟨R1.heap.size,0,none⟩) 2 2) (.slice (some ⟨R,0,none⟩) k k)) w.heap.size (.agg #[.slice (some ⟨R1.heap.size,0,none⟩) 2 2,.slice (some ⟨R,0,none⟩) k k]) [(L:Int),(q:Int)] V/\OwnK .i64 3 (set2 (R1.alloc (.cells #[.int .i64 (L:Int),.int .i64 (q:Int)] 3)) (w.heap.size+1) (.slice (some ⟨R1.heap.size,0,none⟩) 2 2) (.slice (some ⟨R,0,none⟩) k k)) w.heap.size (.slice (some ⟨gl,0,none⟩) k k) P/\Bw w (set2 (R1.alloc (.cells #[.int .i64 (L:Int),.int .i64 (q:Int)] 3)) (w.heap.size+1) (.slice (some ⟨R1.heap.size,0,none⟩) 2 2) (.slice (some ⟨R,0,none⟩) k k))):=
     ⟨(TRes.set (B:=W0.heap.size) (o1.low aX) ((f1.up hU).low (by omega)) (by omega)).low (by omega),((f2.up hU).stay (Stay.set2 _ _ _) ((f2.up hU).off (by omega))).low (by omega),a_q (a_c af.1 hU) _ (by omega) _ _⟩
    have cf:=xr.set (.slice (some ⟨R1.heap.size,0,none⟩) 2 2) (.slice (some ⟨R,0,none⟩) k k);obtain ⟨r0,r1,r2,r3⟩:=xr;obtain ⟨y0,y1,_,_⟩:=cf;have r9:=a_b r0;clear f1 f2 g1 g2 o1 hU br aX HO af;go_wp2;exact bodyPost_ret (v:=.tuple #[.agg #[.slice (some ⟨R1.heap.size,0,none⟩) 2 2,.slice (some ⟨R,0,none⟩) k k],.slice (some ⟨gl,0,none⟩) k k,.int .i64 0]) (by simp [results,Tryz.results128,go_sem,y0,y1]) rfl ⟨_,_,rfl,HF.out⟩
 obtain ⟨e1,e2,e3⟩:=r_a aE;obtain ⟨E,eE⟩:∃ E,plE d x wd=E:=⟨_,rfl⟩
 rw [e1,e2,e3,eE];have HE:Hid (plE d x wd=E):=eE;have HO:Hid (¬ (isP d x/\d.length=2/\plW d wd)):=aE;clear e1 e2 e3 eE aE hd hx h1 h2 HX;go_enter Tryz.func128,Tryz.ntmps128;go_wp2_with fail
 generalize ak:alloc _ _=W0;obtain ⟨am,XA,XR⟩:=i_M ak;clear ak;refine (cA W0 am).mono ?_;rintro e w1 ⟨rfl,ag⟩;have O:=b_5 (a_c am ag) ag;clear ag cA;obtain ⟨a0,a1,_,_⟩:=XA.out.up O.2;have a9:=a_b a0;by_cases hp:isP d x
 case' neg=>
  rw [decide_eq_false hp];have HC:Hid (E=1):=HE.symm.trans (if_neg hp);have aA:=O
 case' pos=>
  rw [decide_eq_true hp];have bL:n<=4:=by have:=hp.1.1;rw [a_O,HD.1] at this;exact this
  have bB:(n:Int)<=4:=by omega
  by_cases hn:n=2
  case' neg=>
   have HC:Hid (E=4):=HE.symm.trans (by unfold plE;rw [if_pos hp,if_neg (by rw [HD.1];exact hn)]);have bF:((n:Int) != 2)=true:=by simp;omega
   have bC:¬ ((n:Int)=2):=by omega
   have aA:=O
  case' pos=>
   subst hn;obtain ⟨L,H,rfl,ao,k0,k1,k2⟩:=b_G hp HD.1
   have al:Hid (∃ q o,p=some ⟨q,o,none⟩/\w.cell? ⟨q,o,none⟩=some (.int .i64 (L:Int))/\w.cell? ⟨q,o+1,none⟩=some (.int .i64 (H:Int))):=by
    obtain ⟨q,o,rfl,aU⟩:=HD.2 0 (by omega);obtain ⟨q',o',e',aR⟩:=HD.2 1 (by omega);cases e';exact ⟨_,_,rfl,aU,aR⟩
   obtain ⟨qa,oa,rfl,aL,aN⟩:=al.out;have zD:=d_C k2 k0 k1;have bp:(L:Int)<=4096/\(H:Int)<=4096:=by omega
   have hw:¬ (1<=wd/\wd<=(H:Int)):=fun h=>HO.out ⟨hp,rfl,h⟩;have HC:Hid (E=1):=HE.symm.trans (by unfold plE;rw [if_pos hp,if_pos (show [(L:Int),(H:Int)].length=2 from rfl),if_neg (show ¬ plW [(L:Int),(H:Int)] wd from hw)]);have ar:=a_d aL O.1;have aW:=a_d aN O.1;have aV:=a_b ar;clear ao al hp;by_cases aI:wd < 1
   case' pos=>
    have bs:¬ 1<=wd:=by omega
   case' neg=>
    have bs:(H:Int) < wd:=by omega
    have bE:¬ wd<=(H:Int):=by omega
   all_goals
    go_wp2_with fail
    go_quiet (fail)
    generalize au:drewN w1 nq=w5;have aA:Hid (Bw w w5/\Bw W0 w5):=by rw [<- au];exact ⟨a_i O.1 nq,a_i O.2 nq⟩
    clear au a0 a1 a9 ar aW aV
 all_goals
  obtain ⟨BF,r0,r1,r2,r3,y0,y1⟩:=i_N XR aA.1 aA.2 (by omega);go_wp2;exact bodyPost_ret (v:=.tuple #[.agg #[.slice none 0 0,.slice none 0 0],.slice none 0 0,.int .i64 E]) (by simp [results,Tryz.results128,go_sem,y0,y1,HC.out]) rfl ⟨_,_,rfl,TRes.none _ _,OwnK.nil _ _ _ _,BF⟩
end Go.Proofs.YtkfpainpomobfaaGreatDoor.Wd
