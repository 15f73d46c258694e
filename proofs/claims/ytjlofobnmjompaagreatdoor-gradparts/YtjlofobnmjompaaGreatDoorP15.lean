/- The greatest of so many: what conv.first -/
import Derived.Test.YtjlofobnmjompaaGreatDoorP13
set_option linter.unusedVariables false
set_option linter.unusedSimpArgs false
set_option maxHeartbeats 16000000
set_option maxRecDepth 16000
namespace Go.Proofs.YtjlofobnmjompaaGreatDoor.Wd
open Go.RowKit Fx
theorem j_P (v:List Int) (b wd:Nat) (hb:b+wd<=v.length):∀ m,m < wd->b+c_q ((v.drop b).take wd) 0 m=c_q v b m
 | 0,_=>rfl
 | m+1,hm=>by
  have H:=j_P v b wd hb m (by omega);have E:=(e_T ((v.drop b).take wd) 0 m).2
  have e:∀ j,j < wd->((v.drop b).take wd).getD j 0=v.getD (b+j) 0:=fun j D=>by
   rw [List.getD_eq_getElem?_getD,List.getD_eq_getElem?_getD,List.getElem?_take_of_lt D,List.getElem?_drop]
  rw [c_q,c_q,e _ (by omega),e _ (by omega),H,show b+(0+(m+1))=b+(m+1) by omega]
  split <;> omega
theorem m_m (p:Option Addr) (n c:Nat) (l:List Int) (hl:RI l) (hn:1<=n) (ab:n<=4096) (w:World) (hv:Nums .i64 w (.slice p n c) l):
  Calls Tryz.prog 157 #[.slice p n c] w fun e w'=>e = .returned (.int .i64 ((c_q l 0 (n - 1):Nat):Int))/\w'=w:=by
 obtain ⟨_,_,_,e4,V⟩:=hv.lst;cases e4;have ae:(n:Int)<=4096:=by omega
 have HL:Hid (RI l):=hl;clear hv hl;haveI:Nonempty World:=⟨w⟩
 go_enter Tryz.func157,Tryz.ntmps157;go_wp2_with fail
 go_loopg [3,8] n (fun gg r i wr=>∃ (k:Nat),k<=n/\gg=n - k/\i = .int .i64 (k:Int)/\r = .int .i64 ((c_q l 0 (k - 1):Nat):Int)/\Hid (wr=w))
 case atStart=>exact ⟨0,by omega,by omega,by first|rfl|simp,rfl,rfl⟩
 case round=>
  obtain ⟨k,hk,ac,rfl,rfl,hW⟩:=hrel;obtain rfl:=hW.out;by_cases M:k < n
  ·have J:(k:Int) < (n:Int):=by omega
   have O:=(e_T l 0 (k - 1)).2;obtain ⟨b,H⟩:∃ b,c_q l 0 (k - 1)=b:=⟨_,rfl⟩
   rw [H] at O;have R:b < n:=by omega
   have ad:(b:Int) < (n:Int):=by omega
   obtain ⟨q,o,rfl,U⟩:=V.out.2 k M;obtain ⟨q',o',e',d2⟩:=V.out.2 b R;cases e';have l1:=a_a U;obtain ⟨X,E⟩:∃ X,l.getD k 0=X:=⟨_,rfl⟩
   obtain ⟨Y,D⟩:∃ Y,l.getD b 0=Y:=⟨_,rfl⟩
   rw [E] at U;rw [D] at d2;rw [H];by_cases I:Y < X
   ·have L:Hid (c_q l 0 (k+1 - 1)=k):=by
     show _=_;cases k with
     | zero=>
      obtain rfl:b=0:=by omega
      rw [E] at D;omega
     | succ m=>
      rw [show m+1+1 - 1=m+1 by omega,c_q,show c_q l 0 m=b from H,D,show 0+(m+1)=m+1 by omega,E,if_pos I]
    clear E D H;go_wp2;go_roundg (n - (k+1))
    case measure=>omega
    case rel=>exact ⟨k+1,by omega,rfl,by first|rfl|simp,by rw [L.out],rfl⟩
   ·have L:Hid (c_q l 0 (k+1 - 1)=b):=by
     show _=_;cases k with
     | zero=>omega
     | succ m=>
      rw [show m+1+1 - 1=m+1 by omega,c_q,show c_q l 0 m=b from H,D,show 0+(m+1)=m+1 by omega,E,if_neg I]
    have aa:X<=Y:=by omega
    clear E D H;go_wp2;go_roundg (n - (k+1))
    case measure=>omega
    case rel=>exact ⟨k+1,by omega,rfl,by first|rfl|simp,by rw [L.out],rfl⟩
  ·obtain rfl:k=n:=by omega
   have J:¬ (k:Int) < (k:Int):=by omega
   go_wp2;go_ret;exact ⟨rfl,rfl⟩
/-- Pool: what the document says. -/
abbrev plW (d:List Int) (wd:Int):Prop:=1<=wd/\wd<=d.getD 1 0
def plE (d x:List Int) (wd:Int):Int:=if isP d x then if d.length=2 then if plW d wd then 0 else 1 else 4 else 1
def plD (d x:List Int) (wd:Int):List Int:=if isP d x/\d.length=2/\plW d wd then [d.getD 0 0,(((d.getD 1 0).toNat / wd.toNat:Nat):Int)] else []
def plV (d x:List Int) (wd:Int):List Int:=if isP d x/\d.length=2/\plW d wd then h_X (d.getD 0 0).toNat (d.getD 1 0).toNat ((d.getD 1 0).toNat / wd.toNat) wd.toNat x else []
def plP (d x:List Int) (wd:Int):List Int:=if isP d x/\d.length=2/\plW d wd then e_y (d.getD 0 0).toNat (d.getD 1 0).toNat ((d.getD 1 0).toNat / wd.toNat) wd.toNat x else []
theorem i_F {d x:List Int} {wd:Int} (h:¬ (isP d x/\d.length=2/\plW d wd)):plD d x wd = []/\plV d x wd = []/\plP d x wd = []:=⟨if_neg h,if_neg h,if_neg h⟩
theorem j_Q (c l n D:Nat) (v:List Int) (q:Nat) (h:q < c*n):(e_y c l n D v).getD q 0=((f_0 l n D v q:Nat):Int):=a_I _ _ _ _ h
theorem o_n (c l n D:Nat) (v:List Int) (q:Nat) (h:q < c*n):(h_X c l n D v).getD q 0=v.getD (f_0 l n D v q) 0:=a_I _ _ _ _ h
theorem j_R (p p2:Option Addr) (n c n2 c2:Nat) (d x:List Int) (wd:Int) (hd:RI d) (hx:RI x) (bh:n2<=c2) (w:World) (h1:Nums .i64 w (.slice p n c) d) (h2:Nums .i64 w (.slice p2 n2 c2) x):
  Calls Tryz.prog 128 #[.agg #[.slice p n c,.slice p2 n2 c2],.int .i64 wd] w fun e w'=>∃ v' u',e = .returned (.tuple #[v',u',.int .i64 (plE d x wd)])/\TRes w' w.heap.size v' (plD d x wd) (plV d x wd)/\OwnK .i64 3 w' w.heap.size u' (plP d x wd)/\Below w.heap.size w w':=by
 have cA:=fun W (hW:Below w.heap.size w W)=>a_C _ _ d x hd W (h1.up hW) (h2.up hW);obtain ⟨_,_,_,e4,HD⟩:=h1.lst;cases e4;obtain ⟨_,_,_,e4,HX⟩:=h2.lst;cases e4;haveI:Nonempty World:=⟨w⟩
 by_cases hp:isP d x
 ·rw [decide_eq_true hp] at cA;have bI:n<=4:=by have:=hp.1.1;rw [a_R,HD.out.1] at this;exact this
  have bp:(n:Int)<=4:=by omega
  by_cases hn:n=2
  ·subst hn;obtain ⟨O,I,rfl,ax,k0,k1,k2⟩:=a_Y hp HD.out.1
   have aM:Hid (∃ q o,p=some ⟨q,o,none⟩/\w.cell? ⟨q,o,none⟩=some (.int .i64 (O:Int))/\w.cell? ⟨q,o+1,none⟩=some (.int .i64 (I:Int))):=by
    obtain ⟨q,o,rfl,bc⟩:=HD.out.2 0 (by omega);obtain ⟨q',o',e',bi⟩:=HD.out.2 1 (by omega);cases e';exact ⟨_,_,rfl,bc,bi⟩
   obtain ⟨qa,oa,rfl,aF,aH⟩:=aM.out;have zD:=c_L k2 k0 k1;have bz:(O:Int)<=4096/\(I:Int)<=4096:=by omega
   by_cases hw:1<=wd/\wd<=(I:Int)
   ·obtain ⟨M,rfl⟩:∃ q:Nat,wd=q:=⟨wd.toNat,by omega⟩
    have au:isP [(O:Int),(I:Int)] x/\[(O:Int),(I:Int)].length=2/\plW [(O:Int),(I:Int)] (M:Int):=⟨hp,rfl,hw⟩
    obtain ⟨q,eq⟩:∃ q,I / M=q:=⟨_,rfl⟩
    have e1:plE [(O:Int),(I:Int)] x (M:Int)=0/\plD [(O:Int),(I:Int)] x (M:Int) = [(O:Int),(q:Int)]/\plV [(O:Int),(I:Int)] x (M:Int)=h_X O I q M x/\plP [(O:Int),(I:Int)] x (M:Int)=e_y O I q M x:=by
     rw [<- eq];refine ⟨?_,?_,?_,?_⟩
     ·unfold plE;rw [if_pos hp,if_pos (show [(O:Int),(I:Int)].length=2 from rfl),if_pos au.2.2]
     ·unfold plD;rw [if_pos au];rfl
     ·unfold plV;rw [if_pos au];rfl
     ·unfold plP;rw [if_pos au];rfl
    rw [e1.1,e1.2.1,e1.2.2.1,e1.2.2.2];have aO:1<=M/\M<=I:=by omega
    have aQ:q*M<=I:=by rw [<- eq];exact Nat.div_mul_le_self I M
    have bg:1<=q:=by rw [<- eq];exact (Nat.le_div_iff_mul_le (by omega)).2 (by omega)
    have a7:q<=I:=by rw [<- eq];exact Nat.div_le_self I M
    have bH:(I:Int) / (M:Int)=(q:Int):=by rw [<- eq];rfl
    obtain ⟨J,aj⟩:∃ N,O*q=N:=⟨_,rfl⟩
    have bo:(O:Int)*(q:Int)=(J:Int):=by rw [<- aj];push_cast;rfl
    have bB:1<=J/\J<=4096:=⟨by rw [<- aj];exact Nat.mul_le_mul k0 bg,by rw [<- aj];exact Nat.le_trans (Nat.mul_le_mul_left O a7) k2⟩
    have bn:1<=(J:Int)/\(J:Int)<=4096:=by omega
    obtain ⟨V,eV⟩:∃ V,h_X O I q M x=V:=⟨_,rfl⟩
    obtain ⟨P,eP⟩:∃ P,e_y O I q M x=P:=⟨_,rfl⟩
    rw [eV,eP]
    have HV:Hid (V.length=J/\P.length=J/\(∀ i,i < J->P.getD i 0=((f_0 I q M x i:Nat):Int)/\V.getD i 0=x.getD (f_0 I q M x i) 0/\i / q*I+i % q*M+M<=O*I/\f_0 I q M x i < O*I)):=by
     refine ⟨by rw [<- eV,h_Y,aj],by rw [<- eP,m_c,aj],fun i hi=>?_⟩;rw [<- aj] at hi;exact ⟨by rw [<- eP];exact j_Q _ _ _ _ _ _ hi,by rw [<- eV];exact o_n _ _ _ _ _ _ hi,i_z x hi aO.1 aQ⟩
    have ab:Hid (RI x/\x.length=O*I/\n2=O*I/\O*I<=4096/\n2<=c2/\Nums .i64 w (.slice p2 n2 c2) x):=⟨hx,ax,by rw [<- HX.out.1];exact ax,k2,bh,h2⟩
    have bx:1<=(M:Int)/\(M:Int)<=(I:Int)/\(q:Int)<=4096/\1<=(q:Int):=by omega
    clear e1 au eV eP aj eq hp hx ax h1 h2 HD aM k0 k1 k2 aQ hw hd;go_enter Tryz.func128,Tryz.ntmps128;go_wp2_with fail
    generalize H:World.alloc _ _=W0;have U:=b_W (w:=w) H (by go_grown);have XA:Hid (Cel W0 w.heap.size (.slice (some ⟨qa,oa,none⟩) 2 c) (.slice p2 n2 c2)):=a_F H (by simp [go_sem]);have XR:Hid (Cel W0 (w.heap.size+1) (.slice none 0 0) (.slice none 0 0)):=a_F H (by simp [go_sem]);clear H;refine (cA W0 U.out).mono ?_;rintro e w1 ⟨rfl,L⟩;have D:=a_N (a_c U.out L) L;clear L cA;obtain ⟨a0,a1,_,_⟩:=XA.out.up D.out.2;have a9:=a_a a0;have ah:=a_d aF D.out.1;have av:=a_d aH D.out.1;have am:=a_a ah;go_wp2_with fail
    go_quiet (fail)
    generalize af:World.drewN w1 nq=w5;have ac:Hid (Below w.heap.size w w5/\Below W0.heap.size W0 w5):=by rw [<- af];exact ⟨a_m D.out.1 nq,a_m D.out.2 nq⟩
    clear af a0 a1 a9 ah av am
    go_wp2_with (first
     |(at_make;refine a_y k_w (by decide) w5 rfl (.tmp 44) (.tmp 44) rfl .i64 .i64 J J J rfl rfl rfl rfl (by omega) w.heap.size w ac.out.1.size ac.out.1 ?_;intro w6 aK B6 aL)
     |(at_make;refine a_y i_g (by decide) w6 rfl (.tmp 48) (.tmp 48) rfl .i64 .i64 J J J rfl rfl rfl rfl (by omega) w.heap.size w aL.size aL ?_;intro w7 aS B7 aR))
    have bd:Hid (Below w.heap.size w w7/\Below W0.heap.size W0 w7):=⟨aR,a_c ac.out.2 (a_c B6 B7)⟩
    have HG:Hid (w5.heap.size < w6.heap.size/\W0.heap.size<=w5.heap.size/\w.heap.size+1 < W0.heap.size):=⟨aK.out.size,ac.out.2.size,a_a XR.out.1⟩
    have a3:Hid (OwnK .i64 23 w7 w5.heap.size (.slice (some ⟨w5.heap.size,0,none⟩) J J) (b_I V 0)/\OwnK .i64 3 w7 w6.heap.size (.slice (some ⟨w6.heap.size,0,none⟩) J J) (b_I P 0)):=⟨by rw [a_1,HV.out.1];exact aK.out.up B7,by rw [a_1,HV.out.2.1];exact aS.out⟩
    obtain ⟨gp,aV⟩:∃ g,w5.heap.size=g:=⟨_,rfl⟩
    obtain ⟨gl,a2⟩:∃ g,w6.heap.size=g:=⟨_,rfl⟩
    rw [aV,a2] at a3 HG ⊢;clear aK aS B6 aL B7 aR aV a2;go_wp2_with fail
    go_loopg [52] J (fun gg i wr=>∃ (k:Nat),k<=J/\gg=J - k/\i = .int .i64 (k:Int)/\Hid (OwnK .i64 23 wr gp (.slice (some ⟨gp,0,none⟩) J J) (b_I V k)/\OwnK .i64 3 wr gl (.slice (some ⟨gl,0,none⟩) J J) (b_I P k))/\Hid (Below w.heap.size w wr/\Below W0.heap.size W0 wr))
    case atStart=>exact ⟨0,by omega,by omega,by first|rfl|simp,a3,bd⟩
    case round=>
     obtain ⟨k,hk,bA,rfl,HO,ag⟩:=hrel;obtain ⟨R1,bf⟩:∃ R1:World,R1=wr:=⟨_,rfl⟩
     subst bf;by_cases ae:k < J
     ·have bb:(k:Int) < (J:Int):=by omega
      obtain ⟨eP,eV,aa,ar⟩:=HV.out.2.2 k ae;have aY:k / q<=k:=Nat.div_le_self k q;have aZ:k % q<=k:=Nat.mod_le k q;have a8:=ab.out.2.2.2.1;have ai:=j_P x (k / q*I+k % q*M) M (by rw [ab.out.2.1];exact aa) (M - 1) (by omega);have ak:f_0 I q M x k=c_q x (k / q*I+k % q*M) (M - 1):=rfl;obtain ⟨kd,aw⟩:∃ a,k / q=a:=⟨_,rfl⟩
      obtain ⟨km,az⟩:∃ a,k % q=a:=⟨_,rfl⟩
      have bm:(k:Int) / (q:Int)=(kd:Int):=by rw [<- aw];rfl
      have bq:(k:Int) % (q:Int)=(km:Int):=by rw [<- az];rfl
      rw [aw,az] at aa ai ak;rw [aw] at aY;rw [az] at aZ;obtain ⟨A,eA⟩:∃ a,kd*I=a:=⟨_,rfl⟩
      obtain ⟨B,eB⟩:∃ a,km*M=a:=⟨_,rfl⟩
      have bv:(kd:Int)*(I:Int)=(A:Int):=by rw [<- eA];push_cast;rfl
      have bC:(km:Int)*(M:Int)=(B:Int):=by rw [<- eB];push_cast;rfl
      rw [eA,eB] at aa ai ak;obtain ⟨C,eC⟩:∃ a,A+B=a:=⟨_,rfl⟩
      have bw:(A:Int)+(B:Int)=(C:Int):=by omega
      rw [eC] at aa ai ak;rw [<- ai] at ak;obtain ⟨bst,aN⟩:∃ a,c_q ((x.drop C).take M) 0 (M - 1)=a:=⟨_,rfl⟩
      rw [aN] at ak;rw [ak] at eP eV ar;obtain ⟨E,eE⟩:∃ a,C+M=a:=⟨_,rfl⟩
      have bE:(C:Int)+(M:Int)=(E:Int):=by omega
      obtain ⟨PP,aW⟩:∃ a,C+bst=a:=⟨_,rfl⟩
      have bl:(C:Int)+(bst:Int)=(PP:Int):=by omega
      rw [aW] at eP eV ar;obtain ⟨Z,eZ⟩:∃ Z,x.getD PP 0=Z:=⟨_,rfl⟩
      rw [eZ] at eV;have bD:(kd:Int)<=4096/\(km:Int)<=4096/\(A:Int)<=4096/\(B:Int)<=4096/\(C:Int)<=4096/\(E:Int)<=4096/\(PP:Int) < (n2:Int)/\(n2:Int)<=4096/\(bst:Int)<=4096:=by have:=ab.out.2.2.1;omega
      have aT:∀ W,Sem.run Tryz.prog (Instr.slice 24 (.slice p2 n2 c2) (some (.int .i64 (C:Int))) (some (.int .i64 (E:Int))) none) W = .ok (sliced p2 C E c2 1) W:=fun W=>l_Q p2 n2 c2 C E (by omega) (by have:=ab.out.2.2;omega) W;obtain ⟨pc,aB⟩:=d_b p2 C E c2;rw [show E - C=M by omega] at aB
      have cF:Hid (∀ W,Below w.heap.size w W->Calls Tryz.prog 157 #[.slice pc M (c2 - C)] W fun e w'=>e = .returned (.int .i64 (bst:Int))/\w'=W):=fun W hW=>by
       have hc:=g_R (i:=C) (j:=E) (by omega) (by have:=ab.out.2.2.1;omega) (by rw [ab.out.2.1];exact ab.out.2.2.1.symm) ab.out.2.2.2.2.1 (ab.out.2.2.2.2.2.up hW);rw [aB,show E - C=M by omega] at hc;have:=m_m pc M (c2 - C) _ (fun z hz=>ab.out.1 z (List.mem_of_mem_drop (List.mem_of_mem_take hz))) aO.1 (by omega) W hc;rw [aN] at this;exact this
      rw [aB] at aT;have HZ:Hid (P.getD k 0=(PP:Int)/\V.getD k 0=Z):=⟨eP,eV⟩
      obtain ⟨_,_,_,e4,aX⟩:=ab.out.2.2.2.2.2.lst;cases e4;obtain ⟨qx,ox,ba,aP⟩:=aX.out.2 PP (by omega);subst ba;rw [eZ] at aP;have a6:Hid (w.cell? ⟨qx,ox+PP,none⟩=some (.int .i64 Z)):=aP;obtain ⟨a0,a1,_,_⟩:=XA.out.up ag.out.2;have a9:=a_a a0;obtain ⟨R,aJ⟩:=HO.out.2.cell (by rw [a_A];exact HV.out.2.1) k ae;have ao:=a_a R;clear eP eV ak ai aN aB eZ aW eE eC eA eB aw az aP aX aa ar aY aZ a8;go_wp2_with fail
      go_quiet (fail)
      generalize aU:World.drewN R1 nq=w8;have an:Below R1.heap.size R1 w8:=by rw [<- aU];exact a_m (Below.refl _ _) nq
      have ay:Hid (OwnK .i64 23 w8 gp (.slice (some ⟨gp,0,none⟩) J J) (b_I V k)/\OwnK .i64 3 w8 gl (.slice (some ⟨gl,0,none⟩) J J) (b_I P k)):=⟨HO.out.1.up an,HO.out.2.up an⟩
      have ap:=a_N (a_c ag.out.1 an) (a_c ag.out.2 an);clear aU an a0 a1 a9 R aJ ao HO ag;obtain ⟨a0,a1,_,_⟩:=XA.out.up ap.out.2;have a9:=a_a a0;obtain ⟨R,aJ⟩:=ay.out.2.cell (by rw [a_A];exact HV.out.2.1) k ae;have ao:=a_a R;go_wp2_with fail
      refine (cF.out w8 ap.out.1).mono ?_;rintro e w9 ⟨rfl,rfl⟩;have aA:w.heap.size<=gl/\W0.heap.size<=gl/\w.heap.size<=gp/\W0.heap.size<=gp/\gl≠gp:=by have:=HG.out;omega
      have N1:Hid (OwnK .i64 23 (w9.setCell ⟨gl,k,none⟩ (.int .i64 (PP:Int))) gp (.slice (some ⟨gp,0,none⟩) J J) (b_I V k)/\OwnK .i64 3 (w9.setCell ⟨gl,k,none⟩ (.int .i64 (PP:Int))) gl (.slice (some ⟨gl,0,none⟩) J J) (b_I P (k+1))):=by
       refine ⟨ay.out.1.stay ((Stay.refl gl w9).set k _) (fun ad n c e=>by cases e;show gp≠gl;omega),?_⟩;have:=ay.out.2.store (by rw [a_A];exact HV.out.2.1) k (PP:Int);rw [<- HZ.out.1,b_r P k (by rw [HV.out.2.1];exact ae)] at this;rw [<- HZ.out.1];exact this
      have N2:Hid (Below w.heap.size w (w9.setCell ⟨gl,k,none⟩ (.int .i64 (PP:Int)))/\Below W0.heap.size W0 (w9.setCell ⟨gl,k,none⟩ (.int .i64 (PP:Int)))):=⟨ap.out.1.setCell (p:=⟨gl,k,none⟩) aA.1 _,ap.out.2.setCell (p:=⟨gl,k,none⟩) aA.2.1 _⟩
      clear ay ap cF a0 a1 a9;go_wp2_with fail
      refine a_Q (fun bu aC=>?_);rw [<- aC] at N1 N2;clear aC R aJ ao;obtain ⟨a0,a1,_,_⟩:=XA.out.up N2.out.2;have a9:=a_a a0;obtain ⟨R,_⟩:=N1.out.2.cell (by rw [a_A];exact HV.out.2.1) k ae;have ao:=a_a R
      have aD:(b_I P (k+1)).getD k 0=(PP:Int):=by
       rw [<- HZ.out.1,<- b_r P k (by rw [HV.out.2.1];exact ae)];rw [List.getD_eq_getElem?_getD,List.getElem?_set_self (by rw [a_A,HV.out.2.1];exact ae)];rfl
      rw [aD] at R;have aE:=a_d a6.out N2.out.1;have be:=a_a aE;clear aD;refine j_r 11 97 (by kernel_rfl) rfl rfl (by kernel_rfl) ?_;apply Exists.intro;refine ⟨?_,?_⟩
      ·intro F hF;have hFc:=hF.cell;have hFf:=hF.frozen;simp only [List.take_succ_cons,List.take_zero,List.eraseIdx_cons_succ,List.eraseIdx_cons_zero]
       repeat (go_big_quiet_step (fail))
       refine wpQuiet_nil ?_;exact rfl
      ·intro W5 aq;simp only [List.drop_succ_cons,List.drop_zero];have aG:=N1.out.1.up aq;have a4:=N1.out.2.up aq;obtain ⟨aI,bs⟩:=aG.cell (by rw [a_A];exact HV.out.1) k ae;have bF:=a_a aI
       have H5:Hid (OwnK .i64 23 (W5.setCell ⟨gp,k,none⟩ (.int .i64 Z)) gp (.slice (some ⟨gp,0,none⟩) J J) (b_I V (k+1))/\OwnK .i64 3 (W5.setCell ⟨gp,k,none⟩ (.int .i64 Z)) gl (.slice (some ⟨gl,0,none⟩) J J) (b_I P (k+1))):=by
        refine ⟨?_,a4.stay ((Stay.refl gp W5).set k _) (fun ad n c e=>by cases e;show gl≠gp;omega)⟩;have:=aG.store (by rw [a_A];exact HV.out.1) k Z;rw [<- HZ.out.2,b_r V k (by rw [HV.out.1];exact ae)] at this;rw [<- HZ.out.2];exact this
       have H6:Hid (Below w.heap.size w (W5.setCell ⟨gp,k,none⟩ (.int .i64 Z))/\Below W0.heap.size W0 (W5.setCell ⟨gp,k,none⟩ (.int .i64 Z))):=⟨(a_c N2.out.1 aq).setCell (p:=⟨gp,k,none⟩) aA.2.2.1 _,(a_c N2.out.2 aq).setCell (p:=⟨gp,k,none⟩) aA.2.2.2.1 _⟩
       clear aq aG a4 a0 a1 a9 R ao aE be N1 N2;go_wp2;go_roundg (J - (k+1))
       case measure=>omega
       case rel=>exact ⟨k+1,by omega,rfl,by first|rfl|simp,H5,H6⟩
     ·obtain rfl:k=J:=by omega
      have bb:¬ (k:Int) < (k:Int):=by omega
      have f1:=HO.out.1;have f2:=HO.out.2;have g1:b_I V k=V:=by have:=b_g V;rw [HV.out.1] at this;exact this
      have g2:b_I P k=P:=by have:=b_g P;rw [HV.out.2.1] at this;exact this
      rw [g1] at f1;rw [g2] at f2;have o1:OwnK .i64 3 (R1.alloc (.cells #[.int .i64 (O:Int),.int .i64 (q:Int)] 3)) R1.heap.size (.slice (some ⟨R1.heap.size,0,none⟩) 2 2) [(O:Int),(q:Int)]:=b_6 (k:=.i64) R1 [(O:Int),(q:Int)] 2 rfl (by decide);have hU:=a_b R1 (.cells #[.int .i64 (O:Int),.int .i64 (q:Int)] 3);have xr:=(XR.out.up ag.out.2).up hU;have bj:=HG.out;have a5:=ag.out.2.size
      have HF:Hid (TRes (set2 (R1.alloc (.cells #[.int .i64 (O:Int),.int .i64 (q:Int)] 3)) (w.heap.size+1) (.slice (some ⟨R1.heap.size,0,none⟩) 2 2) (.slice (some ⟨gp,0,none⟩) k k)) w.heap.size (.agg #[.slice (some ⟨R1.heap.size,0,none⟩) 2 2,.slice (some ⟨gp,0,none⟩) k k]) [(O:Int),(q:Int)] V/\OwnK .i64 3 (set2 (R1.alloc (.cells #[.int .i64 (O:Int),.int .i64 (q:Int)] 3)) (w.heap.size+1) (.slice (some ⟨R1.heap.size,0,none⟩) 2 2) (.slice (some ⟨gp,0,none⟩) k k)) w.heap.size (.slice (some ⟨gl,0,none⟩) k k) P/\Below w.heap.size w (set2 (R1.alloc (.cells #[.int .i64 (O:Int),.int .i64 (q:Int)] 3)) (w.heap.size+1) (.slice (some ⟨R1.heap.size,0,none⟩) 2 2) (.slice (some ⟨gp,0,none⟩) k k))):=
       ⟨(TRes.set (B:=W0.heap.size) (o1.low a5) ((f1.up hU).low (by omega)) (by omega)).low (by omega),((f2.up hU).stay (Stay.set2 _ _ _) ((f2.up hU).off (by omega))).low (by omega),a_k (a_c ag.out.1 hU) _ (by omega) _ _⟩
      have cf:=xr.set (.slice (some ⟨R1.heap.size,0,none⟩) 2 2) (.slice (some ⟨gp,0,none⟩) k k);obtain ⟨r0,r1,r2,r3⟩:=xr;obtain ⟨y0,y1,_,_⟩:=cf;have r9:=a_a r0;clear f1 f2 g1 g2 o1 hU bj a5 HO ag;go_wp2;exact bodyPost_ret (v:=.tuple #[.agg #[.slice (some ⟨R1.heap.size,0,none⟩) 2 2,.slice (some ⟨gp,0,none⟩) k k],.slice (some ⟨gl,0,none⟩) k k,.int .i64 0]) (by simp [results,Tryz.results128,go_sem,y0,y1]) rfl ⟨_,_,rfl,HF.out⟩
   ·obtain ⟨e1,e2,e3⟩:=i_F (d:=[(O:Int),(I:Int)]) (x:=x) (wd:=wd) (fun h=>hw h.2.2)
    have e0:plE [(O:Int),(I:Int)] x wd=1:=by
     unfold plE;rw [if_pos hp,if_pos (show [(O:Int),(I:Int)].length=2 from rfl),if_neg (show ¬ plW [(O:Int),(I:Int)] wd from hw)]
    rw [e0,e1,e2,e3];clear e0 e1 e2 e3 hp hx ax h1 h2 HD HX aM hd;by_cases aO:wd < 1
    ·have bk:¬ 1<=wd:=by omega
     go_enter Tryz.func128,Tryz.ntmps128;go_wp2_with fail
     generalize H:World.alloc _ _=W0;have U:=b_W (w:=w) H (by go_grown);have XA:Hid (Cel W0 w.heap.size (.slice (some ⟨qa,oa,none⟩) 2 c) (.slice p2 n2 c2)):=a_F H (by simp [go_sem]);have XR:Hid (Cel W0 (w.heap.size+1) (.slice none 0 0) (.slice none 0 0)):=a_F H (by simp [go_sem]);clear H;refine (cA W0 U.out).mono ?_;rintro e w1 ⟨rfl,L⟩;have D:=a_N (a_c U.out L) L;clear L cA;obtain ⟨a0,a1,_,_⟩:=XA.out.up D.out.2;have a9:=a_a a0;have ah:=a_d aF D.out.1;have av:=a_d aH D.out.1;have am:=a_a ah;go_wp2_with fail
     go_quiet (fail)
     generalize af:World.drewN w1 nq=w5;have ac:Hid (Below w.heap.size w w5/\Below W0.heap.size W0 w5):=by rw [<- af];exact ⟨a_m D.out.1 nq,a_m D.out.2 nq⟩
     clear af a0 a1 a9 ah av am;have xr:=XR.out.up ac.out.2;have BF:=a_k ac.out.1 (w.heap.size+1) (by omega) (.slice none 0 0) (.slice none 0 0);have cf:=xr.set (.slice none 0 0) (.slice none 0 0);obtain ⟨r0,r1,r2,r3⟩:=xr;obtain ⟨y0,y1,_,_⟩:=cf;go_wp2;exact bodyPost_ret (v:=.tuple #[.agg #[.slice none 0 0,.slice none 0 0],.slice none 0 0,.int .i64 1]) (by simp [results,Tryz.results128,go_sem,y0,y1]) rfl ⟨_,_,rfl,TRes.none _ _,OwnK.nil _ _ _ _,BF⟩
    ·have bk:(I:Int) < wd:=by omega
     have bG:¬ wd<=(I:Int):=by omega
     go_enter Tryz.func128,Tryz.ntmps128;go_wp2_with fail
     generalize H:World.alloc _ _=W0;have U:=b_W (w:=w) H (by go_grown);have XA:Hid (Cel W0 w.heap.size (.slice (some ⟨qa,oa,none⟩) 2 c) (.slice p2 n2 c2)):=a_F H (by simp [go_sem]);have XR:Hid (Cel W0 (w.heap.size+1) (.slice none 0 0) (.slice none 0 0)):=a_F H (by simp [go_sem]);clear H;refine (cA W0 U.out).mono ?_;rintro e w1 ⟨rfl,L⟩;have D:=a_N (a_c U.out L) L;clear L cA;obtain ⟨a0,a1,_,_⟩:=XA.out.up D.out.2;have a9:=a_a a0;have ah:=a_d aF D.out.1;have av:=a_d aH D.out.1;have am:=a_a ah;go_wp2_with fail
     go_quiet (fail)
     generalize af:World.drewN w1 nq=w5;have ac:Hid (Below w.heap.size w w5/\Below W0.heap.size W0 w5):=by rw [<- af];exact ⟨a_m D.out.1 nq,a_m D.out.2 nq⟩
     clear af a0 a1 a9 ah av am;have xr:=XR.out.up ac.out.2;have BF:=a_k ac.out.1 (w.heap.size+1) (by omega) (.slice none 0 0) (.slice none 0 0);have cf:=xr.set (.slice none 0 0) (.slice none 0 0);obtain ⟨r0,r1,r2,r3⟩:=xr;obtain ⟨y0,y1,_,_⟩:=cf;go_wp2;exact bodyPost_ret (v:=.tuple #[.agg #[.slice none 0 0,.slice none 0 0],.slice none 0 0,.int .i64 1]) (by simp [results,Tryz.results128,go_sem,y0,y1]) rfl ⟨_,_,rfl,TRes.none _ _,OwnK.nil _ _ _ _,BF⟩
  ·obtain ⟨e1,e2,e3⟩:=i_F (d:=d) (x:=x) (wd:=wd) (fun h=>hn (by rw [<- HD.out.1];exact h.2.1))
   have e0:plE d x wd=4:=by
    unfold plE;rw [if_pos hp,if_neg (by rw [HD.out.1];exact hn)]
   rw [e0,e1,e2,e3];have bt:((n:Int) != 2)=true:=by simp;omega
   have br:¬ ((n:Int)=2):=by omega
   clear e0 e1 e2 e3 hp hx h1 h2 HD HX hd hn;go_enter Tryz.func128,Tryz.ntmps128;go_wp2_with fail
   generalize H:World.alloc _ _=W0;have U:=b_W (w:=w) H (by go_grown);have XA:Hid (Cel W0 w.heap.size (.slice p n c) (.slice p2 n2 c2)):=a_F H (by simp [go_sem]);have XR:Hid (Cel W0 (w.heap.size+1) (.slice none 0 0) (.slice none 0 0)):=a_F H (by simp [go_sem]);clear H;refine (cA W0 U.out).mono ?_;rintro e w1 ⟨rfl,L⟩;have D:=a_N (a_c U.out L) L;clear L cA;obtain ⟨a0,a1,_,_⟩:=XA.out.up D.out.2;have a9:=a_a a0;have xr:=XR.out.up D.out.2;have BF:=a_k D.out.1 (w.heap.size+1) (by omega) (.slice none 0 0) (.slice none 0 0);have cf:=xr.set (.slice none 0 0) (.slice none 0 0);obtain ⟨r0,r1,r2,r3⟩:=xr;obtain ⟨y0,y1,_,_⟩:=cf;go_wp2;exact bodyPost_ret (v:=.tuple #[.agg #[.slice none 0 0,.slice none 0 0],.slice none 0 0,.int .i64 4]) (by simp [results,Tryz.results128,go_sem,y0,y1]) rfl ⟨_,_,rfl,TRes.none _ _,OwnK.nil _ _ _ _,BF⟩
 ·rw [decide_eq_false hp] at cA;obtain ⟨e1,e2,e3⟩:=i_F (d:=d) (x:=x) (wd:=wd) (fun h=>hp h.1);rw [show plE d x wd=1 from if_neg hp,e1,e2,e3];clear e1 e2 e3 hp hx h1 h2 HD HX hd;go_enter Tryz.func128,Tryz.ntmps128;go_wp2_with fail
  generalize H:World.alloc _ _=W0;have U:=b_W (w:=w) H (by go_grown);have XA:Hid (Cel W0 w.heap.size (.slice p n c) (.slice p2 n2 c2)):=a_F H (by simp [go_sem]);have XR:Hid (Cel W0 (w.heap.size+1) (.slice none 0 0) (.slice none 0 0)):=a_F H (by simp [go_sem]);clear H;refine (cA W0 U.out).mono ?_;rintro e w1 ⟨rfl,L⟩;have D:=a_N (a_c U.out L) L;clear L cA;obtain ⟨a0,a1,_,_⟩:=XA.out.up D.out.2;have a9:=a_a a0;have xr:=XR.out.up D.out.2;have BF:=a_k D.out.1 (w.heap.size+1) (by omega) (.slice none 0 0) (.slice none 0 0);have cf:=xr.set (.slice none 0 0) (.slice none 0 0);obtain ⟨r0,r1,r2,r3⟩:=xr;obtain ⟨y0,y1,_,_⟩:=cf;go_wp2;exact bodyPost_ret (v:=.tuple #[.agg #[.slice none 0 0,.slice none 0 0],.slice none 0 0,.int .i64 1]) (by simp [results,Tryz.results128,go_sem,y0,y1]) rfl ⟨_,_,rfl,TRes.none _ _,OwnK.nil _ _ _ _,BF⟩
end Go.Proofs.YtjlofobnmjompaaGreatDoor.Wd
