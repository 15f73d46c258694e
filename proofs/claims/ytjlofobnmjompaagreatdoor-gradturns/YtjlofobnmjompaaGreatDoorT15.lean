/- The greatest of so many: what conv.firstGreatest and conv.Pool hand back. -/
import Derived.Test.YtjlofobnmjompaaGreatDoorT01
import Derived.Test.YtjlofobnmjompaaGreatDoorT11
import Derived.Test.YtjlofobnmjompaaGreatDoorT06
import Derived.Test.YtjlofobnmjompaaGreatDoorT13
set_option linter.unusedVariables false
set_option linter.unusedSimpArgs false
set_option maxHeartbeats 16000000
set_option maxRecDepth 16000
namespace Go.Proofs.YtjlofobnmjompaaGreatDoor.Wd
open Go.RowKit Fx
theorem j_O (v:List Int) (b wd:Nat) (hb:b+wd<=v.length):∀ m,m < wd->b+c_q ((v.drop b).take wd) 0 m=c_q v b m
 | 0,_=>rfl
 | m+1,hm=>by
  have I:=j_O v b wd hb m (by omega);have H:=(e_U ((v.drop b).take wd) 0 m).2
  have e:∀ j,j < wd->((v.drop b).take wd).getD j 0=v.getD (b+j) 0:=fun j D=>by
   rw [List.getD_eq_getElem?_getD,List.getD_eq_getElem?_getD,List.getElem?_take_of_lt D,List.getElem?_drop]
  rw [c_q,c_q,e _ (by omega),e _ (by omega),I,show b+(0+(m+1))=b+(m+1) by omega]
  split <;> omega
theorem m_f (p:Option Addr) (n c:Nat) (l:List Int) (hl:RI l) (hn:1<=n) (ad:n<=4096) (w:World) (hv:Nums .i64 w (.slice p n c) l):
  Calls Tryz.prog 157 #[.slice p n c] w fun e w'=>e = .returned (.int .i64 ((c_q l 0 (n - 1):Nat):Int))/\w'=w:=by
 obtain ⟨_,_,_,e4,HX⟩:=hv.lst;cases e4;have ab:(n:Int)<=4096:=by omega
 have HL:Hid (RI l):=hl;clear hv hl;haveI:Nonempty World:=⟨w⟩
 go_enter Tryz.func157,Tryz.ntmps157;go_wp2_with fail
 go_loopg [3,8] n (fun gg r i wr=>∃ (k:Nat),k<=n/\gg=n - k/\i = .int .i64 (k:Int)/\r = .int .i64 ((c_q l 0 (k - 1):Nat):Int)/\Hid (wr=w))
 case atStart=>exact ⟨0,by omega,by omega,by first|rfl|simp,rfl,rfl⟩
 case round=>
  obtain ⟨k,hk,ac,rfl,rfl,hW⟩:=hrel;obtain rfl:=hW.out;by_cases L:k < n
  ·have R:(k:Int) < (n:Int):=by omega
   have U:=(e_U l 0 (k - 1)).2;obtain ⟨b,D⟩:∃ b,c_q l 0 (k - 1)=b:=⟨_,rfl⟩
   rw [D] at U;have M:b < n:=by omega
   have ae:(b:Int) < (n:Int):=by omega
   obtain ⟨q,o,rfl,V⟩:=HX.out.2 k L;obtain ⟨q',o',e',d2⟩:=HX.out.2 b M;cases e';have l1:=a_a V;obtain ⟨X,H⟩:∃ X,l.getD k 0=X:=⟨_,rfl⟩
   obtain ⟨Y,I⟩:∃ Y,l.getD b 0=Y:=⟨_,rfl⟩
   rw [H] at V;rw [I] at d2;rw [D];by_cases J:Y < X
   ·have O:Hid (c_q l 0 (k+1 - 1)=k):=by
     show _=_;cases k with
     | zero=>
      obtain rfl:b=0:=by omega
      rw [H] at I;omega
     | succ m=>
      rw [show m+1+1 - 1=m+1 by omega,c_q,show c_q l 0 m=b from D,I,show 0+(m+1)=m+1 by omega,H,if_pos J]
    clear H I D;go_wp2;go_roundg (n - (k+1))
    case measure=>omega
    case rel=>exact ⟨k+1,by omega,rfl,by first|rfl|simp,by rw [O.out],rfl⟩
   ·have O:Hid (c_q l 0 (k+1 - 1)=b):=by
     show _=_;cases k with
     | zero=>omega
     | succ m=>
      rw [show m+1+1 - 1=m+1 by omega,c_q,show c_q l 0 m=b from D,I,show 0+(m+1)=m+1 by omega,H,if_neg J]
    have aa:X<=Y:=by omega
    clear H I D;go_wp2;go_roundg (n - (k+1))
    case measure=>omega
    case rel=>exact ⟨k+1,by omega,rfl,by first|rfl|simp,by rw [O.out],rfl⟩
  ·obtain rfl:k=n:=by omega
   have R:¬ (k:Int) < (k:Int):=by omega
   go_wp2;go_ret;exact ⟨rfl,rfl⟩
/-- Pool: what the document says. -/
abbrev plW (d:List Int) (wd:Int):Prop:=1<=wd/\wd<=d.getD 1 0
def plE (d x:List Int) (wd:Int):Int:=if isP d x then if d.length=2 then if plW d wd then 0 else 1 else 4 else 1
def plD (d x:List Int) (wd:Int):List Int:=if isP d x/\d.length=2/\plW d wd then [d.getD 0 0,(((d.getD 1 0).toNat / wd.toNat:Nat):Int)] else []
def plV (d x:List Int) (wd:Int):List Int:=if isP d x/\d.length=2/\plW d wd then h_U (d.getD 0 0).toNat (d.getD 1 0).toNat ((d.getD 1 0).toNat / wd.toNat) wd.toNat x else []
def plP (d x:List Int) (wd:Int):List Int:=if isP d x/\d.length=2/\plW d wd then e_y (d.getD 0 0).toNat (d.getD 1 0).toNat ((d.getD 1 0).toNat / wd.toNat) wd.toNat x else []
theorem i_C {d x:List Int} {wd:Int} (h:¬ (isP d x/\d.length=2/\plW d wd)):plD d x wd = []/\plV d x wd = []/\plP d x wd = []:=⟨if_neg h,if_neg h,if_neg h⟩
theorem j_P (c l n D:Nat) (v:List Int) (q:Nat) (h:q < c*n):(e_y c l n D v).getD q 0=((f_0 l n D v q:Nat):Int):=a_I _ _ _ _ h
theorem o_d (c l n D:Nat) (v:List Int) (q:Nat) (h:q < c*n):(h_U c l n D v).getD q 0=v.getD (f_0 l n D v q) 0:=a_I _ _ _ _ h
theorem j_Q (p p2:Option Addr) (n c n2 c2:Nat) (d x:List Int) (wd:Int) (hd:RI d) (hx:RI x) (bc:n2<=c2) (w:World) (h1:Nums .i64 w (.slice p n c) d) (h2:Nums .i64 w (.slice p2 n2 c2) x):
  Calls Tryz.prog 128 #[.agg #[.slice p n c,.slice p2 n2 c2],.int .i64 wd] w fun e w'=>∃ v' u',e = .returned (.tuple #[v',u',.int .i64 (plE d x wd)])/\TRes w' w.heap.size v' (plD d x wd) (plV d x wd)/\OwnK .i64 3 w' w.heap.size u' (plP d x wd)/\Below w.heap.size w w':=by
 have cA:=fun W (hW:Below w.heap.size w W)=>a_D _ _ d x hd W (h1.up hW) (h2.up hW);obtain ⟨_,_,_,e4,HD⟩:=h1.lst;cases e4;obtain ⟨_,_,_,e4,HX⟩:=h2.lst;cases e4;haveI:Nonempty World:=⟨w⟩
 by_cases hp:isP d x
 ·rw [decide_eq_true hp] at cA;have bt:n<=4:=by have:=hp.1.1;rw [a_Q,HD.out.1] at this;exact this
  have bq:(n:Int)<=4:=by omega
  by_cases hn:n=2
  ·subst hn;obtain ⟨O,I,rfl,ax,k0,k1,k2⟩:=a_X hp HD.out.1
   have aN:Hid (∃ q o,p=some ⟨q,o,none⟩/\w.cell? ⟨q,o,none⟩=some (.int .i64 (O:Int))/\w.cell? ⟨q,o+1,none⟩=some (.int .i64 (I:Int))):=by
    obtain ⟨q,o,rfl,a6⟩:=HD.out.2 0 (by omega);obtain ⟨q',o',e',bd⟩:=HD.out.2 1 (by omega);cases e';exact ⟨_,_,rfl,a6,bd⟩
   obtain ⟨qa,oa,rfl,aG,aM⟩:=aN.out;have zD:=c_M k2 k0 k1;have bA:(O:Int)<=4096/\(I:Int)<=4096:=by omega
   by_cases hw:1<=wd/\wd<=(I:Int)
   ·obtain ⟨M,rfl⟩:∃ q:Nat,wd=q:=⟨wd.toNat,by omega⟩
    have av:isP [(O:Int),(I:Int)] x/\[(O:Int),(I:Int)].length=2/\plW [(O:Int),(I:Int)] (M:Int):=⟨hp,rfl,hw⟩
    obtain ⟨q,eq⟩:∃ q,I / M=q:=⟨_,rfl⟩
    have e1:plE [(O:Int),(I:Int)] x (M:Int)=0/\plD [(O:Int),(I:Int)] x (M:Int) = [(O:Int),(q:Int)]/\plV [(O:Int),(I:Int)] x (M:Int)=h_U O I q M x/\plP [(O:Int),(I:Int)] x (M:Int)=e_y O I q M x:=by
     rw [<- eq];refine ⟨?_,?_,?_,?_⟩
     ·unfold plE;rw [if_pos hp,if_pos (show [(O:Int),(I:Int)].length=2 from rfl),if_pos av.2.2]
     ·unfold plD;rw [if_pos av];rfl
     ·unfold plV;rw [if_pos av];rfl
     ·unfold plP;rw [if_pos av];rfl
    rw [e1.1,e1.2.1,e1.2.2.1,e1.2.2.2];have aO:1<=M/\M<=I:=by omega
    have a3:q*M<=I:=by rw [<- eq];exact Nat.div_mul_le_self I M
    have bf:1<=q:=by rw [<- eq];exact (Nat.le_div_iff_mul_le (by omega)).2 (by omega)
    have bb:q<=I:=by rw [<- eq];exact Nat.div_le_self I M
    have bD:(I:Int) / (M:Int)=(q:Int):=by rw [<- eq];rfl
    obtain ⟨J,aj⟩:∃ N,O*q=N:=⟨_,rfl⟩
    have bn:(O:Int)*(q:Int)=(J:Int):=by rw [<- aj];push_cast;rfl
    have bE:1<=J/\J<=4096:=⟨by rw [<- aj];exact Nat.mul_le_mul k0 bf,by rw [<- aj];exact Nat.le_trans (Nat.mul_le_mul_left O bb) k2⟩
    have br:1<=(J:Int)/\(J:Int)<=4096:=by omega
    obtain ⟨V,eV⟩:∃ V,h_U O I q M x=V:=⟨_,rfl⟩
    obtain ⟨P,eP⟩:∃ P,e_y O I q M x=P:=⟨_,rfl⟩
    rw [eV,eP]
    have HV:Hid (V.length=J/\P.length=J/\(∀ i,i < J->P.getD i 0=((f_0 I q M x i:Nat):Int)/\V.getD i 0=x.getD (f_0 I q M x i) 0/\i / q*I+i % q*M+M<=O*I/\f_0 I q M x i < O*I)):=by
     refine ⟨by rw [<- eV,h_V,aj],by rw [<- eP,l_6,aj],fun i hi=>?_⟩;rw [<- aj] at hi;exact ⟨by rw [<- eP];exact j_P _ _ _ _ _ _ hi,by rw [<- eV];exact o_d _ _ _ _ _ _ hi,i_w x hi aO.1 a3⟩
    have ab:Hid (RI x/\x.length=O*I/\n2=O*I/\O*I<=4096/\n2<=c2/\Nums .i64 w (.slice p2 n2 c2) x):=⟨hx,ax,by rw [<- HX.out.1];exact ax,k2,bc,h2⟩
    have bu:1<=(M:Int)/\(M:Int)<=(I:Int)/\(q:Int)<=4096/\1<=(q:Int):=by omega
    clear e1 av eV eP aj eq hp hx ax h1 h2 HD aN k0 k1 k2 a3 hw hd;go_enter Tryz.func128,Tryz.ntmps128;go_wp2_with fail
    generalize H:World.alloc _ _=W0;have U:=b_C (w:=w) H (by go_grown);have XA:Hid (Cel W0 w.heap.size (.slice (some ⟨qa,oa,none⟩) 2 c) (.slice p2 n2 c2)):=a_y H (by simp [go_sem]);have XR:Hid (Cel W0 (w.heap.size+1) (.slice none 0 0) (.slice none 0 0)):=a_y H (by simp [go_sem]);clear H;refine (cA W0 U.out).mono ?_;rintro e w1 ⟨rfl,L⟩;have D:=a_M (a_c U.out L) L;clear L cA;obtain ⟨a0,a1,_,_⟩:=XA.out.up D.out.2;have a9:=a_a a0;have ah:=a_d aG D.out.1;have ap:=a_d aM D.out.1;have ao:=a_a ah;go_wp2_with fail
    go_quiet (fail)
    generalize ai:World.drewN w1 nq=w5;have ac:Hid (Below w.heap.size w w5/\Below W0.heap.size W0 w5):=by rw [<- ai];exact ⟨a_l D.out.1 nq,a_l D.out.2 nq⟩
    clear ai a0 a1 a9 ah ap ao
    go_wp2_with (first
     |(at_make;refine a_z k_u (by decide) w5 rfl (.tmp 44) (.tmp 44) rfl .i64 .i64 J J J rfl rfl rfl rfl (by omega) w.heap.size w ac.out.1.size ac.out.1 ?_;intro w6 aP B6 aJ)
     |(at_make;refine a_z i_e (by decide) w6 rfl (.tmp 48) (.tmp 48) rfl .i64 .i64 J J J rfl rfl rfl rfl (by omega) w.heap.size w aJ.size aJ ?_;intro w7 aQ B7 a2))
    have bh:Hid (Below w.heap.size w w7/\Below W0.heap.size W0 w7):=⟨a2,a_c ac.out.2 (a_c B6 B7)⟩
    have HG:Hid (w5.heap.size < w6.heap.size/\W0.heap.size<=w5.heap.size/\w.heap.size+1 < W0.heap.size):=⟨aP.out.size,ac.out.2.size,a_a XR.out.1⟩
    have aV:Hid (OwnK .i64 23 w7 w5.heap.size (.slice (some ⟨w5.heap.size,0,none⟩) J J) (b_K V 0)/\OwnK .i64 3 w7 w6.heap.size (.slice (some ⟨w6.heap.size,0,none⟩) J J) (b_K P 0)):=⟨by rw [a_Z,HV.out.1];exact aP.out.up B7,by rw [a_Z,HV.out.2.1];exact aQ.out⟩
    obtain ⟨gp,aX⟩:∃ g,w5.heap.size=g:=⟨_,rfl⟩
    obtain ⟨gl,aT⟩:∃ g,w6.heap.size=g:=⟨_,rfl⟩
    rw [aX,aT] at aV HG ⊢;clear aP aQ B6 aJ B7 a2 aX aT;go_wp2_with fail
    go_loopg [52] J (fun gg i wr=>∃ (k:Nat),k<=J/\gg=J - k/\i = .int .i64 (k:Int)/\Hid (OwnK .i64 23 wr gp (.slice (some ⟨gp,0,none⟩) J J) (b_K V k)/\OwnK .i64 3 wr gl (.slice (some ⟨gl,0,none⟩) J J) (b_K P k))/\Hid (Below w.heap.size w wr/\Below W0.heap.size W0 wr))
    case atStart=>exact ⟨0,by omega,by omega,by first|rfl|simp,aV,bh⟩
    case round=>
     obtain ⟨k,hk,bw,rfl,HO,ag⟩:=hrel;obtain ⟨R1,bj⟩:∃ R1:World,R1=wr:=⟨_,rfl⟩
     subst bj;by_cases ae:k < J
     ·have bi:(k:Int) < (J:Int):=by omega
      obtain ⟨eP,eV,aa,ar⟩:=HV.out.2.2 k ae;have aY:k / q<=k:=Nat.div_le_self k q;have aW:k % q<=k:=Nat.mod_le k q;have ba:=ab.out.2.2.2.1;have af:=j_O x (k / q*I+k % q*M) M (by rw [ab.out.2.1];exact aa) (M - 1) (by omega);have ak:f_0 I q M x k=c_q x (k / q*I+k % q*M) (M - 1):=rfl;obtain ⟨kd,aA⟩:∃ a,k / q=a:=⟨_,rfl⟩
      obtain ⟨km,aB⟩:∃ a,k % q=a:=⟨_,rfl⟩
      have bs:(k:Int) / (q:Int)=(kd:Int):=by rw [<- aA];rfl
      have bm:(k:Int) % (q:Int)=(km:Int):=by rw [<- aB];rfl
      rw [aA,aB] at aa af ak;rw [aA] at aY;rw [aB] at aW;obtain ⟨A,eA⟩:∃ a,kd*I=a:=⟨_,rfl⟩
      obtain ⟨B,eB⟩:∃ a,km*M=a:=⟨_,rfl⟩
      have bH:(kd:Int)*(I:Int)=(A:Int):=by rw [<- eA];push_cast;rfl
      have bF:(km:Int)*(M:Int)=(B:Int):=by rw [<- eB];push_cast;rfl
      rw [eA,eB] at aa af ak;obtain ⟨C,eC⟩:∃ a,A+B=a:=⟨_,rfl⟩
      have bI:(A:Int)+(B:Int)=(C:Int):=by omega
      rw [eC] at aa af ak;rw [<- af] at ak;obtain ⟨bst,aH⟩:∃ a,c_q ((x.drop C).take M) 0 (M - 1)=a:=⟨_,rfl⟩
      rw [aH] at ak;rw [ak] at eP eV ar;obtain ⟨E,eE⟩:∃ a,C+M=a:=⟨_,rfl⟩
      have bv:(C:Int)+(M:Int)=(E:Int):=by omega
      obtain ⟨PP,aZ⟩:∃ a,C+bst=a:=⟨_,rfl⟩
      have bl:(C:Int)+(bst:Int)=(PP:Int):=by omega
      rw [aZ] at eP eV ar;obtain ⟨Z,eZ⟩:∃ Z,x.getD PP 0=Z:=⟨_,rfl⟩
      rw [eZ] at eV;have bC:(kd:Int)<=4096/\(km:Int)<=4096/\(A:Int)<=4096/\(B:Int)<=4096/\(C:Int)<=4096/\(E:Int)<=4096/\(PP:Int) < (n2:Int)/\(n2:Int)<=4096/\(bst:Int)<=4096:=by have:=ab.out.2.2.1;omega
      have aS:∀ W,Sem.run Tryz.prog (Instr.slice 24 (.slice p2 n2 c2) (some (.int .i64 (C:Int))) (some (.int .i64 (E:Int))) none) W = .ok (sliced p2 C E c2 1) W:=fun W=>l_K p2 n2 c2 C E (by omega) (by have:=ab.out.2.2;omega) W;obtain ⟨pc,aw⟩:=d_b p2 C E c2;rw [show E - C=M by omega] at aw
      have cF:Hid (∀ W,Below w.heap.size w W->Calls Tryz.prog 157 #[.slice pc M (c2 - C)] W fun e w'=>e = .returned (.int .i64 (bst:Int))/\w'=W):=fun W hW=>by
       have hc:=g_S (i:=C) (j:=E) (by omega) (by have:=ab.out.2.2.1;omega) (by rw [ab.out.2.1];exact ab.out.2.2.1.symm) ab.out.2.2.2.2.1 (ab.out.2.2.2.2.2.up hW);rw [aw,show E - C=M by omega] at hc;have:=m_f pc M (c2 - C) _ (fun z hz=>ab.out.1 z (List.mem_of_mem_drop (List.mem_of_mem_take hz))) aO.1 (by omega) W hc;rw [aH] at this;exact this
      rw [aw] at aS;have HZ:Hid (P.getD k 0=(PP:Int)/\V.getD k 0=Z):=⟨eP,eV⟩
      obtain ⟨_,_,_,e4,a5⟩:=ab.out.2.2.2.2.2.lst;cases e4;obtain ⟨qx,ox,bg,aK⟩:=a5.out.2 PP (by omega);subst bg;rw [eZ] at aK;have a7:Hid (w.cell? ⟨qx,ox+PP,none⟩=some (.int .i64 Z)):=aK;obtain ⟨a0,a1,_,_⟩:=XA.out.up ag.out.2;have a9:=a_a a0;obtain ⟨R,aF⟩:=HO.out.2.cell (by rw [a_B];exact HV.out.2.1) k ae;have am:=a_a R;clear eP eV ak af aH aw eZ aZ eE eC eA eB aA aB aK a5 aa ar aY aW ba;go_wp2_with fail
      go_quiet (fail)
      generalize a4:World.drewN R1 nq=w8;have au:Below R1.heap.size R1 w8:=by rw [<- a4];exact a_l (Below.refl _ _) nq
      have ay:Hid (OwnK .i64 23 w8 gp (.slice (some ⟨gp,0,none⟩) J J) (b_K V k)/\OwnK .i64 3 w8 gl (.slice (some ⟨gl,0,none⟩) J J) (b_K P k)):=⟨HO.out.1.up au,HO.out.2.up au⟩
      have aq:=a_M (a_c ag.out.1 au) (a_c ag.out.2 au);clear a4 au a0 a1 a9 R aF am HO ag;obtain ⟨a0,a1,_,_⟩:=XA.out.up aq.out.2;have a9:=a_a a0;obtain ⟨R,aF⟩:=ay.out.2.cell (by rw [a_B];exact HV.out.2.1) k ae;have am:=a_a R;go_wp2_with fail
      refine (cF.out w8 aq.out.1).mono ?_;rintro e w9 ⟨rfl,rfl⟩;have az:w.heap.size<=gl/\W0.heap.size<=gl/\w.heap.size<=gp/\W0.heap.size<=gp/\gl≠gp:=by have:=HG.out;omega
      have N1:Hid (OwnK .i64 23 (w9.setCell ⟨gl,k,none⟩ (.int .i64 (PP:Int))) gp (.slice (some ⟨gp,0,none⟩) J J) (b_K V k)/\OwnK .i64 3 (w9.setCell ⟨gl,k,none⟩ (.int .i64 (PP:Int))) gl (.slice (some ⟨gl,0,none⟩) J J) (b_K P (k+1))):=by
       refine ⟨ay.out.1.stay ((Stay.refl gl w9).set k _) (fun ad n c e=>by cases e;show gp≠gl;omega),?_⟩;have:=ay.out.2.store (by rw [a_B];exact HV.out.2.1) k (PP:Int);rw [<- HZ.out.1,b_r P k (by rw [HV.out.2.1];exact ae)] at this;rw [<- HZ.out.1];exact this
      have N2:Hid (Below w.heap.size w (w9.setCell ⟨gl,k,none⟩ (.int .i64 (PP:Int)))/\Below W0.heap.size W0 (w9.setCell ⟨gl,k,none⟩ (.int .i64 (PP:Int)))):=⟨aq.out.1.setCell (p:=⟨gl,k,none⟩) az.1 _,aq.out.2.setCell (p:=⟨gl,k,none⟩) az.2.1 _⟩
      clear ay aq cF a0 a1 a9;go_wp2_with fail
      refine a_P (fun bB aD=>?_);rw [<- aD] at N1 N2;clear aD R aF am;obtain ⟨a0,a1,_,_⟩:=XA.out.up N2.out.2;have a9:=a_a a0;obtain ⟨R,_⟩:=N1.out.2.cell (by rw [a_B];exact HV.out.2.1) k ae;have am:=a_a R
      have aE:(b_K P (k+1)).getD k 0=(PP:Int):=by
       rw [<- HZ.out.1,<- b_r P k (by rw [HV.out.2.1];exact ae)];rw [List.getD_eq_getElem?_getD,List.getElem?_set_self (by rw [a_B,HV.out.2.1];exact ae)];rfl
      rw [aE] at R;have aC:=a_d a7.out N2.out.1;have a8:=a_a aC;clear aE;refine j_r 11 97 (by kernel_rfl) rfl rfl (by kernel_rfl) ?_;apply Exists.intro;refine ⟨?_,?_⟩
      ·intro F hF;have hFc:=hF.cell;have hFf:=hF.frozen;simp only [List.take_succ_cons,List.take_zero,List.eraseIdx_cons_succ,List.eraseIdx_cons_zero]
       repeat (go_big_quiet_step (fail))
       refine wpQuiet_nil ?_;exact rfl
      ·intro W5 an;simp only [List.drop_succ_cons,List.drop_zero];have aI:=N1.out.1.up an;have aR:=N1.out.2.up an;obtain ⟨aL,bo⟩:=aI.cell (by rw [a_B];exact HV.out.1) k ae;have bz:=a_a aL
       have H5:Hid (OwnK .i64 23 (W5.setCell ⟨gp,k,none⟩ (.int .i64 Z)) gp (.slice (some ⟨gp,0,none⟩) J J) (b_K V (k+1))/\OwnK .i64 3 (W5.setCell ⟨gp,k,none⟩ (.int .i64 Z)) gl (.slice (some ⟨gl,0,none⟩) J J) (b_K P (k+1))):=by
        refine ⟨?_,aR.stay ((Stay.refl gp W5).set k _) (fun ad n c e=>by cases e;show gl≠gp;omega)⟩;have:=aI.store (by rw [a_B];exact HV.out.1) k Z;rw [<- HZ.out.2,b_r V k (by rw [HV.out.1];exact ae)] at this;rw [<- HZ.out.2];exact this
       have H6:Hid (Below w.heap.size w (W5.setCell ⟨gp,k,none⟩ (.int .i64 Z))/\Below W0.heap.size W0 (W5.setCell ⟨gp,k,none⟩ (.int .i64 Z))):=⟨(a_c N2.out.1 an).setCell (p:=⟨gp,k,none⟩) az.2.2.1 _,(a_c N2.out.2 an).setCell (p:=⟨gp,k,none⟩) az.2.2.2.1 _⟩
       clear an aI aR a0 a1 a9 R am aC a8 N1 N2;go_wp2;go_roundg (J - (k+1))
       case measure=>omega
       case rel=>exact ⟨k+1,by omega,rfl,by first|rfl|simp,H5,H6⟩
     ·obtain rfl:k=J:=by omega
      have bi:¬ (k:Int) < (k:Int):=by omega
      have f1:=HO.out.1;have f2:=HO.out.2;have g1:b_K V k=V:=by have:=b_e V;rw [HV.out.1] at this;exact this
      have g2:b_K P k=P:=by have:=b_e P;rw [HV.out.2.1] at this;exact this
      rw [g1] at f1;rw [g2] at f2;have o1:OwnK .i64 3 (R1.alloc (.cells #[.int .i64 (O:Int),.int .i64 (q:Int)] 3)) R1.heap.size (.slice (some ⟨R1.heap.size,0,none⟩) 2 2) [(O:Int),(q:Int)]:=b_5 (k:=.i64) R1 [(O:Int),(q:Int)] 2 rfl (by decide);have hU:=a_b R1 (.cells #[.int .i64 (O:Int),.int .i64 (q:Int)] 3);have xr:=(XR.out.up ag.out.2).up hU;have be:=HG.out;have aU:=ag.out.2.size
      have HF:Hid (TRes (set2 (R1.alloc (.cells #[.int .i64 (O:Int),.int .i64 (q:Int)] 3)) (w.heap.size+1) (.slice (some ⟨R1.heap.size,0,none⟩) 2 2) (.slice (some ⟨gp,0,none⟩) k k)) w.heap.size (.agg #[.slice (some ⟨R1.heap.size,0,none⟩) 2 2,.slice (some ⟨gp,0,none⟩) k k]) [(O:Int),(q:Int)] V/\OwnK .i64 3 (set2 (R1.alloc (.cells #[.int .i64 (O:Int),.int .i64 (q:Int)] 3)) (w.heap.size+1) (.slice (some ⟨R1.heap.size,0,none⟩) 2 2) (.slice (some ⟨gp,0,none⟩) k k)) w.heap.size (.slice (some ⟨gl,0,none⟩) k k) P/\Below w.heap.size w (set2 (R1.alloc (.cells #[.int .i64 (O:Int),.int .i64 (q:Int)] 3)) (w.heap.size+1) (.slice (some ⟨R1.heap.size,0,none⟩) 2 2) (.slice (some ⟨gp,0,none⟩) k k))):=
       ⟨(TRes.set (B:=W0.heap.size) (o1.low aU) ((f1.up hU).low (by omega)) (by omega)).low (by omega),((f2.up hU).stay (Stay.set2 _ _ _) ((f2.up hU).off (by omega))).low (by omega),a_j (a_c ag.out.1 hU) _ (by omega) _ _⟩
      have cf:=xr.set (.slice (some ⟨R1.heap.size,0,none⟩) 2 2) (.slice (some ⟨gp,0,none⟩) k k);obtain ⟨r0,r1,r2,r3⟩:=xr;obtain ⟨y0,y1,_,_⟩:=cf;have r9:=a_a r0;clear f1 f2 g1 g2 o1 hU be aU HO ag;go_wp2;exact bodyPost_ret (v:=.tuple #[.agg #[.slice (some ⟨R1.heap.size,0,none⟩) 2 2,.slice (some ⟨gp,0,none⟩) k k],.slice (some ⟨gl,0,none⟩) k k,.int .i64 0]) (by simp [results,Tryz.results128,go_sem,y0,y1]) rfl ⟨_,_,rfl,HF.out⟩
   ·obtain ⟨e1,e2,e3⟩:=i_C (d:=[(O:Int),(I:Int)]) (x:=x) (wd:=wd) (fun h=>hw h.2.2)
    have e0:plE [(O:Int),(I:Int)] x wd=1:=by
     unfold plE;rw [if_pos hp,if_pos (show [(O:Int),(I:Int)].length=2 from rfl),if_neg (show ¬ plW [(O:Int),(I:Int)] wd from hw)]
    rw [e0,e1,e2,e3];clear e0 e1 e2 e3 hp hx ax h1 h2 HD HX aN hd;by_cases aO:wd < 1
    ·have bk:¬ 1<=wd:=by omega
     go_enter Tryz.func128,Tryz.ntmps128;go_wp2_with fail
     generalize H:World.alloc _ _=W0;have U:=b_C (w:=w) H (by go_grown);have XA:Hid (Cel W0 w.heap.size (.slice (some ⟨qa,oa,none⟩) 2 c) (.slice p2 n2 c2)):=a_y H (by simp [go_sem]);have XR:Hid (Cel W0 (w.heap.size+1) (.slice none 0 0) (.slice none 0 0)):=a_y H (by simp [go_sem]);clear H;refine (cA W0 U.out).mono ?_;rintro e w1 ⟨rfl,L⟩;have D:=a_M (a_c U.out L) L;clear L cA;obtain ⟨a0,a1,_,_⟩:=XA.out.up D.out.2;have a9:=a_a a0;have ah:=a_d aG D.out.1;have ap:=a_d aM D.out.1;have ao:=a_a ah;go_wp2_with fail
     go_quiet (fail)
     generalize ai:World.drewN w1 nq=w5;have ac:Hid (Below w.heap.size w w5/\Below W0.heap.size W0 w5):=by rw [<- ai];exact ⟨a_l D.out.1 nq,a_l D.out.2 nq⟩
     clear ai a0 a1 a9 ah ap ao;have xr:=XR.out.up ac.out.2;have BF:=a_j ac.out.1 (w.heap.size+1) (by omega) (.slice none 0 0) (.slice none 0 0);have cf:=xr.set (.slice none 0 0) (.slice none 0 0);obtain ⟨r0,r1,r2,r3⟩:=xr;obtain ⟨y0,y1,_,_⟩:=cf;go_wp2;exact bodyPost_ret (v:=.tuple #[.agg #[.slice none 0 0,.slice none 0 0],.slice none 0 0,.int .i64 1]) (by simp [results,Tryz.results128,go_sem,y0,y1]) rfl ⟨_,_,rfl,TRes.none _ _,OwnK.nil _ _ _ _,BF⟩
    ·have bk:(I:Int) < wd:=by omega
     have bG:¬ wd<=(I:Int):=by omega
     go_enter Tryz.func128,Tryz.ntmps128;go_wp2_with fail
     generalize H:World.alloc _ _=W0;have U:=b_C (w:=w) H (by go_grown);have XA:Hid (Cel W0 w.heap.size (.slice (some ⟨qa,oa,none⟩) 2 c) (.slice p2 n2 c2)):=a_y H (by simp [go_sem]);have XR:Hid (Cel W0 (w.heap.size+1) (.slice none 0 0) (.slice none 0 0)):=a_y H (by simp [go_sem]);clear H;refine (cA W0 U.out).mono ?_;rintro e w1 ⟨rfl,L⟩;have D:=a_M (a_c U.out L) L;clear L cA;obtain ⟨a0,a1,_,_⟩:=XA.out.up D.out.2;have a9:=a_a a0;have ah:=a_d aG D.out.1;have ap:=a_d aM D.out.1;have ao:=a_a ah;go_wp2_with fail
     go_quiet (fail)
     generalize ai:World.drewN w1 nq=w5;have ac:Hid (Below w.heap.size w w5/\Below W0.heap.size W0 w5):=by rw [<- ai];exact ⟨a_l D.out.1 nq,a_l D.out.2 nq⟩
     clear ai a0 a1 a9 ah ap ao;have xr:=XR.out.up ac.out.2;have BF:=a_j ac.out.1 (w.heap.size+1) (by omega) (.slice none 0 0) (.slice none 0 0);have cf:=xr.set (.slice none 0 0) (.slice none 0 0);obtain ⟨r0,r1,r2,r3⟩:=xr;obtain ⟨y0,y1,_,_⟩:=cf;go_wp2;exact bodyPost_ret (v:=.tuple #[.agg #[.slice none 0 0,.slice none 0 0],.slice none 0 0,.int .i64 1]) (by simp [results,Tryz.results128,go_sem,y0,y1]) rfl ⟨_,_,rfl,TRes.none _ _,OwnK.nil _ _ _ _,BF⟩
  ·obtain ⟨e1,e2,e3⟩:=i_C (d:=d) (x:=x) (wd:=wd) (fun h=>hn (by rw [<- HD.out.1];exact h.2.1))
   have e0:plE d x wd=4:=by
    unfold plE;rw [if_pos hp,if_neg (by rw [HD.out.1];exact hn)]
   rw [e0,e1,e2,e3];have bx:((n:Int) != 2)=true:=by simp;omega
   have bp:¬ ((n:Int)=2):=by omega
   clear e0 e1 e2 e3 hp hx h1 h2 HD HX hd hn;go_enter Tryz.func128,Tryz.ntmps128;go_wp2_with fail
   generalize H:World.alloc _ _=W0;have U:=b_C (w:=w) H (by go_grown);have XA:Hid (Cel W0 w.heap.size (.slice p n c) (.slice p2 n2 c2)):=a_y H (by simp [go_sem]);have XR:Hid (Cel W0 (w.heap.size+1) (.slice none 0 0) (.slice none 0 0)):=a_y H (by simp [go_sem]);clear H;refine (cA W0 U.out).mono ?_;rintro e w1 ⟨rfl,L⟩;have D:=a_M (a_c U.out L) L;clear L cA;obtain ⟨a0,a1,_,_⟩:=XA.out.up D.out.2;have a9:=a_a a0;have xr:=XR.out.up D.out.2;have BF:=a_j D.out.1 (w.heap.size+1) (by omega) (.slice none 0 0) (.slice none 0 0);have cf:=xr.set (.slice none 0 0) (.slice none 0 0);obtain ⟨r0,r1,r2,r3⟩:=xr;obtain ⟨y0,y1,_,_⟩:=cf;go_wp2;exact bodyPost_ret (v:=.tuple #[.agg #[.slice none 0 0,.slice none 0 0],.slice none 0 0,.int .i64 4]) (by simp [results,Tryz.results128,go_sem,y0,y1]) rfl ⟨_,_,rfl,TRes.none _ _,OwnK.nil _ _ _ _,BF⟩
 ·rw [decide_eq_false hp] at cA;obtain ⟨e1,e2,e3⟩:=i_C (d:=d) (x:=x) (wd:=wd) (fun h=>hp h.1);rw [show plE d x wd=1 from if_neg hp,e1,e2,e3];clear e1 e2 e3 hp hx h1 h2 HD HX hd;go_enter Tryz.func128,Tryz.ntmps128;go_wp2_with fail
  generalize H:World.alloc _ _=W0;have U:=b_C (w:=w) H (by go_grown);have XA:Hid (Cel W0 w.heap.size (.slice p n c) (.slice p2 n2 c2)):=a_y H (by simp [go_sem]);have XR:Hid (Cel W0 (w.heap.size+1) (.slice none 0 0) (.slice none 0 0)):=a_y H (by simp [go_sem]);clear H;refine (cA W0 U.out).mono ?_;rintro e w1 ⟨rfl,L⟩;have D:=a_M (a_c U.out L) L;clear L cA;obtain ⟨a0,a1,_,_⟩:=XA.out.up D.out.2;have a9:=a_a a0;have xr:=XR.out.up D.out.2;have BF:=a_j D.out.1 (w.heap.size+1) (by omega) (.slice none 0 0) (.slice none 0 0);have cf:=xr.set (.slice none 0 0) (.slice none 0 0);obtain ⟨r0,r1,r2,r3⟩:=xr;obtain ⟨y0,y1,_,_⟩:=cf;go_wp2;exact bodyPost_ret (v:=.tuple #[.agg #[.slice none 0 0,.slice none 0 0],.slice none 0 0,.int .i64 1]) (by simp [results,Tryz.results128,go_sem,y0,y1]) rfl ⟨_,_,rfl,TRes.none _ _,OwnK.nil _ _ _ _,BF⟩
end Go.Proofs.YtjlofobnmjompaaGreatDoor.Wd
