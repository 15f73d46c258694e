/- The greatest of so many: what conv.first -/
import Derived.Test.YtcpbhhlepdgdkaaGreatDoorT10
set_option linter.unusedVariables false
set_option linter.unusedSimpArgs false
set_option maxHeartbeats 16000000
set_option maxRecDepth 16000
namespace Go.Proofs.YtcpbhhlepdgdkaaGreatDoor.Wd
open Go.RowKit Fx
theorem j_Y (v:List Int) (b wd:Nat) (hb:b+wd<=v.length):∀ m,m < wd->b+c_t ((v.drop b).take wd) 0 m=c_t v b m
 | 0,_=>rfl
 | m+1,hm=>by
  have D:=j_Y v b wd hb m (by omega);have H:=(e_X ((v.drop b).take wd) 0 m).2
  have e:∀ j,j < wd->((v.drop b).take wd).getD j 0=v.getD (b+j) 0:=fun j E=>by
   rw [List.getD_eq_getElem?_getD,List.getD_eq_getElem?_getD,List.getElem?_take_of_lt E,List.getElem?_drop]
  rw [c_t,c_t,e _ (by omega),e _ (by omega),D,show b+(0+(m+1))=b+(m+1) by omega]
  split <;> omega
theorem m_s (p:Option Addr) (n c:Nat) (l:List Int) (hl:RI l) (hn:1<=n) (ae:n<=4096) (w:World) (V:Nums .i64 w (.slice p n c) l):
  Calls Tryz.prog 146 #[.slice p n c] w fun e w'=>e = .returned (.int .i64 ((c_t l 0 (n - 1):Nat):Int))/\w'=w:=by
 obtain ⟨_,_,_,e4,U⟩:=V.lst;cases e4;have ac:(n:Int)<=4096:=by omega
 have HL:Hid (RI l):=hl;clear V hl;haveI:Nonempty World:=⟨w⟩
 go_enter Tryz.func146,Tryz.ntmps146;go_wp2_with fail
 go_loopg [3,8] n (fun gg r i wr=>∃ (k:Nat),k<=n/\gg=n - k/\i = .int .i64 (k:Int)/\r = .int .i64 ((c_t l 0 (k - 1):Nat):Int)/\Hid (wr=w))
 case atStart=>exact ⟨0,by omega,by omega,by first|rfl|simp,rfl,rfl⟩
 case round=>
  obtain ⟨k,hk,ab,rfl,rfl,hW⟩:=hrel;obtain rfl:=hW.out;by_cases M:k < n
  ·have O:(k:Int) < (n:Int):=by omega
   have L:=(e_X l 0 (k - 1)).2;obtain ⟨b,E⟩:∃ b,c_t l 0 (k - 1)=b:=⟨_,rfl⟩
   rw [E] at L;have R:b < n:=by omega
   have ad:(b:Int) < (n:Int):=by omega
   obtain ⟨q,o,rfl,d1⟩:=U.out.2 k M;obtain ⟨q',o',e',d2⟩:=U.out.2 b R;cases e';have l1:=a_a d1;obtain ⟨X,H⟩:∃ X,l.getD k 0=X:=⟨_,rfl⟩
   obtain ⟨Y,D⟩:∃ Y,l.getD b 0=Y:=⟨_,rfl⟩
   rw [H] at d1;rw [D] at d2;rw [E];by_cases I:Y < X
   ·have J:Hid (c_t l 0 (k+1 - 1)=k):=by
     show _=_;cases k with
     | zero=>
      obtain rfl:b=0:=by omega
      rw [H] at D;omega
     | succ m=>
      rw [show m+1+1 - 1=m+1 by omega,c_t,show c_t l 0 m=b from E,D,show 0+(m+1)=m+1 by omega,H,if_pos I]
    clear H D E;go_wp2;go_roundg (n - (k+1))
    case measure=>omega
    case rel=>exact ⟨k+1,by omega,rfl,by first|rfl|simp,by rw [J.out],rfl⟩
   ·have J:Hid (c_t l 0 (k+1 - 1)=b):=by
     show _=_;cases k with
     | zero=>omega
     | succ m=>
      rw [show m+1+1 - 1=m+1 by omega,c_t,show c_t l 0 m=b from E,D,show 0+(m+1)=m+1 by omega,H,if_neg I]
    have aa:X<=Y:=by omega
    clear H D E;go_wp2;go_roundg (n - (k+1))
    case measure=>omega
    case rel=>exact ⟨k+1,by omega,rfl,by first|rfl|simp,by rw [J.out],rfl⟩
  ·obtain rfl:k=n:=by omega
   have O:¬ (k:Int) < (k:Int):=by omega
   go_wp2;go_ret;exact ⟨rfl,rfl⟩
/-- Pool: what the document says. -/
abbrev plW (d:List Int) (wd:Int):Prop:=1<=wd/\wd<=d.getD 1 0
def plE (d x:List Int) (wd:Int):Int:=if isP d x then if d.length=2 then if plW d wd then 0 else 1 else 4 else 1
def plD (d x:List Int) (wd:Int):List Int:=if isP d x/\d.length=2/\plW d wd then [d.getD 0 0,(((d.getD 1 0).toNat / wd.toNat:Nat):Int)] else []
def plV (d x:List Int) (wd:Int):List Int:=if isP d x/\d.length=2/\plW d wd then h_8 (d.getD 0 0).toNat (d.getD 1 0).toNat ((d.getD 1 0).toNat / wd.toNat) wd.toNat x else []
def plP (d x:List Int) (wd:Int):List Int:=if isP d x/\d.length=2/\plW d wd then e_B (d.getD 0 0).toNat (d.getD 1 0).toNat ((d.getD 1 0).toNat / wd.toNat) wd.toNat x else []
theorem i_Q {d x:List Int} {wd:Int} (h:¬ (isP d x/\d.length=2/\plW d wd)):plD d x wd = []/\plV d x wd = []/\plP d x wd = []:=⟨if_neg h,if_neg h,if_neg h⟩
theorem j_Z (c l n D:Nat) (v:List Int) (q:Nat) (h:q < c*n):(e_B c l n D v).getD q 0=((f_6 l n D v q:Nat):Int):=a_J _ _ _ _ h
theorem o_v (c l n D:Nat) (v:List Int) (q:Nat) (h:q < c*n):(h_8 c l n D v).getD q 0=v.getD (f_6 l n D v q) 0:=a_J _ _ _ _ h
theorem j_0 (p p2:Option Addr) (n c n2 c2:Nat) (d x:List Int) (wd:Int) (hd:RI d) (hx:RI x) (bg:n2<=c2) (w:World) (h1:Nums .i64 w (.slice p n c) d) (h2:Nums .i64 w (.slice p2 n2 c2) x):
  Calls Tryz.prog 117 #[.agg #[.slice p n c,.slice p2 n2 c2],.int .i64 wd] w fun e w'=>∃ v' u',e = .returned (.tuple #[v',u',.int .i64 (plE d x wd)])/\TRes w' w.heap.size v' (plD d x wd) (plV d x wd)/\OwnK .i64 3 w' w.heap.size u' (plP d x wd)/\Below w.heap.size w w':=by
 have cA:=fun W (hW:Below w.heap.size w W)=>a_B _ _ d x hd W (h1.up hW) (h2.up hW);obtain ⟨_,_,_,e4,HD⟩:=h1.lst;cases e4;obtain ⟨_,_,_,e4,HX⟩:=h2.lst;cases e4;haveI:Nonempty World:=⟨w⟩
 by_cases hp:isP d x
 ·rw [decide_eq_true hp] at cA;have bv:n<=4:=by have:=hp.1.1;rw [a_Q,HD.out.1] at this;exact this
  have bq:(n:Int)<=4:=by omega
  by_cases hn:n=2
  ·subst hn;obtain ⟨O,I,rfl,az,k0,k1,k2⟩:=a_W hp HD.out.1
   have aH:Hid (∃ q o,p=some ⟨q,o,none⟩/\w.cell? ⟨q,o,none⟩=some (.int .i64 (O:Int))/\w.cell? ⟨q,o+1,none⟩=some (.int .i64 (I:Int))):=by
    obtain ⟨q,o,rfl,bi⟩:=HD.out.2 0 (by omega);obtain ⟨q',o',e',bh⟩:=HD.out.2 1 (by omega);cases e';exact ⟨_,_,rfl,bi,bh⟩
   obtain ⟨qa,oa,rfl,aM,aL⟩:=aH.out;have zD:=c_N k2 k0 k1;have bz:(O:Int)<=4096/\(I:Int)<=4096:=by omega
   by_cases hw:1<=wd/\wd<=(I:Int)
   ·obtain ⟨M,rfl⟩:∃ q:Nat,wd=q:=⟨wd.toNat,by omega⟩
    have ar:isP [(O:Int),(I:Int)] x/\[(O:Int),(I:Int)].length=2/\plW [(O:Int),(I:Int)] (M:Int):=⟨hp,rfl,hw⟩
    obtain ⟨q,eq⟩:∃ q,I / M=q:=⟨_,rfl⟩
    have e1:plE [(O:Int),(I:Int)] x (M:Int)=0/\plD [(O:Int),(I:Int)] x (M:Int) = [(O:Int),(q:Int)]/\plV [(O:Int),(I:Int)] x (M:Int)=h_8 O I q M x/\plP [(O:Int),(I:Int)] x (M:Int)=e_B O I q M x:=by
     rw [<- eq];refine ⟨?_,?_,?_,?_⟩
     ·unfold plE;rw [if_pos hp,if_pos (show [(O:Int),(I:Int)].length=2 from rfl),if_pos ar.2.2]
     ·unfold plD;rw [if_pos ar];rfl
     ·unfold plV;rw [if_pos ar];rfl
     ·unfold plP;rw [if_pos ar];rfl
    rw [e1.1,e1.2.1,e1.2.2.1,e1.2.2.2];have aO:1<=M/\M<=I:=by omega
    have aR:q*M<=I:=by rw [<- eq];exact Nat.div_mul_le_self I M
    have bc:1<=q:=by rw [<- eq];exact (Nat.le_div_iff_mul_le (by omega)).2 (by omega)
    have ba:q<=I:=by rw [<- eq];exact Nat.div_le_self I M
    have bE:(I:Int) / (M:Int)=(q:Int):=by rw [<- eq];rfl
    obtain ⟨J,aj⟩:∃ N,O*q=N:=⟨_,rfl⟩
    have bp:(O:Int)*(q:Int)=(J:Int):=by rw [<- aj];push_cast;rfl
    have bw:1<=J/\J<=4096:=⟨by rw [<- aj];exact Nat.mul_le_mul k0 bc,by rw [<- aj];exact Nat.le_trans (Nat.mul_le_mul_left O ba) k2⟩
    have br:1<=(J:Int)/\(J:Int)<=4096:=by omega
    obtain ⟨V,eV⟩:∃ V,h_8 O I q M x=V:=⟨_,rfl⟩
    obtain ⟨P,eP⟩:∃ P,e_B O I q M x=P:=⟨_,rfl⟩
    rw [eV,eP]
    have HV:Hid (V.length=J/\P.length=J/\(∀ i,i < J->P.getD i 0=((f_6 I q M x i:Nat):Int)/\V.getD i 0=x.getD (f_6 I q M x i) 0/\i / q*I+i % q*M+M<=O*I/\f_6 I q M x i < O*I)):=by
     refine ⟨by rw [<- eV,h_9,aj],by rw [<- eP,m_j,aj],fun i hi=>?_⟩;rw [<- aj] at hi;exact ⟨by rw [<- eP];exact j_Z _ _ _ _ _ _ hi,by rw [<- eV];exact o_v _ _ _ _ _ _ hi,i_K x hi aO.1 aR⟩
    have ab:Hid (RI x/\x.length=O*I/\n2=O*I/\O*I<=4096/\n2<=c2/\Nums .i64 w (.slice p2 n2 c2) x):=⟨hx,az,by rw [<- HX.out.1];exact az,k2,bg,h2⟩
    have bC:1<=(M:Int)/\(M:Int)<=(I:Int)/\(q:Int)<=4096/\1<=(q:Int):=by omega
    clear e1 ar eV eP aj eq hp hx az h1 h2 HD aH k0 k1 k2 aR hw hd;go_enter Tryz.func117,Tryz.ntmps117;go_wp2_with fail
    generalize H:World.alloc _ _=W0;have U:=b_1 (w:=w) H (by go_grown);have XA:Hid (Cel W0 w.heap.size (.slice (some ⟨qa,oa,none⟩) 2 c) (.slice p2 n2 c2)):=a_F H (by simp [go_sem]);have XR:Hid (Cel W0 (w.heap.size+1) (.slice none 0 0) (.slice none 0 0)):=a_F H (by simp [go_sem]);clear H;refine (cA W0 U.out).mono ?_;rintro e w1 ⟨rfl,L⟩;have D:=a_N (a_c U.out L) L;clear L cA;obtain ⟨a0,a1,_,_⟩:=XA.out.up D.out.2;have a9:=a_a a0;have ah:=a_d aM D.out.1;have au:=a_d aL D.out.1;have am:=a_a ah;go_wp2_with fail
    go_quiet (fail)
    generalize ag:World.drewN w1 nq=w5;have ac:Hid (Below w.heap.size w w5/\Below W0.heap.size W0 w5):=by rw [<- ag];exact ⟨a_m D.out.1 nq,a_m D.out.2 nq⟩
    clear ag a0 a1 a9 ah au am
    go_wp2_with (first
     |(at_make;refine a_y k_C (by decide) w5 rfl (.tmp 44) (.tmp 44) rfl .i64 .i64 J J J rfl rfl rfl rfl (by omega) w.heap.size w ac.out.1.size ac.out.1 ?_;intro w6 aF B6 aK)
     |(at_make;refine a_y i_r (by decide) w6 rfl (.tmp 48) (.tmp 48) rfl .i64 .i64 J J J rfl rfl rfl rfl (by omega) w.heap.size w aK.size aK ?_;intro w7 a5 B7 aS))
    have bf:Hid (Below w.heap.size w w7/\Below W0.heap.size W0 w7):=⟨aS,a_c ac.out.2 (a_c B6 B7)⟩
    have HG:Hid (w5.heap.size < w6.heap.size/\W0.heap.size<=w5.heap.size/\w.heap.size+1 < W0.heap.size):=⟨aF.out.size,ac.out.2.size,a_a XR.out.1⟩
    have aW:Hid (OwnK .i64 48 w7 w5.heap.size (.slice (some ⟨w5.heap.size,0,none⟩) J J) (b_I V 0)/\OwnK .i64 3 w7 w6.heap.size (.slice (some ⟨w6.heap.size,0,none⟩) J J) (b_I P 0)):=⟨by rw [a_1,HV.out.1];exact aF.out.up B7,by rw [a_1,HV.out.2.1];exact a5.out⟩
    obtain ⟨gp,aU⟩:∃ g,w5.heap.size=g:=⟨_,rfl⟩
    obtain ⟨gl,aX⟩:∃ g,w6.heap.size=g:=⟨_,rfl⟩
    rw [aU,aX] at aW HG ⊢;clear aF a5 B6 aK B7 aS aU aX;go_wp2_with fail
    go_loopg [52] J (fun gg i wr=>∃ (k:Nat),k<=J/\gg=J - k/\i = .int .i64 (k:Int)/\Hid (OwnK .i64 48 wr gp (.slice (some ⟨gp,0,none⟩) J J) (b_I V k)/\OwnK .i64 3 wr gl (.slice (some ⟨gl,0,none⟩) J J) (b_I P k))/\Hid (Below w.heap.size w wr/\Below W0.heap.size W0 wr))
    case atStart=>exact ⟨0,by omega,by omega,by first|rfl|simp,aW,bf⟩
    case round=>
     obtain ⟨k,hk,bx,rfl,HO,af⟩:=hrel;obtain ⟨R1,bb⟩:∃ R1:World,R1=wr:=⟨_,rfl⟩
     subst bb;by_cases ae:k < J
     ·have a7:(k:Int) < (J:Int):=by omega
      obtain ⟨eP,eV,aa,ao⟩:=HV.out.2.2 k ae;have aV:k / q<=k:=Nat.div_le_self k q;have aT:k % q<=k:=Nat.mod_le k q;have bk:=ab.out.2.2.2.1;have ai:=j_Y x (k / q*I+k % q*M) M (by rw [ab.out.2.1];exact aa) (M - 1) (by omega);have ak:f_6 I q M x k=c_t x (k / q*I+k % q*M) (M - 1):=rfl;obtain ⟨kd,ay⟩:∃ a,k / q=a:=⟨_,rfl⟩
      obtain ⟨km,ax⟩:∃ a,k % q=a:=⟨_,rfl⟩
      have bn:(k:Int) / (q:Int)=(kd:Int):=by rw [<- ay];rfl
      have bs:(k:Int) % (q:Int)=(km:Int):=by rw [<- ax];rfl
      rw [ay,ax] at aa ai ak;rw [ay] at aV;rw [ax] at aT;obtain ⟨A,eA⟩:∃ a,kd*I=a:=⟨_,rfl⟩
      obtain ⟨B,eB⟩:∃ a,km*M=a:=⟨_,rfl⟩
      have bA:(kd:Int)*(I:Int)=(A:Int):=by rw [<- eA];push_cast;rfl
      have bG:(km:Int)*(M:Int)=(B:Int):=by rw [<- eB];push_cast;rfl
      rw [eA,eB] at aa ai ak;obtain ⟨C,eC⟩:∃ a,A+B=a:=⟨_,rfl⟩
      have bI:(A:Int)+(B:Int)=(C:Int):=by omega
      rw [eC] at aa ai ak;rw [<- ai] at ak;obtain ⟨bst,aG⟩:∃ a,c_t ((x.drop C).take M) 0 (M - 1)=a:=⟨_,rfl⟩
      rw [aG] at ak;rw [ak] at eP eV ao;obtain ⟨E,eE⟩:∃ a,C+M=a:=⟨_,rfl⟩
      have bD:(C:Int)+(M:Int)=(E:Int):=by omega
      obtain ⟨PP,a2⟩:∃ a,C+bst=a:=⟨_,rfl⟩
      have bo:(C:Int)+(bst:Int)=(PP:Int):=by omega
      rw [a2] at eP eV ao;obtain ⟨Z,eZ⟩:∃ Z,x.getD PP 0=Z:=⟨_,rfl⟩
      rw [eZ] at eV;have bu:(kd:Int)<=4096/\(km:Int)<=4096/\(A:Int)<=4096/\(B:Int)<=4096/\(C:Int)<=4096/\(E:Int)<=4096/\(PP:Int) < (n2:Int)/\(n2:Int)<=4096/\(bst:Int)<=4096:=by have:=ab.out.2.2.1;omega
      have a3:∀ W,Sem.run Tryz.prog (Instr.slice 26 (.slice p2 n2 c2) (some (.int .i64 (C:Int))) (some (.int .i64 (E:Int))) none) W = .ok (sliced p2 C E c2 1) W:=fun W=>l_V p2 n2 c2 C E (by omega) (by have:=ab.out.2.2;omega) W;obtain ⟨pc,aA⟩:=d_f p2 C E c2;rw [show E - C=M by omega] at aA
      have cF:Hid (∀ W,Below w.heap.size w W->Calls Tryz.prog 146 #[.slice pc M (c2 - C)] W fun e w'=>e = .returned (.int .i64 (bst:Int))/\w'=W):=fun W hW=>by
       have hc:=g_Y (i:=C) (j:=E) (by omega) (by have:=ab.out.2.2.1;omega) (by rw [ab.out.2.1];exact ab.out.2.2.1.symm) ab.out.2.2.2.2.1 (ab.out.2.2.2.2.2.up hW);rw [aA,show E - C=M by omega] at hc;have:=m_s pc M (c2 - C) _ (fun z hz=>ab.out.1 z (List.mem_of_mem_drop (List.mem_of_mem_take hz))) aO.1 (by omega) W hc;rw [aG] at this;exact this
      rw [aA] at a3;have HZ:Hid (P.getD k 0=(PP:Int)/\V.getD k 0=Z):=⟨eP,eV⟩
      obtain ⟨_,_,_,e4,aY⟩:=ab.out.2.2.2.2.2.lst;cases e4;obtain ⟨qx,ox,bj,aI⟩:=aY.out.2 PP (by omega);subst bj;rw [eZ] at aI;have be:Hid (w.cell? ⟨qx,ox+PP,none⟩=some (.int .i64 Z)):=aI;obtain ⟨a0,a1,_,_⟩:=XA.out.up af.out.2;have a9:=a_a a0;obtain ⟨R,aN⟩:=HO.out.2.cell (by rw [a_z];exact HV.out.2.1) k ae;have aq:=a_a R;clear eP eV ak ai aG aA eZ a2 eE eC eA eB ay ax aI aY aa ao aV aT bk;go_wp2_with fail
      go_quiet (fail)
      generalize aQ:World.drewN R1 nq=w8;have av:Below R1.heap.size R1 w8:=by rw [<- aQ];exact a_m (Below.refl _ _) nq
      have aB:Hid (OwnK .i64 48 w8 gp (.slice (some ⟨gp,0,none⟩) J J) (b_I V k)/\OwnK .i64 3 w8 gl (.slice (some ⟨gl,0,none⟩) J J) (b_I P k)):=⟨HO.out.1.up av,HO.out.2.up av⟩
      have an:=a_N (a_c af.out.1 av) (a_c af.out.2 av);clear aQ av a0 a1 a9 R aN aq HO af;obtain ⟨a0,a1,_,_⟩:=XA.out.up an.out.2;have a9:=a_a a0;obtain ⟨R,aN⟩:=aB.out.2.cell (by rw [a_z];exact HV.out.2.1) k ae;have aq:=a_a R;go_wp2_with fail
      refine (cF.out w8 an.out.1).mono ?_;rintro e w9 ⟨rfl,rfl⟩;have aw:w.heap.size<=gl/\W0.heap.size<=gl/\w.heap.size<=gp/\W0.heap.size<=gp/\gl≠gp:=by have:=HG.out;omega
      have N1:Hid (OwnK .i64 48 (w9.setCell ⟨gl,k,none⟩ (.int .i64 (PP:Int))) gp (.slice (some ⟨gp,0,none⟩) J J) (b_I V k)/\OwnK .i64 3 (w9.setCell ⟨gl,k,none⟩ (.int .i64 (PP:Int))) gl (.slice (some ⟨gl,0,none⟩) J J) (b_I P (k+1))):=by
       refine ⟨aB.out.1.stay ((Stay.refl gl w9).set k _) (fun ad n c e=>by cases e;show gp≠gl;omega),?_⟩;have:=aB.out.2.store (by rw [a_z];exact HV.out.2.1) k (PP:Int);rw [<- HZ.out.1,b_r P k (by rw [HV.out.2.1];exact ae)] at this;rw [<- HZ.out.1];exact this
      have N2:Hid (Below w.heap.size w (w9.setCell ⟨gl,k,none⟩ (.int .i64 (PP:Int)))/\Below W0.heap.size W0 (w9.setCell ⟨gl,k,none⟩ (.int .i64 (PP:Int)))):=⟨an.out.1.setCell (p:=⟨gl,k,none⟩) aw.1 _,an.out.2.setCell (p:=⟨gl,k,none⟩) aw.2.1 _⟩
      clear aB an cF a0 a1 a9;go_wp2_with fail
      refine a_P (fun bF aD=>?_);rw [<- aD] at N1 N2;clear aD R aN aq;obtain ⟨a0,a1,_,_⟩:=XA.out.up N2.out.2;have a9:=a_a a0;obtain ⟨R,_⟩:=N1.out.2.cell (by rw [a_z];exact HV.out.2.1) k ae;have aq:=a_a R
      have aE:(b_I P (k+1)).getD k 0=(PP:Int):=by
       rw [<- HZ.out.1,<- b_r P k (by rw [HV.out.2.1];exact ae)];rw [List.getD_eq_getElem?_getD,List.getElem?_set_self (by rw [a_z,HV.out.2.1];exact ae)];rfl
      rw [aE] at R;have aC:=a_d be.out N2.out.1;have bd:=a_a aC;clear aE;refine j_B 11 97 (by kernel_rfl) rfl rfl (by kernel_rfl) ?_;apply Exists.intro;refine ⟨?_,?_⟩
      ·intro F hF;have hFc:=hF.cell;have hFf:=hF.frozen;simp only [List.take_succ_cons,List.take_zero,List.eraseIdx_cons_succ,List.eraseIdx_cons_zero]
       repeat (go_big_quiet_step (fail))
       refine wpQuiet_nil ?_;exact rfl
      ·intro W5 ap;simp only [List.drop_succ_cons,List.drop_zero];have aJ:=N1.out.1.up ap;have a4:=N1.out.2.up ap;obtain ⟨aP,bl⟩:=aJ.cell (by rw [a_z];exact HV.out.1) k ae;have bH:=a_a aP
       have H5:Hid (OwnK .i64 48 (W5.setCell ⟨gp,k,none⟩ (.int .i64 Z)) gp (.slice (some ⟨gp,0,none⟩) J J) (b_I V (k+1))/\OwnK .i64 3 (W5.setCell ⟨gp,k,none⟩ (.int .i64 Z)) gl (.slice (some ⟨gl,0,none⟩) J J) (b_I P (k+1))):=by
        refine ⟨?_,a4.stay ((Stay.refl gp W5).set k _) (fun ad n c e=>by cases e;show gl≠gp;omega)⟩;have:=aJ.store (by rw [a_z];exact HV.out.1) k Z;rw [<- HZ.out.2,b_r V k (by rw [HV.out.1];exact ae)] at this;rw [<- HZ.out.2];exact this
       have H6:Hid (Below w.heap.size w (W5.setCell ⟨gp,k,none⟩ (.int .i64 Z))/\Below W0.heap.size W0 (W5.setCell ⟨gp,k,none⟩ (.int .i64 Z))):=⟨(a_c N2.out.1 ap).setCell (p:=⟨gp,k,none⟩) aw.2.2.1 _,(a_c N2.out.2 ap).setCell (p:=⟨gp,k,none⟩) aw.2.2.2.1 _⟩
       clear ap aJ a4 a0 a1 a9 R aq aC bd N1 N2;go_wp2;go_roundg (J - (k+1))
       case measure=>omega
       case rel=>exact ⟨k+1,by omega,rfl,by first|rfl|simp,H5,H6⟩
     ·obtain rfl:k=J:=by omega
      have a7:¬ (k:Int) < (k:Int):=by omega
      have f1:=HO.out.1;have f2:=HO.out.2;have g1:b_I V k=V:=by have:=b_h V;rw [HV.out.1] at this;exact this
      have g2:b_I P k=P:=by have:=b_h P;rw [HV.out.2.1] at this;exact this
      rw [g1] at f1;rw [g2] at f2;have o1:OwnK .i64 3 (R1.alloc (.cells #[.int .i64 (O:Int),.int .i64 (q:Int)] 3)) R1.heap.size (.slice (some ⟨R1.heap.size,0,none⟩) 2 2) [(O:Int),(q:Int)]:=c_b (k:=.i64) R1 [(O:Int),(q:Int)] 2 rfl (by decide);have hU:=a_b R1 (.cells #[.int .i64 (O:Int),.int .i64 (q:Int)] 3);have xr:=(XR.out.up af.out.2).up hU;have a6:=HG.out;have aZ:=af.out.2.size
      have HF:Hid (TRes (set2 (R1.alloc (.cells #[.int .i64 (O:Int),.int .i64 (q:Int)] 3)) (w.heap.size+1) (.slice (some ⟨R1.heap.size,0,none⟩) 2 2) (.slice (some ⟨gp,0,none⟩) k k)) w.heap.size (.agg #[.slice (some ⟨R1.heap.size,0,none⟩) 2 2,.slice (some ⟨gp,0,none⟩) k k]) [(O:Int),(q:Int)] V/\OwnK .i64 3 (set2 (R1.alloc (.cells #[.int .i64 (O:Int),.int .i64 (q:Int)] 3)) (w.heap.size+1) (.slice (some ⟨R1.heap.size,0,none⟩) 2 2) (.slice (some ⟨gp,0,none⟩) k k)) w.heap.size (.slice (some ⟨gl,0,none⟩) k k) P/\Below w.heap.size w (set2 (R1.alloc (.cells #[.int .i64 (O:Int),.int .i64 (q:Int)] 3)) (w.heap.size+1) (.slice (some ⟨R1.heap.size,0,none⟩) 2 2) (.slice (some ⟨gp,0,none⟩) k k))):=
       ⟨(TRes.set (B:=W0.heap.size) (o1.low aZ) ((f1.up hU).low (by omega)) (by omega)).low (by omega),((f2.up hU).stay (Stay.set2 _ _ _) ((f2.up hU).off (by omega))).low (by omega),a_j (a_c af.out.1 hU) _ (by omega) _ _⟩
      have cf:=xr.set (.slice (some ⟨R1.heap.size,0,none⟩) 2 2) (.slice (some ⟨gp,0,none⟩) k k);obtain ⟨r0,r1,r2,r3⟩:=xr;obtain ⟨y0,y1,_,_⟩:=cf;have r9:=a_a r0;clear f1 f2 g1 g2 o1 hU a6 aZ HO af;go_wp2;exact bodyPost_ret (v:=.tuple #[.agg #[.slice (some ⟨R1.heap.size,0,none⟩) 2 2,.slice (some ⟨gp,0,none⟩) k k],.slice (some ⟨gl,0,none⟩) k k,.int .i64 0]) (by simp [results,Tryz.results117,go_sem,y0,y1]) rfl ⟨_,_,rfl,HF.out⟩
   ·obtain ⟨e1,e2,e3⟩:=i_Q (d:=[(O:Int),(I:Int)]) (x:=x) (wd:=wd) (fun h=>hw h.2.2)
    have e0:plE [(O:Int),(I:Int)] x wd=1:=by
     unfold plE;rw [if_pos hp,if_pos (show [(O:Int),(I:Int)].length=2 from rfl),if_neg (show ¬ plW [(O:Int),(I:Int)] wd from hw)]
    rw [e0,e1,e2,e3];clear e0 e1 e2 e3 hp hx az h1 h2 HD HX aH hd;by_cases aO:wd < 1
    ·have a8:¬ 1<=wd:=by omega
     go_enter Tryz.func117,Tryz.ntmps117;go_wp2_with fail
     generalize H:World.alloc _ _=W0;have U:=b_1 (w:=w) H (by go_grown);have XA:Hid (Cel W0 w.heap.size (.slice (some ⟨qa,oa,none⟩) 2 c) (.slice p2 n2 c2)):=a_F H (by simp [go_sem]);have XR:Hid (Cel W0 (w.heap.size+1) (.slice none 0 0) (.slice none 0 0)):=a_F H (by simp [go_sem]);clear H;refine (cA W0 U.out).mono ?_;rintro e w1 ⟨rfl,L⟩;have D:=a_N (a_c U.out L) L;clear L cA;obtain ⟨a0,a1,_,_⟩:=XA.out.up D.out.2;have a9:=a_a a0;have ah:=a_d aM D.out.1;have au:=a_d aL D.out.1;have am:=a_a ah;go_wp2_with fail
     go_quiet (fail)
     generalize ag:World.drewN w1 nq=w5;have ac:Hid (Below w.heap.size w w5/\Below W0.heap.size W0 w5):=by rw [<- ag];exact ⟨a_m D.out.1 nq,a_m D.out.2 nq⟩
     clear ag a0 a1 a9 ah au am;have xr:=XR.out.up ac.out.2;have BF:=a_j ac.out.1 (w.heap.size+1) (by omega) (.slice none 0 0) (.slice none 0 0);have cf:=xr.set (.slice none 0 0) (.slice none 0 0);obtain ⟨r0,r1,r2,r3⟩:=xr;obtain ⟨y0,y1,_,_⟩:=cf;go_wp2;exact bodyPost_ret (v:=.tuple #[.agg #[.slice none 0 0,.slice none 0 0],.slice none 0 0,.int .i64 1]) (by simp [results,Tryz.results117,go_sem,y0,y1]) rfl ⟨_,_,rfl,TRes.none _ _,OwnK.nil _ _ _ _,BF⟩
    ·have a8:(I:Int) < wd:=by omega
     have bB:¬ wd<=(I:Int):=by omega
     go_enter Tryz.func117,Tryz.ntmps117;go_wp2_with fail
     generalize H:World.alloc _ _=W0;have U:=b_1 (w:=w) H (by go_grown);have XA:Hid (Cel W0 w.heap.size (.slice (some ⟨qa,oa,none⟩) 2 c) (.slice p2 n2 c2)):=a_F H (by simp [go_sem]);have XR:Hid (Cel W0 (w.heap.size+1) (.slice none 0 0) (.slice none 0 0)):=a_F H (by simp [go_sem]);clear H;refine (cA W0 U.out).mono ?_;rintro e w1 ⟨rfl,L⟩;have D:=a_N (a_c U.out L) L;clear L cA;obtain ⟨a0,a1,_,_⟩:=XA.out.up D.out.2;have a9:=a_a a0;have ah:=a_d aM D.out.1;have au:=a_d aL D.out.1;have am:=a_a ah;go_wp2_with fail
     go_quiet (fail)
     generalize ag:World.drewN w1 nq=w5;have ac:Hid (Below w.heap.size w w5/\Below W0.heap.size W0 w5):=by rw [<- ag];exact ⟨a_m D.out.1 nq,a_m D.out.2 nq⟩
     clear ag a0 a1 a9 ah au am;have xr:=XR.out.up ac.out.2;have BF:=a_j ac.out.1 (w.heap.size+1) (by omega) (.slice none 0 0) (.slice none 0 0);have cf:=xr.set (.slice none 0 0) (.slice none 0 0);obtain ⟨r0,r1,r2,r3⟩:=xr;obtain ⟨y0,y1,_,_⟩:=cf;go_wp2;exact bodyPost_ret (v:=.tuple #[.agg #[.slice none 0 0,.slice none 0 0],.slice none 0 0,.int .i64 1]) (by simp [results,Tryz.results117,go_sem,y0,y1]) rfl ⟨_,_,rfl,TRes.none _ _,OwnK.nil _ _ _ _,BF⟩
  ·obtain ⟨e1,e2,e3⟩:=i_Q (d:=d) (x:=x) (wd:=wd) (fun h=>hn (by rw [<- HD.out.1];exact h.2.1))
   have e0:plE d x wd=4:=by
    unfold plE;rw [if_pos hp,if_neg (by rw [HD.out.1];exact hn)]
   rw [e0,e1,e2,e3];have bt:((n:Int) != 2)=true:=by simp;omega
   have bm:¬ ((n:Int)=2):=by omega
   clear e0 e1 e2 e3 hp hx h1 h2 HD HX hd hn;go_enter Tryz.func117,Tryz.ntmps117;go_wp2_with fail
   generalize H:World.alloc _ _=W0;have U:=b_1 (w:=w) H (by go_grown);have XA:Hid (Cel W0 w.heap.size (.slice p n c) (.slice p2 n2 c2)):=a_F H (by simp [go_sem]);have XR:Hid (Cel W0 (w.heap.size+1) (.slice none 0 0) (.slice none 0 0)):=a_F H (by simp [go_sem]);clear H;refine (cA W0 U.out).mono ?_;rintro e w1 ⟨rfl,L⟩;have D:=a_N (a_c U.out L) L;clear L cA;obtain ⟨a0,a1,_,_⟩:=XA.out.up D.out.2;have a9:=a_a a0;have xr:=XR.out.up D.out.2;have BF:=a_j D.out.1 (w.heap.size+1) (by omega) (.slice none 0 0) (.slice none 0 0);have cf:=xr.set (.slice none 0 0) (.slice none 0 0);obtain ⟨r0,r1,r2,r3⟩:=xr;obtain ⟨y0,y1,_,_⟩:=cf;go_wp2;exact bodyPost_ret (v:=.tuple #[.agg #[.slice none 0 0,.slice none 0 0],.slice none 0 0,.int .i64 4]) (by simp [results,Tryz.results117,go_sem,y0,y1]) rfl ⟨_,_,rfl,TRes.none _ _,OwnK.nil _ _ _ _,BF⟩
 ·rw [decide_eq_false hp] at cA;obtain ⟨e1,e2,e3⟩:=i_Q (d:=d) (x:=x) (wd:=wd) (fun h=>hp h.1);rw [show plE d x wd=1 from if_neg hp,e1,e2,e3];clear e1 e2 e3 hp hx h1 h2 HD HX hd;go_enter Tryz.func117,Tryz.ntmps117;go_wp2_with fail
  generalize H:World.alloc _ _=W0;have U:=b_1 (w:=w) H (by go_grown);have XA:Hid (Cel W0 w.heap.size (.slice p n c) (.slice p2 n2 c2)):=a_F H (by simp [go_sem]);have XR:Hid (Cel W0 (w.heap.size+1) (.slice none 0 0) (.slice none 0 0)):=a_F H (by simp [go_sem]);clear H;refine (cA W0 U.out).mono ?_;rintro e w1 ⟨rfl,L⟩;have D:=a_N (a_c U.out L) L;clear L cA;obtain ⟨a0,a1,_,_⟩:=XA.out.up D.out.2;have a9:=a_a a0;have xr:=XR.out.up D.out.2;have BF:=a_j D.out.1 (w.heap.size+1) (by omega) (.slice none 0 0) (.slice none 0 0);have cf:=xr.set (.slice none 0 0) (.slice none 0 0);obtain ⟨r0,r1,r2,r3⟩:=xr;obtain ⟨y0,y1,_,_⟩:=cf;go_wp2;exact bodyPost_ret (v:=.tuple #[.agg #[.slice none 0 0,.slice none 0 0],.slice none 0 0,.int .i64 1]) (by simp [results,Tryz.results117,go_sem,y0,y1]) rfl ⟨_,_,rfl,TRes.none _ _,OwnK.nil _ _ _ _,BF⟩
end Go.Proofs.YtcpbhhlepdgdkaaGreatDoor.Wd
