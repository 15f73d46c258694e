/- The reference's in, product, formed. -/
import Derived.Test.YtcpbhhlepdgdkaaGreatDoorT24
set_option linter.unusedVariables false
set_option linter.unusedSimpArgs false
set_option maxHeartbeats 16000000
set_option maxRecDepth 16000
namespace Go.Proofs.YtcpbhhlepdgdkaaGreatDoor.Wd
open Go.RowKit
theorem d_o (v l t:Int) (z:Bool) (E:decide (l<=v/\v<=t)=z) (w:World):Calls Tryz.prog 44 #[.int .i64 v,.int .i64 l,.int .i64 t] w fun e L=>e = .returned (.bool z)/\L=w:=by
 have D:Hid (decide (l<=v/\v<=t)=z):=E;clear E;go_enter Tryz.func44,Tryz.ntmps44;by_cases M:l<=v
 ·by_cases I:v<=t
  ·go_wp2;go_ret;exact ⟨by rw [<- D.out,decide_eq_true ⟨M,I⟩];rfl,rfl⟩
  ·have J:t < v:=by omega
   go_wp2;go_ret;exact ⟨by rw [<- D.out,decide_eq_false fun h=>by omega];rfl,rfl⟩
 ·have H:v < l:=by omega
  go_wp2;go_ret;exact ⟨by rw [<- D.out,decide_eq_false fun h=>by omega];rfl,rfl⟩
theorem f_W (v:Value) (l:List Int) (O:k_V l) (w:World) (V:Nums .i64 w v l):
  Calls Tryz.prog 29 #[v] w fun e w'=>e = .returned (.int .i64 (a_u l))/\w'=w:=by
 obtain ⟨p,n,c,rfl,J⟩:=V.lst;have HL:Hid (k_V l):=O;have ab:(n:Int)<=4:=by have:=O.1;rw [J.out.1] at this;omega
 obtain ⟨r,L⟩:∃ r:Int,a_u l=r:=⟨_,rfl⟩
 have HR:Hid (a_u l=r):=L;rw [L];clear L V O;go_enter Tryz.func29,Tryz.ntmps29;go_wp2_with fail
 go_loopg [3,4] n (fun gg u v wr=>∃ (k:Nat) (x:Int),k<=n/\gg=n - k/\u = .int .i64 x/\v = .int .i64 (k:Int)/\Hid (x=a_u (l.take k))/\wr=w)
 case atStart=>exact ⟨0,1,by omega,by omega,rfl,rfl,rfl,rfl⟩
 case round=>
  obtain ⟨k,x,hk,hg,rfl,rfl,Hx,rfl⟩:=hrel;by_cases H:k < n
  ·have aa:(k:Int) < (n:Int):=by omega
   obtain ⟨q,o,rfl,D⟩:=J.out.2 k H;have E:k < l.length:=by rw [J.out.1];exact H
   obtain ⟨y,M⟩:∃ y,l.getD k 0=y:=⟨_,rfl⟩
   rw [M] at D
   have I:x*y=a_u (l.take (k+1)):=by
    rw [List.take_add_one,List.getElem?_eq_getElem E,Option.toList_some,g_v,Hx.out,<- M,List.getD_eq_getElem?_getD,List.getElem?_eq_getElem E];rfl
   have R:=HL.out.2 (k+1) (by omega);rw [<- I] at R;obtain ⟨m,U⟩:∃ m,x*y=m:=⟨_,rfl⟩
   rw [U] at R I;have Hn:Hid (m=a_u (l.take (k+1))):=I;clear M E I;go_wp2;go_roundg (n - (k+1))
   case measure=>omega
   case rel=>exact ⟨k+1,m,by omega,rfl,by first|rfl|simp [U],by first|rfl|simp,Hn,rfl⟩
  ·obtain rfl:k=n:=by omega
   go_wp2;go_ret;rw [<- HR.out,Hx.out,List.take_of_length_le (by rw [J.out.1];exact Nat.le_refl _)];exact ⟨rfl,rfl⟩
/-- What is asked of a layer's numbers, by its kind. -/
theorem c_Z {s:ByteArray} {a b:Int} {z:Nat} (h:a_s s=z) (D:z=0∨z=2∨z=3):decide (a_R (s,a,b))=(decide (1<=a/\a<=c_v z) && decide (b=0)):=by
 unfold a_R;rw [<- Bool.decide_and,decide_eq_decide];simp only [h];rcases D with rfl|rfl|rfl <;> simp [h_x,c_v,d_k]
theorem h_n {s:ByteArray} {a b:Int} (h:a_s s=1):decide (a_R (s,a,b))=(decide (1<=a/\a<=16) && decide (1<=b/\b<=16)):=by
 unfold a_R;rw [<- Bool.decide_and,decide_eq_decide];simp [h,h_x,c_v,d_k]
theorem h_o {s:ByteArray} {a b:Int} (h:a_s s=4):decide (a_R (s,a,b))=(decide (a=0) && decide (b=0)):=by
 unfold a_R;rw [<- Bool.decide_and,decide_eq_decide];simp [h,h_x,c_v,d_k]
theorem s_E {s:ByteArray} {a b:Int} (h:a_s s=5):decide (a_R (s,a,b))=false:=by
 unfold a_R;rw [decide_eq_false];simp [h]
theorem k_5 (p p2:Option Addr) (n c R c2:Nat) (d:List Int) (ls:List Ly) (aB:R<=1073741824) (w:World) (h1:Nums .i64 w (.slice p n c) d) (h2:LyR 0 w p2 R ls):
  Calls Tryz.prog 28 #[.agg #[.slice p n c,.slice p2 R c2]] w fun e w'=>e = .returned (.bool (b_L d ls))/\Below w.heap.size w w':=by
 obtain ⟨r,J⟩:∃ r:Bool,b_L d ls=r:=⟨_,rfl⟩
 have HR:Hid (b_L d ls=r):=J;rw [J];clear J;have HL:Hid (LyR 0 w p2 R ls):=h2;have HN:Hid (Nums .i64 w (.slice p n c) d):=h1;clear h2 h1;go_enter Tryz.func28,Tryz.ntmps28;obtain ⟨p',n',c',e',HC⟩:=HN.out.lst;cases e';obtain ⟨qi,ao⟩:∃ q,d_V d=q:=⟨_,rfl⟩
 have ai:Hid (d_V d=qi):=ao;have ax:qi=false->r=false:=fun h=>by rw [<- HR.out];unfold b_L;rw [ao,h];rfl
 have HF:qi=true->Hid (b_L d ls=ls.all fun l=>decide (a_R l)):=fun h=>by show _=_;unfold b_L;rw [ao,h];rfl
 have aq:Hid (qi=false->r=false):=ax;have aw:Hid (qi=true->Hid (b_L d ls=ls.all fun l=>decide (a_R l))):=HF;clear ao ax HF
 have an:(∃ x,d = [x]/\n=1)∨(∃ x y,d = [x,y]/\n=2)∨(n≠1/\n≠2/\qi=false):=by
  have hl:=HC.out.1;by_cases g1:n=1
  ·subst g1
   match d,hl with
   | [x],_=>exact .inl ⟨x,rfl,rfl⟩
  by_cases g2:n=2
  ·subst g2
   match d,hl with
   | [x,y],_=>exact .inr (.inl ⟨x,y,rfl,rfl⟩)
  exact .inr (.inr ⟨g1,g2,by rw [<- ai.out];exact i_i (by rw [hl];exact g1) (by rw [hl];exact g2)⟩)
 rcases an with ⟨x,rfl,hn⟩|⟨x,y,rfl,hn⟩|⟨g1,g2,g3⟩
 case inr.inr=>
  have aC:((n:Int)==1)=false:=by simpa using (show (n:Int)≠1 by omega)
  have aF:((n:Int)==2)=false:=by simpa using (show (n:Int)≠2 by omega)
  have J:=aq.out g3;subst J;clear g1 g2;go_wp2;go_ret;exact ⟨rfl,a_b w _⟩
 case' inl=>
  obtain ⟨q,o,rfl,x0⟩:=HC.out.2 0 (by omega);have t1:((n:Int)==1)=true:=by rw [hn];rfl
  have i0:(0:Int) < (n:Int):=by omega
  clear hn;simp only [List.getD_cons_zero,Nat.add_zero] at x0;have kq:=a_g x0;go_wp2_with fail
  generalize ac:World.alloc _ _=W0;have ah:Hid (Below w.heap.size w W0):=by rw [<- ac];exact a_b w _
  have au:Hid (W0.cell? ⟨w.heap.size,1,none⟩=some (.slice p2 R c2)):=by show _=_;rw [<- ac];simp [go_sem]
  clear ac;obtain ⟨O,E⟩:∃ q,decide (1<=x/\x<=1024)=q:=⟨_,rfl⟩
  have H:Hid (d_V [x]=O):=E;refine (d_o _ _ _ O E _).mono ?_;rintro e w3 ⟨rfl,rfl⟩;clear E;cases O
  case false=>
   have J:=aq.out (by rw [<- ai.out];exact H.out);subst J;go_wp2;go_ret;exact ⟨rfl,ah.out⟩
  have HF:=aw.out (by rw [<- ai.out];exact H.out)
 case' inr.inl=>
  obtain ⟨q,o,rfl,x0⟩:=HC.out.2 0 (by omega);obtain ⟨q',o',e,x1⟩:=HC.out.2 1 (by omega);cases e;have t1:((n:Int)==1)=false:=by rw [hn];rfl
  have t2:((n:Int)==2)=true:=by rw [hn];rfl
  have i0:(0:Int) < (n:Int):=by omega
  have i1:(1:Int) < (n:Int):=by omega
  clear hn;simp only [List.getD_cons_zero,List.getD_cons_succ,Nat.add_zero] at x0 x1;have kq:=a_g x0;go_wp2_with fail
  generalize ac:World.alloc _ _=W0;have ah:Hid (Below w.heap.size w W0):=by rw [<- ac];exact a_b w _
  have au:Hid (W0.cell? ⟨w.heap.size,1,none⟩=some (.slice p2 R c2)):=by show _=_;rw [<- ac];simp [go_sem]
  have C0:W0.cell? ⟨w.heap.size,0,none⟩=some (.slice (some ⟨q,o,none⟩) n c):=by rw [<- ac];simp [go_sem]
  have C1:=au.out;replace x0:=a_h ah.out x0;replace x1:=a_h ah.out x1;have kC:=a_g C0;have kX:=a_g x0;clear ac;obtain ⟨O,E⟩:∃ q,decide (1<=x/\x<=64)=q:=⟨_,rfl⟩
  have H:Hid (decide (1<=x/\x<=64)=O):=E;refine (d_o _ _ _ O E _).mono ?_;rintro e w3 ⟨rfl,rfl⟩;clear E;have ar:Hid (d_V [x,y]=(decide (1<=x/\x<=64) && decide (1<=y/\y<=64))):=Bool.decide_and _ _;cases O
  case false=>
   have J:=aq.out (by rw [<- ai.out];rw [ar.out,H.out];rfl);subst J;go_wp2;go_ret;exact ⟨rfl,ah.out⟩
  go_wp2_with fail
  obtain ⟨qb,ae⟩:∃ q,decide (1<=y/\y<=64)=q:=⟨_,rfl⟩
  have aj:Hid (decide (1<=y/\y<=64)=qb):=ae;refine (d_o _ _ _ qb ae _).mono ?_;rintro e w3 ⟨rfl,rfl⟩;clear ae;cases qb
  case false=>
   have J:=aq.out (by rw [<- ai.out];rw [ar.out,H.out,aj.out];rfl);subst J;go_wp2;go_ret;exact ⟨rfl,ah.out⟩
  have HF:=aw.out (by rw [<- ai.out];rw [ar.out,H.out,aj.out];rfl)
 all_goals
  go_wp2
  go_loopg [3] R (fun gg v wr=>∃ (k:Nat),k<=R/\gg=R - k/\v = .int .i64 (k:Int)/\Hid (∀ i,i < k->decide (a_R (lyA ls i))=true)/\Hid (Below w.heap.size w wr/\wr.cell? ⟨w.heap.size,1,none⟩=some (.slice p2 R c2)))
  case atStart=>exact ⟨0,by omega,by omega,rfl,fun i hi=>by omega,ah.out,au.out⟩
  case round=>
   obtain ⟨k,hk,hg,rfl,Hx,HB⟩:=hrel;have D1:=HB.out.2;have kD:=a_g D1;by_cases av:k < R
   ·have aD:(k:Int) < (R:Int):=by omega
    obtain ⟨q',o',rfl,c0,c1,ak⟩:=(HL.out.up HB.out.1).2 k av;obtain ⟨l,el⟩:∃ l,lyA ls k=l:=⟨_,rfl⟩
    obtain ⟨s,a,b⟩:=l;rw [el] at c0 c1 ak;have aE:=a_g c0;have D:Hid (decide (a_R (s,a,b))=false->r=false):=fun h=>by rw [<- HR.out,HF.out];exact m_1 (i:=k) (by rw [HL.out.1];exact av) (by rw [el];exact h)
    have V:Hid (decide (a_R (s,a,b))=true->∀ i,i < k+1->decide (a_R (lyA ls i))=true):=fun h i hi=>by
     rcases Nat.lt_succ_iff_lt_or_eq.1 hi with h2|rfl
     ·exact Hx.out i h2
     ·rw [el];exact h
    obtain ⟨k0,k1,k2,k3,k4⟩:=kts s;have ay:=m_W s;obtain ⟨z,ez⟩:∃ z,a_s s=z:=⟨_,rfl⟩
    have HZ:Hid (a_s s=z):=ez;rw [ez] at k0 k1 k2 k3 k4 ay;clear el ez;have L:Hid (∀ W,Below wr.heap.size wr W->Below w.heap.size w W/\W.cell? ⟨w.heap.size,1,none⟩=some (.slice (some ⟨q',o',none⟩) R c2)):=fun W hW=>⟨a_c HB.out.1 hW,a_h hW HB.out.2⟩
    rcases (show z=0∨z=1∨z=2∨z=3∨z=4∨z=5 by omega) with rfl|rfl|rfl|rfl|rfl|rfl
    ·simp only [decide_true,show (decide ((0:Nat)=0))=true from by decide,show (decide ((0:Nat)=1))=false from by decide,show (decide ((0:Nat)=2))=false from by decide,show (decide ((0:Nat)=3))=false from by decide,show (decide ((0:Nat)=4))=false from by decide] at k0 k1 k2 k3 k4;go_wp2_with fail
     generalize M:World.alloc _ _=W2;have HA:Hid (Below wr.heap.size wr W2/\True):=⟨by rw [<- M];exact a_b wr _,trivial⟩
     obtain ⟨e0,e1,e2⟩:W2.cell? ⟨wr.heap.size,0,none⟩=some (.string s)/\W2.cell? ⟨wr.heap.size,1,none⟩=some (.int .i64 a)/\W2.cell? ⟨wr.heap.size,2,none⟩=some (.int .i64 b):=by rw [<- M];simp [go_sem]
     have ke:=a_g e0;clear M c0 c1 ak;obtain ⟨O,E⟩:∃ q,decide (1<=a/\a<=256)=q:=⟨_,rfl⟩
     have H:Hid (decide (1<=a/\a<=c_v 0)=O):=E;refine (d_o _ _ _ O E _).mono ?_;rintro e w3 ⟨rfl,rfl⟩;clear E;cases O with
     | false=>
      have J:=D.out (by rw [c_Z HZ.out (by omega),H.out];rfl);subst J;go_wp2;go_ret;exact ⟨rfl,(L.out _ HA.out.1).1⟩
     | true=>
      by_cases I:b=0
      ·subst I;have aa:Hid (∀ i,i < k+1->decide (a_R (lyA ls i))=true):=V.out (by rw [c_Z HZ.out (by omega),H.out];rfl);have af:Hid (Below w.heap.size w w3/\w3.cell? ⟨w.heap.size,1,none⟩=some (.slice (some ⟨q',o',none⟩) R c2)):=L.out _ HA.out.1;clear V D;go_wp2;go_roundg (R - (k+1))
       case measure=>omega
       case rel=>exact ⟨k+1,by omega,rfl,by first|rfl|simp,aa,af⟩
      ·have am:(b==0)=false:=by simpa using I
       have ag:Hid (decide (b=0)=false):=decide_eq_false I;clear I;have J:=D.out (by rw [c_Z HZ.out (by omega),H.out,ag.out];rfl);subst J;go_wp2;go_ret;exact ⟨rfl,(L.out _ HA.out.1).1⟩
    ·simp only [decide_true,show (decide ((1:Nat)=0))=false from by decide,show (decide ((1:Nat)=1))=true from by decide,show (decide ((1:Nat)=2))=false from by decide,show (decide ((1:Nat)=3))=false from by decide,show (decide ((1:Nat)=4))=false from by decide] at k0 k1 k2 k3 k4;go_wp2_with fail
     generalize M:World.alloc _ _=W2;have HA:Hid (Below wr.heap.size wr W2/\True):=⟨by rw [<- M];exact a_b wr _,trivial⟩
     obtain ⟨e0,e1,e2⟩:W2.cell? ⟨wr.heap.size,0,none⟩=some (.string s)/\W2.cell? ⟨wr.heap.size,1,none⟩=some (.int .i64 a)/\W2.cell? ⟨wr.heap.size,2,none⟩=some (.int .i64 b):=by rw [<- M];simp [go_sem]
     have ke:=a_g e0;clear M c0 c1 ak;obtain ⟨O,E⟩:∃ q,decide (1<=a/\a<=16)=q:=⟨_,rfl⟩
     have H:Hid (decide (1<=a/\a<=16)=O):=E;refine (d_o _ _ _ O E _).mono ?_;rintro e w3 ⟨rfl,rfl⟩;clear E;cases O with
     | false=>
      have J:=D.out (by rw [h_n HZ.out,H.out];rfl);subst J;go_wp2;go_ret;exact ⟨rfl,(L.out _ HA.out.1).1⟩
     | true=>
      go_wp2_with fail
      obtain ⟨qb,ae⟩:∃ q,decide (1<=b/\b<=16)=q:=⟨_,rfl⟩
      have aj:Hid (decide (1<=b/\b<=16)=qb):=ae;refine (d_o _ _ _ qb ae _).mono ?_;rintro e w4 ⟨rfl,rfl⟩;clear ae;cases qb with
      | false=>
       have J:=D.out (by rw [h_n HZ.out,H.out,aj.out];rfl);subst J;go_wp2;go_ret;exact ⟨rfl,(L.out _ HA.out.1).1⟩
      | true=>
       have aa:Hid (∀ i,i < k+1->decide (a_R (lyA ls i))=true):=V.out (by rw [h_n HZ.out,H.out,aj.out];rfl);have af:Hid (Below w.heap.size w w4/\w4.cell? ⟨w.heap.size,1,none⟩=some (.slice (some ⟨q',o',none⟩) R c2)):=L.out _ HA.out.1;clear V D;go_wp2;go_roundg (R - (k+1))
       case measure=>omega
       case rel=>exact ⟨k+1,by omega,rfl,by first|rfl|simp,aa,af⟩
    ·simp only [decide_true,show (decide ((2:Nat)=0))=false from by decide,show (decide ((2:Nat)=1))=false from by decide,show (decide ((2:Nat)=2))=true from by decide,show (decide ((2:Nat)=3))=false from by decide,show (decide ((2:Nat)=4))=false from by decide] at k0 k1 k2 k3 k4;go_wp2_with fail
     generalize M:World.alloc _ _=W2;have HA:Hid (Below wr.heap.size wr W2/\True):=⟨by rw [<- M];exact a_b wr _,trivial⟩
     obtain ⟨e0,e1,e2⟩:W2.cell? ⟨wr.heap.size,0,none⟩=some (.string s)/\W2.cell? ⟨wr.heap.size,1,none⟩=some (.int .i64 a)/\W2.cell? ⟨wr.heap.size,2,none⟩=some (.int .i64 b):=by rw [<- M];simp [go_sem]
     have ke:=a_g e0;clear M c0 c1 ak;obtain ⟨O,E⟩:∃ q,decide (1<=a/\a<=16)=q:=⟨_,rfl⟩
     have H:Hid (decide (1<=a/\a<=c_v 2)=O):=E;refine (d_o _ _ _ O E _).mono ?_;rintro e w3 ⟨rfl,rfl⟩;clear E;cases O with
     | false=>
      have J:=D.out (by rw [c_Z HZ.out (by omega),H.out];rfl);subst J;go_wp2;go_ret;exact ⟨rfl,(L.out _ HA.out.1).1⟩
     | true=>
      by_cases I:b=0
      ·subst I;have aa:Hid (∀ i,i < k+1->decide (a_R (lyA ls i))=true):=V.out (by rw [c_Z HZ.out (by omega),H.out];rfl);have af:Hid (Below w.heap.size w w3/\w3.cell? ⟨w.heap.size,1,none⟩=some (.slice (some ⟨q',o',none⟩) R c2)):=L.out _ HA.out.1;clear V D;go_wp2;go_roundg (R - (k+1))
       case measure=>omega
       case rel=>exact ⟨k+1,by omega,rfl,by first|rfl|simp,aa,af⟩
      ·have am:(b==0)=false:=by simpa using I
       have ag:Hid (decide (b=0)=false):=decide_eq_false I;clear I;have J:=D.out (by rw [c_Z HZ.out (by omega),H.out,ag.out];rfl);subst J;go_wp2;go_ret;exact ⟨rfl,(L.out _ HA.out.1).1⟩
    ·simp only [decide_true,show (decide ((3:Nat)=0))=false from by decide,show (decide ((3:Nat)=1))=false from by decide,show (decide ((3:Nat)=2))=false from by decide,show (decide ((3:Nat)=3))=true from by decide,show (decide ((3:Nat)=4))=false from by decide] at k0 k1 k2 k3 k4;go_wp2_with fail
     generalize M:World.alloc _ _=W2;have HA:Hid (Below wr.heap.size wr W2/\True):=⟨by rw [<- M];exact a_b wr _,trivial⟩
     obtain ⟨e0,e1,e2⟩:W2.cell? ⟨wr.heap.size,0,none⟩=some (.string s)/\W2.cell? ⟨wr.heap.size,1,none⟩=some (.int .i64 a)/\W2.cell? ⟨wr.heap.size,2,none⟩=some (.int .i64 b):=by rw [<- M];simp [go_sem]
     have ke:=a_g e0;clear M c0 c1 ak;obtain ⟨O,E⟩:∃ q,decide (1<=a/\a<=5)=q:=⟨_,rfl⟩
     have H:Hid (decide (1<=a/\a<=c_v 3)=O):=E;refine (d_o _ _ _ O E _).mono ?_;rintro e w3 ⟨rfl,rfl⟩;clear E;cases O with
     | false=>
      have J:=D.out (by rw [c_Z HZ.out (by omega),H.out];rfl);subst J;go_wp2;go_ret;exact ⟨rfl,(L.out _ HA.out.1).1⟩
     | true=>
      by_cases I:b=0
      ·subst I;have aa:Hid (∀ i,i < k+1->decide (a_R (lyA ls i))=true):=V.out (by rw [c_Z HZ.out (by omega),H.out];rfl);have af:Hid (Below w.heap.size w w3/\w3.cell? ⟨w.heap.size,1,none⟩=some (.slice (some ⟨q',o',none⟩) R c2)):=L.out _ HA.out.1;clear V D;go_wp2;go_roundg (R - (k+1))
       case measure=>omega
       case rel=>exact ⟨k+1,by omega,rfl,by first|rfl|simp,aa,af⟩
      ·have am:(b==0)=false:=by simpa using I
       have ag:Hid (decide (b=0)=false):=decide_eq_false I;clear I;have J:=D.out (by rw [c_Z HZ.out (by omega),H.out,ag.out];rfl);subst J;go_wp2;go_ret;exact ⟨rfl,(L.out _ HA.out.1).1⟩
    ·simp only [decide_true,show (decide ((4:Nat)=0))=false from by decide,show (decide ((4:Nat)=1))=false from by decide,show (decide ((4:Nat)=2))=false from by decide,show (decide ((4:Nat)=3))=false from by decide,show (decide ((4:Nat)=4))=true from by decide] at k0 k1 k2 k3 k4;by_cases ap:a=0
     ·subst ap;by_cases I:b=0
      ·subst I;have aa:Hid (∀ i,i < k+1->decide (a_R (lyA ls i))=true):=V.out (by rw [h_o HZ.out];rfl);clear V D;go_wp2;go_roundg (R - (k+1))
       case measure=>omega
       case rel=>exact ⟨k+1,by omega,rfl,by first|rfl|simp,aa,L.out _ (a_b wr _)⟩
      ·have am:(b==0)=false:=by simpa using I
       have ag:Hid (decide (b=0)=false):=decide_eq_false I;clear I;have J:=D.out (by rw [h_o HZ.out,ag.out];rfl);subst J;go_wp2;go_ret;exact ⟨rfl,(L.out _ (a_b wr _)).1⟩
     ·have aA:(a==0)=false:=by simpa using ap
      have az:Hid (decide (a=0)=false):=decide_eq_false ap;clear ap;have J:=D.out (by rw [h_o HZ.out,az.out];rfl);subst J;go_wp2;go_ret;exact ⟨rfl,(L.out _ (a_b wr _)).1⟩
    ·simp only [decide_true,show (decide ((5:Nat)=0))=false from by decide,show (decide ((5:Nat)=1))=false from by decide,show (decide ((5:Nat)=2))=false from by decide,show (decide ((5:Nat)=3))=false from by decide,show (decide ((5:Nat)=4))=false from by decide] at k0 k1 k2 k3 k4;have J:=D.out (by rw [s_E HZ.out]);subst J;go_wp2;go_ret;exact ⟨rfl,(L.out _ (a_b wr _)).1⟩
   ·obtain rfl:k=R:=by omega
    have J:r=true:=by rw [<- HR.out,HF.out];exact k_h HL.out.1 Hx.out
    subst J;go_wp2;go_ret;exact ⟨rfl,HB.out.1⟩
end Go.Proofs.YtcpbhhlepdgdkaaGreatDoor.Wd
