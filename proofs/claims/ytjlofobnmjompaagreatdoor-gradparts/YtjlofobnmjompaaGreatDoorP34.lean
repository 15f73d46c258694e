/- The reference's in, product, formed. -/
import Derived.Test.YtjlofobnmjompaaGreatDoorP32
import Derived.Test.YtjlofobnmjompaaGreatDoorP33
set_option linter.unusedVariables false
set_option linter.unusedSimpArgs false
set_option maxHeartbeats 16000000
set_option maxRecDepth 16000
namespace Go.Proofs.YtjlofobnmjompaaGreatDoor.Wd
open Go.RowKit
theorem d_l (v l t:Int) (z:Bool) (E:decide (l<=v/\v<=t)=z) (w:World):Calls Tryz.prog 72 #[.int .i64 v,.int .i64 l,.int .i64 t] w fun e M=>e = .returned (.bool z)/\M=w:=by
 have D:Hid (decide (l<=v/\v<=t)=z):=E;clear E;go_enter Tryz.func72,Tryz.ntmps72;by_cases H:l<=v
 ·by_cases L:v<=t
  ·go_wp2;go_ret;exact ⟨by rw [<- D.out,decide_eq_true ⟨H,L⟩];rfl,rfl⟩
  ·have J:t < v:=by omega
   go_wp2;go_ret;exact ⟨by rw [<- D.out,decide_eq_false fun h=>by omega];rfl,rfl⟩
 ·have I:v < l:=by omega
  go_wp2;go_ret;exact ⟨by rw [<- D.out,decide_eq_false fun h=>by omega];rfl,rfl⟩
theorem f_Q (v:Value) (l:List Int) (L:k_P l) (w:World) (R:Nums .i64 w v l):
  Calls Tryz.prog 49 #[v] w fun e w'=>e = .returned (.int .i64 (a_t l))/\w'=w:=by
 obtain ⟨p,n,c,rfl,J⟩:=R.lst;have HL:Hid (k_P l):=L;have ab:(n:Int)<=4:=by have:=L.1;rw [J.out.1] at this;omega
 obtain ⟨r,O⟩:∃ r:Int,a_t l=r:=⟨_,rfl⟩
 have HR:Hid (a_t l=r):=O;rw [O];clear O R L;go_enter Tryz.func49,Tryz.ntmps49;go_wp2_with fail
 go_loopg [3,4] n (fun gg u v wr=>∃ (k:Nat) (x:Int),k<=n/\gg=n - k/\u = .int .i64 x/\v = .int .i64 (k:Int)/\Hid (x=a_t (l.take k))/\wr=w)
 case atStart=>exact ⟨0,1,by omega,by omega,rfl,rfl,rfl,rfl⟩
 case round=>
  obtain ⟨k,x,hk,hg,rfl,rfl,U,rfl⟩:=hrel;by_cases H:k < n
  ·have aa:(k:Int) < (n:Int):=by omega
   obtain ⟨q,o,rfl,D⟩:=J.out.2 k H;have E:k < l.length:=by rw [J.out.1];exact H
   obtain ⟨y,M⟩:∃ y,l.getD k 0=y:=⟨_,rfl⟩
   rw [M] at D
   have I:x*y=a_t (l.take (k+1)):=by
    rw [List.take_add_one,List.getElem?_eq_getElem E,Option.toList_some,g_p,U.out,<- M,List.getD_eq_getElem?_getD,List.getElem?_eq_getElem E];rfl
   have hm:=HL.out.2 (k+1) (by omega);rw [<- I] at hm;obtain ⟨m,V⟩:∃ m,x*y=m:=⟨_,rfl⟩
   rw [V] at hm I;have Hn:Hid (m=a_t (l.take (k+1))):=I;clear M E I;go_wp2;go_roundg (n - (k+1))
   case measure=>omega
   case rel=>exact ⟨k+1,m,by omega,rfl,by first|rfl|simp [V],by first|rfl|simp,Hn,rfl⟩
  ·obtain rfl:k=n:=by omega
   go_wp2;go_ret;rw [<- HR.out,U.out,List.take_of_length_le (by rw [J.out.1];exact Nat.le_refl _)];exact ⟨rfl,rfl⟩
/-- What is asked of a layer's numbers, by its kind. -/
theorem c_X {s:ByteArray} {a b:Int} {z:Nat} (h:a_s s=z) (D:z=0∨z=2∨z=3):decide (a_S (s,a,b))=(decide (1<=a/\a<=c_s z) && decide (b=0)):=by
 unfold a_S;rw [<- Bool.decide_and,decide_eq_decide];simp only [h];rcases D with rfl|rfl|rfl <;> simp [h_o,c_s,d_h]
theorem h_e {s:ByteArray} {a b:Int} (h:a_s s=1):decide (a_S (s,a,b))=(decide (1<=a/\a<=16) && decide (1<=b/\b<=16)):=by
 unfold a_S;rw [<- Bool.decide_and,decide_eq_decide];simp [h,h_o,c_s,d_h]
theorem h_f {s:ByteArray} {a b:Int} (h:a_s s=4):decide (a_S (s,a,b))=(decide (a=0) && decide (b=0)):=by
 unfold a_S;rw [<- Bool.decide_and,decide_eq_decide];simp [h,h_o,c_s,d_h]
theorem s_p {s:ByteArray} {a b:Int} (h:a_s s=5):decide (a_S (s,a,b))=false:=by
 unfold a_S;rw [decide_eq_false];simp [h]
theorem k_Z (p p2:Option Addr) (n c R c2:Nat) (d:List Int) (ls:List Ly) (aB:R<=1073741824) (w:World) (h1:Nums .i64 w (.slice p n c) d) (h2:LyR 0 w p2 R ls):
  Calls Tryz.prog 48 #[.agg #[.slice p n c,.slice p2 R c2]] w fun e w'=>e = .returned (.bool (b_L d ls))/\Below w.heap.size w w':=by
 obtain ⟨r,J⟩:∃ r:Bool,b_L d ls=r:=⟨_,rfl⟩
 have HR:Hid (b_L d ls=r):=J;rw [J];clear J;have HL:Hid (LyR 0 w p2 R ls):=h2;have HN:Hid (Nums .i64 w (.slice p n c) d):=h1;clear h2 h1;go_enter Tryz.func48,Tryz.ntmps48;obtain ⟨p',n',c',e',HC⟩:=HN.out.lst;cases e';obtain ⟨qi,aq⟩:∃ q,d_S d=q:=⟨_,rfl⟩
 have ai:Hid (d_S d=qi):=aq;have av:qi=false->r=false:=fun h=>by rw [<- HR.out];unfold b_L;rw [aq,h];rfl
 have HF:qi=true->Hid (b_L d ls=ls.all fun l=>decide (a_S l)):=fun h=>by show _=_;unfold b_L;rw [aq,h];rfl
 have ap:Hid (qi=false->r=false):=av;have ax:Hid (qi=true->Hid (b_L d ls=ls.all fun l=>decide (a_S l))):=HF;clear aq av HF
 have an:(∃ x,d = [x]/\n=1)∨(∃ x y,d = [x,y]/\n=2)∨(n≠1/\n≠2/\qi=false):=by
  have hl:=HC.out.1;by_cases g1:n=1
  ·subst g1
   match d,hl with
   | [x],_=>exact .inl ⟨x,rfl,rfl⟩
  by_cases g2:n=2
  ·subst g2
   match d,hl with
   | [x,y],_=>exact .inr (.inl ⟨x,y,rfl,rfl⟩)
  exact .inr (.inr ⟨g1,g2,by rw [<- ai.out];exact h_7 (by rw [hl];exact g1) (by rw [hl];exact g2)⟩)
 rcases an with ⟨x,rfl,hn⟩|⟨x,y,rfl,hn⟩|⟨g1,g2,g3⟩
 case inr.inr=>
  have aD:((n:Int)==1)=false:=by simpa using (show (n:Int)≠1 by omega)
  have aF:((n:Int)==2)=false:=by simpa using (show (n:Int)≠2 by omega)
  have J:=ap.out g3;subst J;clear g1 g2;go_wp2;go_ret;exact ⟨rfl,a_b w _⟩
 case' inl=>
  obtain ⟨q,o,rfl,x0⟩:=HC.out.2 0 (by omega);have t1:((n:Int)==1)=true:=by rw [hn];rfl
  have i0:(0:Int) < (n:Int):=by omega
  clear hn;simp only [List.getD_cons_zero,Nat.add_zero] at x0;have kq:=a_g x0;go_wp2_with fail
  generalize ac:World.alloc _ _=W0;have ag:Hid (Below w.heap.size w W0):=by rw [<- ac];exact a_b w _
  have au:Hid (W0.cell? ⟨w.heap.size,1,none⟩=some (.slice p2 R c2)):=by show _=_;rw [<- ac];simp [go_sem]
  clear ac;obtain ⟨O,E⟩:∃ q,decide (1<=x/\x<=1024)=q:=⟨_,rfl⟩
  have H:Hid (d_S [x]=O):=E;refine (d_l _ _ _ O E _).mono ?_;rintro e w3 ⟨rfl,rfl⟩;clear E;cases O
  case false=>
   have J:=ap.out (by rw [<- ai.out];exact H.out);subst J;go_wp2;go_ret;exact ⟨rfl,ag.out⟩
  have HF:=ax.out (by rw [<- ai.out];exact H.out)
 case' inr.inl=>
  obtain ⟨q,o,rfl,x0⟩:=HC.out.2 0 (by omega);obtain ⟨q',o',e,x1⟩:=HC.out.2 1 (by omega);cases e;have t1:((n:Int)==1)=false:=by rw [hn];rfl
  have t2:((n:Int)==2)=true:=by rw [hn];rfl
  have i0:(0:Int) < (n:Int):=by omega
  have i1:(1:Int) < (n:Int):=by omega
  clear hn;simp only [List.getD_cons_zero,List.getD_cons_succ,Nat.add_zero] at x0 x1;have kq:=a_g x0;go_wp2_with fail
  generalize ac:World.alloc _ _=W0;have ag:Hid (Below w.heap.size w W0):=by rw [<- ac];exact a_b w _
  have au:Hid (W0.cell? ⟨w.heap.size,1,none⟩=some (.slice p2 R c2)):=by show _=_;rw [<- ac];simp [go_sem]
  have C0:W0.cell? ⟨w.heap.size,0,none⟩=some (.slice (some ⟨q,o,none⟩) n c):=by rw [<- ac];simp [go_sem]
  have C1:=au.out;replace x0:=a_h ag.out x0;replace x1:=a_h ag.out x1;have kC:=a_g C0;have kX:=a_g x0;clear ac;obtain ⟨O,E⟩:∃ q,decide (1<=x/\x<=64)=q:=⟨_,rfl⟩
  have H:Hid (decide (1<=x/\x<=64)=O):=E;refine (d_l _ _ _ O E _).mono ?_;rintro e w3 ⟨rfl,rfl⟩;clear E;have ar:Hid (d_S [x,y]=(decide (1<=x/\x<=64) && decide (1<=y/\y<=64))):=Bool.decide_and _ _;cases O
  case false=>
   have J:=ap.out (by rw [<- ai.out];rw [ar.out,H.out];rfl);subst J;go_wp2;go_ret;exact ⟨rfl,ag.out⟩
  go_wp2_with fail
  obtain ⟨qb,af⟩:∃ q,decide (1<=y/\y<=64)=q:=⟨_,rfl⟩
  have ak:Hid (decide (1<=y/\y<=64)=qb):=af;refine (d_l _ _ _ qb af _).mono ?_;rintro e w3 ⟨rfl,rfl⟩;clear af;cases qb
  case false=>
   have J:=ap.out (by rw [<- ai.out];rw [ar.out,H.out,ak.out];rfl);subst J;go_wp2;go_ret;exact ⟨rfl,ag.out⟩
  have HF:=ax.out (by rw [<- ai.out];rw [ar.out,H.out,ak.out];rfl)
 all_goals
  go_wp2
  go_loopg [3] R (fun gg v wr=>∃ (k:Nat),k<=R/\gg=R - k/\v = .int .i64 (k:Int)/\Hid (∀ i,i < k->decide (a_S (lyA ls i))=true)/\Hid (Below w.heap.size w wr/\wr.cell? ⟨w.heap.size,1,none⟩=some (.slice p2 R c2)))
  case atStart=>exact ⟨0,by omega,by omega,rfl,fun i hi=>by omega,ag.out,au.out⟩
  case round=>
   obtain ⟨k,hk,hg,rfl,Hx,HB⟩:=hrel;have D1:=HB.out.2;have kD:=a_g D1;by_cases aw:k < R
   ·have aE:(k:Int) < (R:Int):=by omega
    obtain ⟨q',o',rfl,c0,c1,aj⟩:=(HL.out.up HB.out.1).2 k aw;obtain ⟨l,el⟩:∃ l,lyA ls k=l:=⟨_,rfl⟩
    obtain ⟨s,a,b⟩:=l;rw [el] at c0 c1 aj;have aC:=a_g c0;have D:Hid (decide (a_S (s,a,b))=false->r=false):=fun h=>by rw [<- HR.out,HF.out];exact m_V (i:=k) (by rw [HL.out.1];exact aw) (by rw [el];exact h)
    have V:Hid (decide (a_S (s,a,b))=true->∀ i,i < k+1->decide (a_S (lyA ls i))=true):=fun h i hi=>by
     rcases Nat.lt_succ_iff_lt_or_eq.1 hi with h2|rfl
     ·exact Hx.out i h2
     ·rw [el];exact h
    obtain ⟨k0,k1,k2,k3,k4⟩:=kts s;have az:=m_Q s;obtain ⟨z,ez⟩:∃ z,a_s s=z:=⟨_,rfl⟩
    have HZ:Hid (a_s s=z):=ez;rw [ez] at k0 k1 k2 k3 k4 az;clear el ez;have L:Hid (∀ W,Below wr.heap.size wr W->Below w.heap.size w W/\W.cell? ⟨w.heap.size,1,none⟩=some (.slice (some ⟨q',o',none⟩) R c2)):=fun W hW=>⟨a_c HB.out.1 hW,a_h hW HB.out.2⟩
    rcases (show z=0∨z=1∨z=2∨z=3∨z=4∨z=5 by omega) with rfl|rfl|rfl|rfl|rfl|rfl
    ·simp only [decide_true,show (decide ((0:Nat)=0))=true from by decide,show (decide ((0:Nat)=1))=false from by decide,show (decide ((0:Nat)=2))=false from by decide,show (decide ((0:Nat)=3))=false from by decide,show (decide ((0:Nat)=4))=false from by decide] at k0 k1 k2 k3 k4;go_wp2_with fail
     generalize M:World.alloc _ _=W2;have HA:Hid (Below wr.heap.size wr W2/\True):=⟨by rw [<- M];exact a_b wr _,trivial⟩
     obtain ⟨e0,e1,e2⟩:W2.cell? ⟨wr.heap.size,0,none⟩=some (.string s)/\W2.cell? ⟨wr.heap.size,1,none⟩=some (.int .i64 a)/\W2.cell? ⟨wr.heap.size,2,none⟩=some (.int .i64 b):=by rw [<- M];simp [go_sem]
     have ke:=a_g e0;clear M c0 c1 aj;obtain ⟨O,E⟩:∃ q,decide (1<=a/\a<=256)=q:=⟨_,rfl⟩
     have H:Hid (decide (1<=a/\a<=c_s 0)=O):=E;refine (d_l _ _ _ O E _).mono ?_;rintro e w3 ⟨rfl,rfl⟩;clear E;cases O with
     | false=>
      have J:=D.out (by rw [c_X HZ.out (by omega),H.out];rfl);subst J;go_wp2;go_ret;exact ⟨rfl,(L.out _ HA.out.1).1⟩
     | true=>
      by_cases I:b=0
      ·subst I;have aa:Hid (∀ i,i < k+1->decide (a_S (lyA ls i))=true):=V.out (by rw [c_X HZ.out (by omega),H.out];rfl);have ah:Hid (Below w.heap.size w w3/\w3.cell? ⟨w.heap.size,1,none⟩=some (.slice (some ⟨q',o',none⟩) R c2)):=L.out _ HA.out.1;clear V D;go_wp2;go_roundg (R - (k+1))
       case measure=>omega
       case rel=>exact ⟨k+1,by omega,rfl,by first|rfl|simp,aa,ah⟩
      ·have am:(b==0)=false:=by simpa using I
       have ae:Hid (decide (b=0)=false):=decide_eq_false I;clear I;have J:=D.out (by rw [c_X HZ.out (by omega),H.out,ae.out];rfl);subst J;go_wp2;go_ret;exact ⟨rfl,(L.out _ HA.out.1).1⟩
    ·simp only [decide_true,show (decide ((1:Nat)=0))=false from by decide,show (decide ((1:Nat)=1))=true from by decide,show (decide ((1:Nat)=2))=false from by decide,show (decide ((1:Nat)=3))=false from by decide,show (decide ((1:Nat)=4))=false from by decide] at k0 k1 k2 k3 k4;go_wp2_with fail
     generalize M:World.alloc _ _=W2;have HA:Hid (Below wr.heap.size wr W2/\True):=⟨by rw [<- M];exact a_b wr _,trivial⟩
     obtain ⟨e0,e1,e2⟩:W2.cell? ⟨wr.heap.size,0,none⟩=some (.string s)/\W2.cell? ⟨wr.heap.size,1,none⟩=some (.int .i64 a)/\W2.cell? ⟨wr.heap.size,2,none⟩=some (.int .i64 b):=by rw [<- M];simp [go_sem]
     have ke:=a_g e0;clear M c0 c1 aj;obtain ⟨O,E⟩:∃ q,decide (1<=a/\a<=16)=q:=⟨_,rfl⟩
     have H:Hid (decide (1<=a/\a<=16)=O):=E;refine (d_l _ _ _ O E _).mono ?_;rintro e w3 ⟨rfl,rfl⟩;clear E;cases O with
     | false=>
      have J:=D.out (by rw [h_e HZ.out,H.out];rfl);subst J;go_wp2;go_ret;exact ⟨rfl,(L.out _ HA.out.1).1⟩
     | true=>
      go_wp2_with fail
      obtain ⟨qb,af⟩:∃ q,decide (1<=b/\b<=16)=q:=⟨_,rfl⟩
      have ak:Hid (decide (1<=b/\b<=16)=qb):=af;refine (d_l _ _ _ qb af _).mono ?_;rintro e w4 ⟨rfl,rfl⟩;clear af;cases qb with
      | false=>
       have J:=D.out (by rw [h_e HZ.out,H.out,ak.out];rfl);subst J;go_wp2;go_ret;exact ⟨rfl,(L.out _ HA.out.1).1⟩
      | true=>
       have aa:Hid (∀ i,i < k+1->decide (a_S (lyA ls i))=true):=V.out (by rw [h_e HZ.out,H.out,ak.out];rfl);have ah:Hid (Below w.heap.size w w4/\w4.cell? ⟨w.heap.size,1,none⟩=some (.slice (some ⟨q',o',none⟩) R c2)):=L.out _ HA.out.1;clear V D;go_wp2;go_roundg (R - (k+1))
       case measure=>omega
       case rel=>exact ⟨k+1,by omega,rfl,by first|rfl|simp,aa,ah⟩
    ·simp only [decide_true,show (decide ((2:Nat)=0))=false from by decide,show (decide ((2:Nat)=1))=false from by decide,show (decide ((2:Nat)=2))=true from by decide,show (decide ((2:Nat)=3))=false from by decide,show (decide ((2:Nat)=4))=false from by decide] at k0 k1 k2 k3 k4;go_wp2_with fail
     generalize M:World.alloc _ _=W2;have HA:Hid (Below wr.heap.size wr W2/\True):=⟨by rw [<- M];exact a_b wr _,trivial⟩
     obtain ⟨e0,e1,e2⟩:W2.cell? ⟨wr.heap.size,0,none⟩=some (.string s)/\W2.cell? ⟨wr.heap.size,1,none⟩=some (.int .i64 a)/\W2.cell? ⟨wr.heap.size,2,none⟩=some (.int .i64 b):=by rw [<- M];simp [go_sem]
     have ke:=a_g e0;clear M c0 c1 aj;obtain ⟨O,E⟩:∃ q,decide (1<=a/\a<=16)=q:=⟨_,rfl⟩
     have H:Hid (decide (1<=a/\a<=c_s 2)=O):=E;refine (d_l _ _ _ O E _).mono ?_;rintro e w3 ⟨rfl,rfl⟩;clear E;cases O with
     | false=>
      have J:=D.out (by rw [c_X HZ.out (by omega),H.out];rfl);subst J;go_wp2;go_ret;exact ⟨rfl,(L.out _ HA.out.1).1⟩
     | true=>
      by_cases I:b=0
      ·subst I;have aa:Hid (∀ i,i < k+1->decide (a_S (lyA ls i))=true):=V.out (by rw [c_X HZ.out (by omega),H.out];rfl);have ah:Hid (Below w.heap.size w w3/\w3.cell? ⟨w.heap.size,1,none⟩=some (.slice (some ⟨q',o',none⟩) R c2)):=L.out _ HA.out.1;clear V D;go_wp2;go_roundg (R - (k+1))
       case measure=>omega
       case rel=>exact ⟨k+1,by omega,rfl,by first|rfl|simp,aa,ah⟩
      ·have am:(b==0)=false:=by simpa using I
       have ae:Hid (decide (b=0)=false):=decide_eq_false I;clear I;have J:=D.out (by rw [c_X HZ.out (by omega),H.out,ae.out];rfl);subst J;go_wp2;go_ret;exact ⟨rfl,(L.out _ HA.out.1).1⟩
    ·simp only [decide_true,show (decide ((3:Nat)=0))=false from by decide,show (decide ((3:Nat)=1))=false from by decide,show (decide ((3:Nat)=2))=false from by decide,show (decide ((3:Nat)=3))=true from by decide,show (decide ((3:Nat)=4))=false from by decide] at k0 k1 k2 k3 k4;go_wp2_with fail
     generalize M:World.alloc _ _=W2;have HA:Hid (Below wr.heap.size wr W2/\True):=⟨by rw [<- M];exact a_b wr _,trivial⟩
     obtain ⟨e0,e1,e2⟩:W2.cell? ⟨wr.heap.size,0,none⟩=some (.string s)/\W2.cell? ⟨wr.heap.size,1,none⟩=some (.int .i64 a)/\W2.cell? ⟨wr.heap.size,2,none⟩=some (.int .i64 b):=by rw [<- M];simp [go_sem]
     have ke:=a_g e0;clear M c0 c1 aj;obtain ⟨O,E⟩:∃ q,decide (1<=a/\a<=5)=q:=⟨_,rfl⟩
     have H:Hid (decide (1<=a/\a<=c_s 3)=O):=E;refine (d_l _ _ _ O E _).mono ?_;rintro e w3 ⟨rfl,rfl⟩;clear E;cases O with
     | false=>
      have J:=D.out (by rw [c_X HZ.out (by omega),H.out];rfl);subst J;go_wp2;go_ret;exact ⟨rfl,(L.out _ HA.out.1).1⟩
     | true=>
      by_cases I:b=0
      ·subst I;have aa:Hid (∀ i,i < k+1->decide (a_S (lyA ls i))=true):=V.out (by rw [c_X HZ.out (by omega),H.out];rfl);have ah:Hid (Below w.heap.size w w3/\w3.cell? ⟨w.heap.size,1,none⟩=some (.slice (some ⟨q',o',none⟩) R c2)):=L.out _ HA.out.1;clear V D;go_wp2;go_roundg (R - (k+1))
       case measure=>omega
       case rel=>exact ⟨k+1,by omega,rfl,by first|rfl|simp,aa,ah⟩
      ·have am:(b==0)=false:=by simpa using I
       have ae:Hid (decide (b=0)=false):=decide_eq_false I;clear I;have J:=D.out (by rw [c_X HZ.out (by omega),H.out,ae.out];rfl);subst J;go_wp2;go_ret;exact ⟨rfl,(L.out _ HA.out.1).1⟩
    ·simp only [decide_true,show (decide ((4:Nat)=0))=false from by decide,show (decide ((4:Nat)=1))=false from by decide,show (decide ((4:Nat)=2))=false from by decide,show (decide ((4:Nat)=3))=false from by decide,show (decide ((4:Nat)=4))=true from by decide] at k0 k1 k2 k3 k4;by_cases ao:a=0
     ·subst ao;by_cases I:b=0
      ·subst I;have aa:Hid (∀ i,i < k+1->decide (a_S (lyA ls i))=true):=V.out (by rw [h_f HZ.out];rfl);clear V D;go_wp2;go_roundg (R - (k+1))
       case measure=>omega
       case rel=>exact ⟨k+1,by omega,rfl,by first|rfl|simp,aa,L.out _ (a_b wr _)⟩
      ·have am:(b==0)=false:=by simpa using I
       have ae:Hid (decide (b=0)=false):=decide_eq_false I;clear I;have J:=D.out (by rw [h_f HZ.out,ae.out];rfl);subst J;go_wp2;go_ret;exact ⟨rfl,(L.out _ (a_b wr _)).1⟩
     ·have aA:(a==0)=false:=by simpa using ao
      have ay:Hid (decide (a=0)=false):=decide_eq_false ao;clear ao;have J:=D.out (by rw [h_f HZ.out,ay.out];rfl);subst J;go_wp2;go_ret;exact ⟨rfl,(L.out _ (a_b wr _)).1⟩
    ·simp only [decide_true,show (decide ((5:Nat)=0))=false from by decide,show (decide ((5:Nat)=1))=false from by decide,show (decide ((5:Nat)=2))=false from by decide,show (decide ((5:Nat)=3))=false from by decide,show (decide ((5:Nat)=4))=false from by decide] at k0 k1 k2 k3 k4;have J:=D.out (by rw [s_p HZ.out]);subst J;go_wp2;go_ret;exact ⟨rfl,(L.out _ (a_b wr _)).1⟩
   ·obtain rfl:k=R:=by omega
    have J:r=true:=by rw [<- HR.out,HF.out];exact j_8 HL.out.1 Hx.out
    subst J;go_wp2;go_ret;exact ⟨rfl,HB.out.1⟩
end Go.Proofs.YtjlofobnmjompaaGreatDoor.Wd
