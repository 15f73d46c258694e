/- The reference's in, product, formed. -/
import Derived.Test.YtjlofobnmjompaaGreatDoorT32
import Derived.Test.YtjlofobnmjompaaGreatDoorT33
set_option linter.unusedVariables false
set_option linter.unusedSimpArgs false
set_option maxHeartbeats 16000000
set_option maxRecDepth 16000
namespace Go.Proofs.YtjlofobnmjompaaGreatDoor.Wd
open Go.RowKit
theorem d_l (v l t:Int) (z:Bool) (H:decide (l<=v/\v<=t)=z) (w:World):Calls Tryz.prog 72 #[.int .i64 v,.int .i64 l,.int .i64 t] w fun e M=>e = .returned (.bool z)/\M=w:=by
 have D:Hid (decide (l<=v/\v<=t)=z):=H;clear H;go_enter Tryz.func72,Tryz.ntmps72;by_cases I:l<=v
 ·by_cases L:v<=t
  ·go_wp2;go_ret;exact ⟨by rw [<- D.out,decide_eq_true ⟨I,L⟩];rfl,rfl⟩
  ·have J:t < v:=by omega
   go_wp2;go_ret;exact ⟨by rw [<- D.out,decide_eq_false fun h=>by omega];rfl,rfl⟩
 ·have O:v < l:=by omega
  go_wp2;go_ret;exact ⟨by rw [<- D.out,decide_eq_false fun h=>by omega];rfl,rfl⟩
theorem f_P (v:Value) (l:List Int) (O:k_O l) (w:World) (V:Nums .i64 w v l):
  Calls Tryz.prog 49 #[v] w fun e w'=>e = .returned (.int .i64 (a_t l))/\w'=w:=by
 obtain ⟨p,n,c,rfl,L⟩:=V.lst;have HL:Hid (k_O l):=O;have aa:(n:Int)<=4:=by have:=O.1;rw [L.out.1] at this;omega
 obtain ⟨r,M⟩:∃ r:Int,a_t l=r:=⟨_,rfl⟩
 have HR:Hid (a_t l=r):=M;rw [M];clear M V O;go_enter Tryz.func49,Tryz.ntmps49;go_wp2_with fail
 go_loopg [3,4] n (fun gg u v wr=>∃ (k:Nat) (x:Int),k<=n/\gg=n - k/\u = .int .i64 x/\v = .int .i64 (k:Int)/\Hid (x=a_t (l.take k))/\wr=w)
 case atStart=>exact ⟨0,1,by omega,by omega,rfl,rfl,rfl,rfl⟩
 case round=>
  obtain ⟨k,x,hk,hg,rfl,rfl,Hx,rfl⟩:=hrel;by_cases I:k < n
  ·have ab:(k:Int) < (n:Int):=by omega
   obtain ⟨q,o,rfl,H⟩:=L.out.2 k I;have D:k < l.length:=by rw [L.out.1];exact I
   obtain ⟨y,R⟩:∃ y,l.getD k 0=y:=⟨_,rfl⟩
   rw [R] at H
   have J:x*y=a_t (l.take (k+1)):=by
    rw [List.take_add_one,List.getElem?_eq_getElem D,Option.toList_some,g_p,Hx.out,<- R,List.getD_eq_getElem?_getD,List.getElem?_eq_getElem D];rfl
   have U:=HL.out.2 (k+1) (by omega);rw [<- J] at U;obtain ⟨m,em⟩:∃ m,x*y=m:=⟨_,rfl⟩
   rw [em] at U J;have Hn:Hid (m=a_t (l.take (k+1))):=J;clear R D J;go_wp2;go_roundg (n - (k+1))
   case measure=>omega
   case rel=>exact ⟨k+1,m,by omega,rfl,by first|rfl|simp [em],by first|rfl|simp,Hn,rfl⟩
  ·obtain rfl:k=n:=by omega
   go_wp2;go_ret;rw [<- HR.out,Hx.out,List.take_of_length_le (by rw [L.out.1];exact Nat.le_refl _)];exact ⟨rfl,rfl⟩
/-- What is asked of a layer's numbers, by its kind. -/
theorem c_X {s:ByteArray} {a b:Int} {z:Nat} (h:a_s s=z) (D:z=0∨z=2∨z=3):decide (a_R (s,a,b))=(decide (1<=a/\a<=c_s z) && decide (b=0)):=by
 unfold a_R;rw [<- Bool.decide_and,decide_eq_decide];simp only [h];rcases D with rfl|rfl|rfl <;> simp [h_m,c_s,d_h]
theorem h_e {s:ByteArray} {a b:Int} (h:a_s s=1):decide (a_R (s,a,b))=(decide (1<=a/\a<=16) && decide (1<=b/\b<=16)):=by
 unfold a_R;rw [<- Bool.decide_and,decide_eq_decide];simp [h,h_m,c_s,d_h]
theorem h_f {s:ByteArray} {a b:Int} (h:a_s s=4):decide (a_R (s,a,b))=(decide (a=0) && decide (b=0)):=by
 unfold a_R;rw [<- Bool.decide_and,decide_eq_decide];simp [h,h_m,c_s,d_h]
theorem s_r {s:ByteArray} {a b:Int} (h:a_s s=5):decide (a_R (s,a,b))=false:=by
 unfold a_R;rw [decide_eq_false];simp [h]
theorem k_X (p p2:Option Addr) (n c R c2:Nat) (d:List Int) (ls:List Ly) (aC:R<=1073741824) (w:World) (h1:Nums .i64 w (.slice p n c) d) (h2:LyR 0 w p2 R ls):
  Calls Tryz.prog 48 #[.agg #[.slice p n c,.slice p2 R c2]] w fun e w'=>e = .returned (.bool (b_M d ls))/\Below w.heap.size w w':=by
 obtain ⟨r,L⟩:∃ r:Bool,b_M d ls=r:=⟨_,rfl⟩
 have HR:Hid (b_M d ls=r):=L;rw [L];clear L;have HL:Hid (LyR 0 w p2 R ls):=h2;have HN:Hid (Nums .i64 w (.slice p n c) d):=h1;clear h2 h1;go_enter Tryz.func48,Tryz.ntmps48;obtain ⟨p',n',c',e',HC⟩:=HN.out.lst;cases e';obtain ⟨qi,aq⟩:∃ q,d_P d=q:=⟨_,rfl⟩
 have aj:Hid (d_P d=qi):=aq;have ax:qi=false->r=false:=fun h=>by rw [<- HR.out];unfold b_M;rw [aq,h];rfl
 have HF:qi=true->Hid (b_M d ls=ls.all fun l=>decide (a_R l)):=fun h=>by show _=_;unfold b_M;rw [aq,h];rfl
 have ap:Hid (qi=false->r=false):=ax;have aw:Hid (qi=true->Hid (b_M d ls=ls.all fun l=>decide (a_R l))):=HF;clear aq ax HF
 have ao:(∃ x,d = [x]/\n=1)∨(∃ x y,d = [x,y]/\n=2)∨(n≠1/\n≠2/\qi=false):=by
  have hl:=HC.out.1;by_cases g1:n=1
  ·subst g1
   match d,hl with
   | [x],_=>exact .inl ⟨x,rfl,rfl⟩
  by_cases g2:n=2
  ·subst g2
   match d,hl with
   | [x,y],_=>exact .inr (.inl ⟨x,y,rfl,rfl⟩)
  exact .inr (.inr ⟨g1,g2,by rw [<- aj.out];exact h_4 (by rw [hl];exact g1) (by rw [hl];exact g2)⟩)
 rcases ao with ⟨x,rfl,hn⟩|⟨x,y,rfl,hn⟩|⟨g1,g2,g3⟩
 case inr.inr=>
  have aF:((n:Int)==1)=false:=by simpa using (show (n:Int)≠1 by omega)
  have aE:((n:Int)==2)=false:=by simpa using (show (n:Int)≠2 by omega)
  have L:=ap.out g3;subst L;clear g1 g2;go_wp2;go_ret;exact ⟨rfl,a_b w _⟩
 case' inl=>
  obtain ⟨q,o,rfl,x0⟩:=HC.out.2 0 (by omega);have t1:((n:Int)==1)=true:=by rw [hn];rfl
  have i0:(0:Int) < (n:Int):=by omega
  clear hn;simp only [List.getD_cons_zero,Nat.add_zero] at x0;have kq:=a_f x0;go_wp2_with fail
  generalize ad:World.alloc _ _=W0;have af:Hid (Below w.heap.size w W0):=by rw [<- ad];exact a_b w _
  have au:Hid (W0.cell? ⟨w.heap.size,1,none⟩=some (.slice p2 R c2)):=by show _=_;rw [<- ad];simp [go_sem]
  clear ad;obtain ⟨U,H⟩:∃ q,decide (1<=x/\x<=1024)=q:=⟨_,rfl⟩
  have I:Hid (d_P [x]=U):=H;refine (d_l _ _ _ U H _).mono ?_;rintro e w3 ⟨rfl,rfl⟩;clear H;cases U
  case false=>
   have L:=ap.out (by rw [<- aj.out];exact I.out);subst L;go_wp2;go_ret;exact ⟨rfl,af.out⟩
  have HF:=aw.out (by rw [<- aj.out];exact I.out)
 case' inr.inl=>
  obtain ⟨q,o,rfl,x0⟩:=HC.out.2 0 (by omega);obtain ⟨q',o',e,x1⟩:=HC.out.2 1 (by omega);cases e;have t1:((n:Int)==1)=false:=by rw [hn];rfl
  have t2:((n:Int)==2)=true:=by rw [hn];rfl
  have i0:(0:Int) < (n:Int):=by omega
  have i1:(1:Int) < (n:Int):=by omega
  clear hn;simp only [List.getD_cons_zero,List.getD_cons_succ,Nat.add_zero] at x0 x1;have kq:=a_f x0;go_wp2_with fail
  generalize ad:World.alloc _ _=W0;have af:Hid (Below w.heap.size w W0):=by rw [<- ad];exact a_b w _
  have au:Hid (W0.cell? ⟨w.heap.size,1,none⟩=some (.slice p2 R c2)):=by show _=_;rw [<- ad];simp [go_sem]
  have C0:W0.cell? ⟨w.heap.size,0,none⟩=some (.slice (some ⟨q,o,none⟩) n c):=by rw [<- ad];simp [go_sem]
  have C1:=au.out;replace x0:=a_h af.out x0;replace x1:=a_h af.out x1;have kC:=a_f C0;have kX:=a_f x0;clear ad;obtain ⟨U,H⟩:∃ q,decide (1<=x/\x<=64)=q:=⟨_,rfl⟩
  have I:Hid (decide (1<=x/\x<=64)=U):=H;refine (d_l _ _ _ U H _).mono ?_;rintro e w3 ⟨rfl,rfl⟩;clear H;have av:Hid (d_P [x,y]=(decide (1<=x/\x<=64) && decide (1<=y/\y<=64))):=Bool.decide_and _ _;cases U
  case false=>
   have L:=ap.out (by rw [<- aj.out];rw [av.out,I.out];rfl);subst L;go_wp2;go_ret;exact ⟨rfl,af.out⟩
  go_wp2_with fail
  obtain ⟨qb,ah⟩:∃ q,decide (1<=y/\y<=64)=q:=⟨_,rfl⟩
  have an:Hid (decide (1<=y/\y<=64)=qb):=ah;refine (d_l _ _ _ qb ah _).mono ?_;rintro e w3 ⟨rfl,rfl⟩;clear ah;cases qb
  case false=>
   have L:=ap.out (by rw [<- aj.out];rw [av.out,I.out,an.out];rfl);subst L;go_wp2;go_ret;exact ⟨rfl,af.out⟩
  have HF:=aw.out (by rw [<- aj.out];rw [av.out,I.out,an.out];rfl)
 all_goals
  go_wp2
  go_loopg [3] R (fun gg v wr=>∃ (k:Nat),k<=R/\gg=R - k/\v = .int .i64 (k:Int)/\Hid (∀ i,i < k->decide (a_R (lyA ls i))=true)/\Hid (Below w.heap.size w wr/\wr.cell? ⟨w.heap.size,1,none⟩=some (.slice p2 R c2)))
  case atStart=>exact ⟨0,by omega,by omega,rfl,fun i hi=>by omega,af.out,au.out⟩
  case round=>
   obtain ⟨k,hk,hg,rfl,Hx,HB⟩:=hrel;have D1:=HB.out.2;have kD:=a_f D1;by_cases ay:k < R
   ·have aG:(k:Int) < (R:Int):=by omega
    obtain ⟨q',o',rfl,c0,c1,ak⟩:=(HL.out.up HB.out.1).2 k ay;obtain ⟨l,el⟩:∃ l,lyA ls k=l:=⟨_,rfl⟩
    obtain ⟨s,a,b⟩:=l;rw [el] at c0 c1 ak;have aD:=a_f c0;have D:Hid (decide (a_R (s,a,b))=false->r=false):=fun h=>by rw [<- HR.out,HF.out];exact m_P (i:=k) (by rw [HL.out.1];exact ay) (by rw [el];exact h)
    have aa:Hid (decide (a_R (s,a,b))=true->∀ i,i < k+1->decide (a_R (lyA ls i))=true):=fun h i hi=>by
     rcases Nat.lt_succ_iff_lt_or_eq.1 hi with h2|rfl
     ·exact Hx.out i h2
     ·rw [el];exact h
    obtain ⟨k0,k1,k2,k3,k4⟩:=kts s;have az:=m_K s;obtain ⟨z,ez⟩:∃ z,a_s s=z:=⟨_,rfl⟩
    have HZ:Hid (a_s s=z):=ez;rw [ez] at k0 k1 k2 k3 k4 az;clear el ez;have M:Hid (∀ W,Below wr.heap.size wr W->Below w.heap.size w W/\W.cell? ⟨w.heap.size,1,none⟩=some (.slice (some ⟨q',o',none⟩) R c2)):=fun W hW=>⟨a_c HB.out.1 hW,a_h hW HB.out.2⟩
    rcases (show z=0∨z=1∨z=2∨z=3∨z=4∨z=5 by omega) with rfl|rfl|rfl|rfl|rfl|rfl
    ·simp only [decide_true,show (decide ((0:Nat)=0))=true from by decide,show (decide ((0:Nat)=1))=false from by decide,show (decide ((0:Nat)=2))=false from by decide,show (decide ((0:Nat)=3))=false from by decide,show (decide ((0:Nat)=4))=false from by decide] at k0 k1 k2 k3 k4;go_wp2_with fail
     generalize O:World.alloc _ _=W2;have HA:Hid (Below wr.heap.size wr W2/\True):=⟨by rw [<- O];exact a_b wr _,trivial⟩
     obtain ⟨e0,e1,e2⟩:W2.cell? ⟨wr.heap.size,0,none⟩=some (.string s)/\W2.cell? ⟨wr.heap.size,1,none⟩=some (.int .i64 a)/\W2.cell? ⟨wr.heap.size,2,none⟩=some (.int .i64 b):=by rw [<- O];simp [go_sem]
     have ke:=a_f e0;clear O c0 c1 ak;obtain ⟨U,H⟩:∃ q,decide (1<=a/\a<=256)=q:=⟨_,rfl⟩
     have I:Hid (decide (1<=a/\a<=c_s 0)=U):=H;refine (d_l _ _ _ U H _).mono ?_;rintro e w3 ⟨rfl,rfl⟩;clear H;cases U with
     | false=>
      have L:=D.out (by rw [c_X HZ.out (by omega),I.out];rfl);subst L;go_wp2;go_ret;exact ⟨rfl,(M.out _ HA.out.1).1⟩
     | true=>
      by_cases J:b=0
      ·subst J;have ab:Hid (∀ i,i < k+1->decide (a_R (lyA ls i))=true):=aa.out (by rw [c_X HZ.out (by omega),I.out];rfl);have ai:Hid (Below w.heap.size w w3/\w3.cell? ⟨w.heap.size,1,none⟩=some (.slice (some ⟨q',o',none⟩) R c2)):=M.out _ HA.out.1;clear aa D;go_wp2;go_roundg (R - (k+1))
       case measure=>omega
       case rel=>exact ⟨k+1,by omega,rfl,by first|rfl|simp,ab,ai⟩
      ·have am:(b==0)=false:=by simpa using J
       have ag:Hid (decide (b=0)=false):=decide_eq_false J;clear J;have L:=D.out (by rw [c_X HZ.out (by omega),I.out,ag.out];rfl);subst L;go_wp2;go_ret;exact ⟨rfl,(M.out _ HA.out.1).1⟩
    ·simp only [decide_true,show (decide ((1:Nat)=0))=false from by decide,show (decide ((1:Nat)=1))=true from by decide,show (decide ((1:Nat)=2))=false from by decide,show (decide ((1:Nat)=3))=false from by decide,show (decide ((1:Nat)=4))=false from by decide] at k0 k1 k2 k3 k4;go_wp2_with fail
     generalize O:World.alloc _ _=W2;have HA:Hid (Below wr.heap.size wr W2/\True):=⟨by rw [<- O];exact a_b wr _,trivial⟩
     obtain ⟨e0,e1,e2⟩:W2.cell? ⟨wr.heap.size,0,none⟩=some (.string s)/\W2.cell? ⟨wr.heap.size,1,none⟩=some (.int .i64 a)/\W2.cell? ⟨wr.heap.size,2,none⟩=some (.int .i64 b):=by rw [<- O];simp [go_sem]
     have ke:=a_f e0;clear O c0 c1 ak;obtain ⟨U,H⟩:∃ q,decide (1<=a/\a<=16)=q:=⟨_,rfl⟩
     have I:Hid (decide (1<=a/\a<=16)=U):=H;refine (d_l _ _ _ U H _).mono ?_;rintro e w3 ⟨rfl,rfl⟩;clear H;cases U with
     | false=>
      have L:=D.out (by rw [h_e HZ.out,I.out];rfl);subst L;go_wp2;go_ret;exact ⟨rfl,(M.out _ HA.out.1).1⟩
     | true=>
      go_wp2_with fail
      obtain ⟨qb,ah⟩:∃ q,decide (1<=b/\b<=16)=q:=⟨_,rfl⟩
      have an:Hid (decide (1<=b/\b<=16)=qb):=ah;refine (d_l _ _ _ qb ah _).mono ?_;rintro e w4 ⟨rfl,rfl⟩;clear ah;cases qb with
      | false=>
       have L:=D.out (by rw [h_e HZ.out,I.out,an.out];rfl);subst L;go_wp2;go_ret;exact ⟨rfl,(M.out _ HA.out.1).1⟩
      | true=>
       have ab:Hid (∀ i,i < k+1->decide (a_R (lyA ls i))=true):=aa.out (by rw [h_e HZ.out,I.out,an.out];rfl);have ai:Hid (Below w.heap.size w w4/\w4.cell? ⟨w.heap.size,1,none⟩=some (.slice (some ⟨q',o',none⟩) R c2)):=M.out _ HA.out.1;clear aa D;go_wp2;go_roundg (R - (k+1))
       case measure=>omega
       case rel=>exact ⟨k+1,by omega,rfl,by first|rfl|simp,ab,ai⟩
    ·simp only [decide_true,show (decide ((2:Nat)=0))=false from by decide,show (decide ((2:Nat)=1))=false from by decide,show (decide ((2:Nat)=2))=true from by decide,show (decide ((2:Nat)=3))=false from by decide,show (decide ((2:Nat)=4))=false from by decide] at k0 k1 k2 k3 k4;go_wp2_with fail
     generalize O:World.alloc _ _=W2;have HA:Hid (Below wr.heap.size wr W2/\True):=⟨by rw [<- O];exact a_b wr _,trivial⟩
     obtain ⟨e0,e1,e2⟩:W2.cell? ⟨wr.heap.size,0,none⟩=some (.string s)/\W2.cell? ⟨wr.heap.size,1,none⟩=some (.int .i64 a)/\W2.cell? ⟨wr.heap.size,2,none⟩=some (.int .i64 b):=by rw [<- O];simp [go_sem]
     have ke:=a_f e0;clear O c0 c1 ak;obtain ⟨U,H⟩:∃ q,decide (1<=a/\a<=16)=q:=⟨_,rfl⟩
     have I:Hid (decide (1<=a/\a<=c_s 2)=U):=H;refine (d_l _ _ _ U H _).mono ?_;rintro e w3 ⟨rfl,rfl⟩;clear H;cases U with
     | false=>
      have L:=D.out (by rw [c_X HZ.out (by omega),I.out];rfl);subst L;go_wp2;go_ret;exact ⟨rfl,(M.out _ HA.out.1).1⟩
     | true=>
      by_cases J:b=0
      ·subst J;have ab:Hid (∀ i,i < k+1->decide (a_R (lyA ls i))=true):=aa.out (by rw [c_X HZ.out (by omega),I.out];rfl);have ai:Hid (Below w.heap.size w w3/\w3.cell? ⟨w.heap.size,1,none⟩=some (.slice (some ⟨q',o',none⟩) R c2)):=M.out _ HA.out.1;clear aa D;go_wp2;go_roundg (R - (k+1))
       case measure=>omega
       case rel=>exact ⟨k+1,by omega,rfl,by first|rfl|simp,ab,ai⟩
      ·have am:(b==0)=false:=by simpa using J
       have ag:Hid (decide (b=0)=false):=decide_eq_false J;clear J;have L:=D.out (by rw [c_X HZ.out (by omega),I.out,ag.out];rfl);subst L;go_wp2;go_ret;exact ⟨rfl,(M.out _ HA.out.1).1⟩
    ·simp only [decide_true,show (decide ((3:Nat)=0))=false from by decide,show (decide ((3:Nat)=1))=false from by decide,show (decide ((3:Nat)=2))=false from by decide,show (decide ((3:Nat)=3))=true from by decide,show (decide ((3:Nat)=4))=false from by decide] at k0 k1 k2 k3 k4;go_wp2_with fail
     generalize O:World.alloc _ _=W2;have HA:Hid (Below wr.heap.size wr W2/\True):=⟨by rw [<- O];exact a_b wr _,trivial⟩
     obtain ⟨e0,e1,e2⟩:W2.cell? ⟨wr.heap.size,0,none⟩=some (.string s)/\W2.cell? ⟨wr.heap.size,1,none⟩=some (.int .i64 a)/\W2.cell? ⟨wr.heap.size,2,none⟩=some (.int .i64 b):=by rw [<- O];simp [go_sem]
     have ke:=a_f e0;clear O c0 c1 ak;obtain ⟨U,H⟩:∃ q,decide (1<=a/\a<=5)=q:=⟨_,rfl⟩
     have I:Hid (decide (1<=a/\a<=c_s 3)=U):=H;refine (d_l _ _ _ U H _).mono ?_;rintro e w3 ⟨rfl,rfl⟩;clear H;cases U with
     | false=>
      have L:=D.out (by rw [c_X HZ.out (by omega),I.out];rfl);subst L;go_wp2;go_ret;exact ⟨rfl,(M.out _ HA.out.1).1⟩
     | true=>
      by_cases J:b=0
      ·subst J;have ab:Hid (∀ i,i < k+1->decide (a_R (lyA ls i))=true):=aa.out (by rw [c_X HZ.out (by omega),I.out];rfl);have ai:Hid (Below w.heap.size w w3/\w3.cell? ⟨w.heap.size,1,none⟩=some (.slice (some ⟨q',o',none⟩) R c2)):=M.out _ HA.out.1;clear aa D;go_wp2;go_roundg (R - (k+1))
       case measure=>omega
       case rel=>exact ⟨k+1,by omega,rfl,by first|rfl|simp,ab,ai⟩
      ·have am:(b==0)=false:=by simpa using J
       have ag:Hid (decide (b=0)=false):=decide_eq_false J;clear J;have L:=D.out (by rw [c_X HZ.out (by omega),I.out,ag.out];rfl);subst L;go_wp2;go_ret;exact ⟨rfl,(M.out _ HA.out.1).1⟩
    ·simp only [decide_true,show (decide ((4:Nat)=0))=false from by decide,show (decide ((4:Nat)=1))=false from by decide,show (decide ((4:Nat)=2))=false from by decide,show (decide ((4:Nat)=3))=false from by decide,show (decide ((4:Nat)=4))=true from by decide] at k0 k1 k2 k3 k4;by_cases ar:a=0
     ·subst ar;by_cases J:b=0
      ·subst J;have ab:Hid (∀ i,i < k+1->decide (a_R (lyA ls i))=true):=aa.out (by rw [h_f HZ.out];rfl);clear aa D;go_wp2;go_roundg (R - (k+1))
       case measure=>omega
       case rel=>exact ⟨k+1,by omega,rfl,by first|rfl|simp,ab,M.out _ (a_b wr _)⟩
      ·have am:(b==0)=false:=by simpa using J
       have ag:Hid (decide (b=0)=false):=decide_eq_false J;clear J;have L:=D.out (by rw [h_f HZ.out,ag.out];rfl);subst L;go_wp2;go_ret;exact ⟨rfl,(M.out _ (a_b wr _)).1⟩
     ·have aB:(a==0)=false:=by simpa using ar
      have aA:Hid (decide (a=0)=false):=decide_eq_false ar;clear ar;have L:=D.out (by rw [h_f HZ.out,aA.out];rfl);subst L;go_wp2;go_ret;exact ⟨rfl,(M.out _ (a_b wr _)).1⟩
    ·simp only [decide_true,show (decide ((5:Nat)=0))=false from by decide,show (decide ((5:Nat)=1))=false from by decide,show (decide ((5:Nat)=2))=false from by decide,show (decide ((5:Nat)=3))=false from by decide,show (decide ((5:Nat)=4))=false from by decide] at k0 k1 k2 k3 k4;have L:=D.out (by rw [s_r HZ.out]);subst L;go_wp2;go_ret;exact ⟨rfl,(M.out _ (a_b wr _)).1⟩
   ·obtain rfl:k=R:=by omega
    have L:r=true:=by rw [<- HR.out,HF.out];exact j_8 HL.out.1 Hx.out
    subst L;go_wp2;go_ret;exact ⟨rfl,HB.out.1⟩
end Go.Proofs.YtjlofobnmjompaaGreatDoor.Wd
