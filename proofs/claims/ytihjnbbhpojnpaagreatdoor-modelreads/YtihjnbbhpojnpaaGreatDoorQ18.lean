/- The reference's in, product, formed. -/
import Derived.Test.YtihjnbbhpojnpaaGreatDoorQ17
set_option linter.unusedVariables false
set_option linter.unusedSimpArgs false
set_option maxHeartbeats 16000000
set_option maxRecDepth 16000
namespace Go.Proofs.YtihjnbbhpojnpaaGreatDoor.Wd
open Go.RowKit
theorem rin_any (v l t:Int) (z:Bool) (ez:decide (l≤v∧v≤t)=z) (w:World):Calls Tryz.prog 57 #[.int .i64 v,.int .i64 l,.int .i64 t] w fun e w'=>e = .returned (.bool z)∧w'=w:=by
 have HZ:Hid (decide (l≤v∧v≤t)=z):=ez
 clear ez
 go_enter Tryz.func57,Tryz.ntmps57
 by_cases h1:l≤v
 ·by_cases h2:v≤t
  ·go_wp2
   go_ret
   exact ⟨by rw [← HZ.out,decide_eq_true ⟨h1,h2⟩];rfl,rfl⟩
  ·have h2':t < v:=by omega
   go_wp2
   go_ret
   exact ⟨by rw [← HZ.out,decide_eq_false fun h=>by omega];rfl,rfl⟩
 ·have h1':v < l:=by omega
  go_wp2
  go_ret
  exact ⟨by rw [← HZ.out,decide_eq_false fun h=>by omega];rfl,rfl⟩
theorem rprod_any (v:Value) (l:List Int) (hl:Smal l) (w:World) (hv:Nums .i64 w v l):
  Calls Tryz.prog 39 #[v] w fun e w'=>e = .returned (.int .i64 (prodI l))∧w'=w:=by
 obtain ⟨p,n,c,rfl,HC⟩:=hv.lst
 have HL:Hid (Smal l):=hl
 have hn4:(n:Int)≤4:=by have:=hl.1;rw [HC.out.1] at this;omega
 obtain ⟨r,er⟩:∃ r:Int,prodI l=r:=⟨_,rfl⟩
 have HR:Hid (prodI l=r):=er
 rw [er]
 clear er hv hl
 go_enter Tryz.func39,Tryz.ntmps39
 go_wp2_with fail
 go_loopg [3,4] n (fun gg u v wr=>∃ (k:Nat) (x:Int),k≤n∧gg=n - k∧u = .int .i64 x∧v = .int .i64 (k:Int)∧Hid (x=prodI (l.take k))∧wr=w)
 case atStart=>exact ⟨0,1,by omega,by omega,rfl,rfl,rfl,rfl⟩
 case round=>
  obtain ⟨k,x,hk,hg,rfl,rfl,Hx,rfl⟩:=hrel
  by_cases hkn:k < n
  ·have hk':(k:Int) < (n:Int):=by omega
   obtain ⟨q,o,rfl,hcell⟩:=HC.out.2 k hkn
   have hkl:k < l.length:=by rw [HC.out.1];exact hkn
   obtain ⟨y,ey⟩:∃ y,l.getD k 0=y:=⟨_,rfl⟩
   rw [ey] at hcell
   have e1:x*y=prodI (l.take (k+1)):=by
    rw [List.take_add_one,List.getElem?_eq_getElem hkl,Option.toList_some,prodI_snoc,Hx.out,← ey,List.getD_eq_getElem?_getD,List.getElem?_eq_getElem hkl]
    rfl
   have hm:=HL.out.2 (k+1) (by omega)
   rw [← e1] at hm
   obtain ⟨m,em⟩:∃ m,x*y=m:=⟨_,rfl⟩
   rw [em] at hm e1
   have Hn:Hid (m=prodI (l.take (k+1))):=e1
   clear ey hkl e1
   go_wp2
   go_roundg (n - (k+1))
   case measure=>omega
   case rel=>exact ⟨k+1,m,by omega,rfl,by first|rfl|simp [em],by first|rfl|simp,Hn,rfl⟩
  ·obtain rfl:k=n:=by omega
   go_wp2
   go_ret
   rw [← HR.out,Hx.out,List.take_of_length_le (by rw [HC.out.1];exact Nat.le_refl _)]
   exact ⟨rfl,rfl⟩
/-- What is asked of a layer's numbers, by its kind. -/
theorem lay_one {s:ByteArray} {a b:Int} {z:Nat} (h:kindI s=z) (hz:z=0∨z=2∨z=3):decide (LayOk (s,a,b))=(decide (1≤a∧a≤kTopA z) && decide (b=0)):=by
 unfold LayOk
 rw [← Bool.decide_and,decide_eq_decide]
 simp only [h]
 rcases hz with rfl|rfl|rfl <;> simp [kCnt,kTopA,kTopB]
theorem lay_conv {s:ByteArray} {a b:Int} (h:kindI s=1):decide (LayOk (s,a,b))=(decide (1≤a∧a≤16) && decide (1≤b∧b≤16)):=by
 unfold LayOk
 rw [← Bool.decide_and,decide_eq_decide]
 simp [h,kCnt,kTopA,kTopB]
theorem lay_skip {s:ByteArray} {a b:Int} (h:kindI s=4):decide (LayOk (s,a,b))=(decide (a=0) && decide (b=0)):=by
 unfold LayOk
 rw [← Bool.decide_and,decide_eq_decide]
 simp [h,kCnt,kTopA,kTopB]
theorem lay_no {s:ByteArray} {a b:Int} (h:kindI s=5):decide (LayOk (s,a,b))=false:=by
 unfold LayOk
 rw [decide_eq_false]
 simp [h]
theorem formed_any (p p2:Option Addr) (n c n2 c2:Nat) (d:List Int) (ls:List Ly) (hbig:n2≤1073741824) (w:World) (h1:Nums .i64 w (.slice p n c) d) (h2:LyR 0 w p2 n2 ls):
  Calls Tryz.prog 38 #[.agg #[.slice p n c,.slice p2 n2 c2]] w fun e w'=>e = .returned (.bool (formB d ls))∧Below w.heap.size w w':=by
 obtain ⟨r,er⟩:∃ r:Bool,formB d ls=r:=⟨_,rfl⟩
 have HR:Hid (formB d ls=r):=er
 rw [er]
 clear er
 have HL:Hid (LyR 0 w p2 n2 ls):=h2
 have HN:Hid (Nums .i64 w (.slice p n c) d):=h1
 clear h2 h1
 go_enter Tryz.func38,Tryz.ntmps38
 obtain ⟨p',n',c',e',HC⟩:=HN.out.lst
 cases e'
 obtain ⟨qi,eqi⟩:∃ q,inOkB d=q:=⟨_,rfl⟩
 have HIN:Hid (inOkB d=qi):=eqi
 have hno:qi=false→r=false:=fun h=>by rw [← HR.out];unfold formB;rw [eqi,h];rfl
 have HF:qi=true→Hid (formB d ls=ls.all fun l=>decide (LayOk l)):=fun h=>by show _=_;unfold formB;rw [eqi,h];rfl
 have HNO:Hid (qi=false→r=false):=hno
 have HF2:Hid (qi=true→Hid (formB d ls=ls.all fun l=>decide (LayOk l))):=HF
 clear eqi hno HF
 have hcases:(∃ x,d = [x]∧n=1)∨(∃ x y,d = [x,y]∧n=2)∨(n≠1∧n≠2∧qi=false):=by
  have hl:=HC.out.1
  by_cases g1:n=1
  ·subst g1
   match d,hl with
   | [x],_=>exact .inl ⟨x,rfl,rfl⟩
  by_cases g2:n=2
  ·subst g2
   match d,hl with
   | [x,y],_=>exact .inr (.inl ⟨x,y,rfl,rfl⟩)
  exact .inr (.inr ⟨g1,g2,by rw [← HIN.out];exact inOkB_not (by rw [hl];exact g1) (by rw [hl];exact g2)⟩)
 rcases hcases with ⟨x,rfl,hn⟩|⟨x,y,rfl,hn⟩|⟨g1,g2,g3⟩
 case inr.inr=>
  have h1':((n:Int)==1)=false:=by simpa using (show (n:Int)≠1 by omega)
  have h2':((n:Int)==2)=false:=by simpa using (show (n:Int)≠2 by omega)
  have er:=HNO.out g3
  subst er
  clear g1 g2
  go_wp2
  go_ret
  exact ⟨rfl,up_alloc w _⟩
 case' inl=>
  obtain ⟨q,o,rfl,x0⟩:=HC.out.2 0 (by omega)
  have t1:((n:Int)==1)=true:=by rw [hn];rfl
  have i0:(0:Int) < (n:Int):=by omega
  clear hn
  simp only [List.getD_cons_zero,Nat.add_zero] at x0
  have kq:=cell_size x0
  go_wp2_with fail
  generalize hW0:World.alloc _ _=W0
  have HB0:Hid (Below w.heap.size w W0):=by rw [← hW0];exact up_alloc w _
  have HC1:Hid (W0.cell? ⟨w.heap.size,1,none⟩=some (.slice p2 n2 c2)):=by show _=_;rw [← hW0];simp [go_sem]
  clear hW0
  obtain ⟨qa,eqa⟩:∃ q,decide (1≤x∧x≤1024)=q:=⟨_,rfl⟩
  have HQA:Hid (inOkB [x]=qa):=eqa
  refine (rin_any _ _ _ qa eqa _).mono ?_
  rintro e w3 ⟨rfl,rfl⟩
  clear eqa
  cases qa
  case false=>
   have er:=HNO.out (by rw [← HIN.out];exact HQA.out)
   subst er
   go_wp2
   go_ret
   exact ⟨rfl,HB0.out⟩
  have HF:=HF2.out (by rw [← HIN.out];exact HQA.out)
 case' inr.inl=>
  obtain ⟨q,o,rfl,x0⟩:=HC.out.2 0 (by omega)
  obtain ⟨q',o',e,x1⟩:=HC.out.2 1 (by omega)
  cases e
  have t1:((n:Int)==1)=false:=by rw [hn];rfl
  have t2:((n:Int)==2)=true:=by rw [hn];rfl
  have i0:(0:Int) < (n:Int):=by omega
  have i1:(1:Int) < (n:Int):=by omega
  clear hn
  simp only [List.getD_cons_zero,List.getD_cons_succ,Nat.add_zero] at x0 x1
  have kq:=cell_size x0
  go_wp2_with fail
  generalize hW0:World.alloc _ _=W0
  have HB0:Hid (Below w.heap.size w W0):=by rw [← hW0];exact up_alloc w _
  have HC1:Hid (W0.cell? ⟨w.heap.size,1,none⟩=some (.slice p2 n2 c2)):=by show _=_;rw [← hW0];simp [go_sem]
  have C0:W0.cell? ⟨w.heap.size,0,none⟩=some (.slice (some ⟨q,o,none⟩) n c):=by rw [← hW0];simp [go_sem]
  have C1:=HC1.out
  replace x0:=still_cell HB0.out x0
  replace x1:=still_cell HB0.out x1
  have kC:=cell_size C0
  have kX:=cell_size x0
  clear hW0
  obtain ⟨qa,eqa⟩:∃ q,decide (1≤x∧x≤64)=q:=⟨_,rfl⟩
  have HQA:Hid (decide (1≤x∧x≤64)=qa):=eqa
  refine (rin_any _ _ _ qa eqa _).mono ?_
  rintro e w3 ⟨rfl,rfl⟩
  clear eqa
  have HTW:Hid (inOkB [x,y]=(decide (1≤x∧x≤64) && decide (1≤y∧y≤64))):=Bool.decide_and _ _
  cases qa
  case false=>
   have er:=HNO.out (by rw [← HIN.out];rw [HTW.out,HQA.out];rfl)
   subst er
   go_wp2
   go_ret
   exact ⟨rfl,HB0.out⟩
  go_wp2_with fail
  obtain ⟨qb,eqb⟩:∃ q,decide (1≤y∧y≤64)=q:=⟨_,rfl⟩
  have HQB:Hid (decide (1≤y∧y≤64)=qb):=eqb
  refine (rin_any _ _ _ qb eqb _).mono ?_
  rintro e w3 ⟨rfl,rfl⟩
  clear eqb
  cases qb
  case false=>
   have er:=HNO.out (by rw [← HIN.out];rw [HTW.out,HQA.out,HQB.out];rfl)
   subst er
   go_wp2
   go_ret
   exact ⟨rfl,HB0.out⟩
  have HF:=HF2.out (by rw [← HIN.out];rw [HTW.out,HQA.out,HQB.out];rfl)
 all_goals
  go_wp2
  go_loopg [3] n2 (fun gg v wr=>∃ (k:Nat),k≤n2∧gg=n2 - k∧v = .int .i64 (k:Int)∧Hid (∀ i,i < k→decide (LayOk (lyA ls i))=true)∧Hid (Below w.heap.size w wr∧wr.cell? ⟨w.heap.size,1,none⟩=some (.slice p2 n2 c2)))
  case atStart=>exact ⟨0,by omega,by omega,rfl,fun i hi=>by omega,HB0.out,HC1.out⟩
  case round=>
   obtain ⟨k,hk,hg,rfl,Hx,HB⟩:=hrel
   have D1:=HB.out.2
   have kD:=cell_size D1
   by_cases hkn:k < n2
   ·have hk':(k:Int) < (n2:Int):=by omega
    obtain ⟨q',o',rfl,c0,c1,c2'⟩:=(HL.out.up HB.out.1).2 k hkn
    obtain ⟨l,el⟩:∃ l,lyA ls k=l:=⟨_,rfl⟩
    obtain ⟨s,a,b⟩:=l
    rw [el] at c0 c1 c2'
    have hlt:=cell_size c0
    have Hbad:Hid (decide (LayOk (s,a,b))=false→r=false):=fun h=>by rw [← HR.out,HF.out];exact all_not (i:=k) (by rw [HL.out.1];exact hkn) (by rw [el];exact h)
    have Hok:Hid (decide (LayOk (s,a,b))=true→∀ i,i < k+1→decide (LayOk (lyA ls i))=true):=fun h i hi=>by
     rcases Nat.lt_succ_iff_lt_or_eq.1 hi with h2|rfl
     ·exact Hx.out i h2
     ·rw [el];exact h
    obtain ⟨k0,k1,k2,k3,k4⟩:=kts s
    have hkl:=kind_le s
    obtain ⟨z,ez⟩:∃ z,kindI s=z:=⟨_,rfl⟩
    have HZ:Hid (kindI s=z):=ez
    rw [ez] at k0 k1 k2 k3 k4 hkl
    clear el ez
    have HBn:Hid (∀ W,Below wr.heap.size wr W→Below w.heap.size w W∧W.cell? ⟨w.heap.size,1,none⟩=some (.slice (some ⟨q',o',none⟩) n2 c2)):=fun W hW=>⟨bstep HB.out.1 hW,still_cell hW HB.out.2⟩
    rcases (show z=0∨z=1∨z=2∨z=3∨z=4∨z=5 by omega) with rfl|rfl|rfl|rfl|rfl|rfl
    ·simp only [decide_true,show (decide ((0:Nat)=0))=true from by decide,show (decide ((0:Nat)=1))=false from by decide,show (decide ((0:Nat)=2))=false from by decide,show (decide ((0:Nat)=3))=false from by decide,show (decide ((0:Nat)=4))=false from by decide] at k0 k1 k2 k3 k4
     go_wp2_with fail
     generalize hW2:World.alloc _ _=W2
     have HA:Hid (Below wr.heap.size wr W2∧True):=⟨by rw [← hW2];exact up_alloc wr _,trivial⟩
     obtain ⟨e0,e1,e2⟩:W2.cell? ⟨wr.heap.size,0,none⟩=some (.string s)∧W2.cell? ⟨wr.heap.size,1,none⟩=some (.int .i64 a)∧W2.cell? ⟨wr.heap.size,2,none⟩=some (.int .i64 b):=by rw [← hW2];simp [go_sem]
     have ke:=cell_size e0
     clear hW2 c0 c1 c2'
     obtain ⟨qa,eqa⟩:∃ q,decide (1≤a∧a≤256)=q:=⟨_,rfl⟩
     have HQA:Hid (decide (1≤a∧a≤kTopA 0)=qa):=eqa
     refine (rin_any _ _ _ qa eqa _).mono ?_
     rintro e w3 ⟨rfl,rfl⟩
     clear eqa
     cases qa with
     | false=>
      have er:=Hbad.out (by rw [lay_one HZ.out (by omega),HQA.out];rfl)
      subst er
      go_wp2
      go_ret
      exact ⟨rfl,(HBn.out _ HA.out.1).1⟩
     | true=>
      by_cases hb0:b=0
      ·subst hb0
       have HN2:Hid (∀ i,i < k+1→decide (LayOk (lyA ls i))=true):=Hok.out (by rw [lay_one HZ.out (by omega),HQA.out];rfl)
       have HB2:Hid (Below w.heap.size w w3∧w3.cell? ⟨w.heap.size,1,none⟩=some (.slice (some ⟨q',o',none⟩) n2 c2)):=HBn.out _ HA.out.1
       clear Hok Hbad
       go_wp2
       go_roundg (n2 - (k+1))
       case measure=>omega
       case rel=>exact ⟨k+1,by omega,rfl,by first|rfl|simp,HN2,HB2⟩
      ·have hb0':(b==0)=false:=by simpa using hb0
       have HB9:Hid (decide (b=0)=false):=decide_eq_false hb0
       clear hb0
       have er:=Hbad.out (by rw [lay_one HZ.out (by omega),HQA.out,HB9.out];rfl)
       subst er
       go_wp2
       go_ret
       exact ⟨rfl,(HBn.out _ HA.out.1).1⟩
    ·simp only [decide_true,show (decide ((1:Nat)=0))=false from by decide,show (decide ((1:Nat)=1))=true from by decide,show (decide ((1:Nat)=2))=false from by decide,show (decide ((1:Nat)=3))=false from by decide,show (decide ((1:Nat)=4))=false from by decide] at k0 k1 k2 k3 k4
     go_wp2_with fail
     generalize hW2:World.alloc _ _=W2
     have HA:Hid (Below wr.heap.size wr W2∧True):=⟨by rw [← hW2];exact up_alloc wr _,trivial⟩
     obtain ⟨e0,e1,e2⟩:W2.cell? ⟨wr.heap.size,0,none⟩=some (.string s)∧W2.cell? ⟨wr.heap.size,1,none⟩=some (.int .i64 a)∧W2.cell? ⟨wr.heap.size,2,none⟩=some (.int .i64 b):=by rw [← hW2];simp [go_sem]
     have ke:=cell_size e0
     clear hW2 c0 c1 c2'
     obtain ⟨qa,eqa⟩:∃ q,decide (1≤a∧a≤16)=q:=⟨_,rfl⟩
     have HQA:Hid (decide (1≤a∧a≤16)=qa):=eqa
     refine (rin_any _ _ _ qa eqa _).mono ?_
     rintro e w3 ⟨rfl,rfl⟩
     clear eqa
     cases qa with
     | false=>
      have er:=Hbad.out (by rw [lay_conv HZ.out,HQA.out];rfl)
      subst er
      go_wp2
      go_ret
      exact ⟨rfl,(HBn.out _ HA.out.1).1⟩
     | true=>
      go_wp2_with fail
      obtain ⟨qb,eqb⟩:∃ q,decide (1≤b∧b≤16)=q:=⟨_,rfl⟩
      have HQB:Hid (decide (1≤b∧b≤16)=qb):=eqb
      refine (rin_any _ _ _ qb eqb _).mono ?_
      rintro e w4 ⟨rfl,rfl⟩
      clear eqb
      cases qb with
      | false=>
       have er:=Hbad.out (by rw [lay_conv HZ.out,HQA.out,HQB.out];rfl)
       subst er
       go_wp2
       go_ret
       exact ⟨rfl,(HBn.out _ HA.out.1).1⟩
      | true=>
       have HN2:Hid (∀ i,i < k+1→decide (LayOk (lyA ls i))=true):=Hok.out (by rw [lay_conv HZ.out,HQA.out,HQB.out];rfl)
       have HB2:Hid (Below w.heap.size w w4∧w4.cell? ⟨w.heap.size,1,none⟩=some (.slice (some ⟨q',o',none⟩) n2 c2)):=HBn.out _ HA.out.1
       clear Hok Hbad
       go_wp2
       go_roundg (n2 - (k+1))
       case measure=>omega
       case rel=>exact ⟨k+1,by omega,rfl,by first|rfl|simp,HN2,HB2⟩
    ·simp only [decide_true,show (decide ((2:Nat)=0))=false from by decide,show (decide ((2:Nat)=1))=false from by decide,show (decide ((2:Nat)=2))=true from by decide,show (decide ((2:Nat)=3))=false from by decide,show (decide ((2:Nat)=4))=false from by decide] at k0 k1 k2 k3 k4
     go_wp2_with fail
     generalize hW2:World.alloc _ _=W2
     have HA:Hid (Below wr.heap.size wr W2∧True):=⟨by rw [← hW2];exact up_alloc wr _,trivial⟩
     obtain ⟨e0,e1,e2⟩:W2.cell? ⟨wr.heap.size,0,none⟩=some (.string s)∧W2.cell? ⟨wr.heap.size,1,none⟩=some (.int .i64 a)∧W2.cell? ⟨wr.heap.size,2,none⟩=some (.int .i64 b):=by rw [← hW2];simp [go_sem]
     have ke:=cell_size e0
     clear hW2 c0 c1 c2'
     obtain ⟨qa,eqa⟩:∃ q,decide (1≤a∧a≤16)=q:=⟨_,rfl⟩
     have HQA:Hid (decide (1≤a∧a≤kTopA 2)=qa):=eqa
     refine (rin_any _ _ _ qa eqa _).mono ?_
     rintro e w3 ⟨rfl,rfl⟩
     clear eqa
     cases qa with
     | false=>
      have er:=Hbad.out (by rw [lay_one HZ.out (by omega),HQA.out];rfl)
      subst er
      go_wp2
      go_ret
      exact ⟨rfl,(HBn.out _ HA.out.1).1⟩
     | true=>
      by_cases hb0:b=0
      ·subst hb0
       have HN2:Hid (∀ i,i < k+1→decide (LayOk (lyA ls i))=true):=Hok.out (by rw [lay_one HZ.out (by omega),HQA.out];rfl)
       have HB2:Hid (Below w.heap.size w w3∧w3.cell? ⟨w.heap.size,1,none⟩=some (.slice (some ⟨q',o',none⟩) n2 c2)):=HBn.out _ HA.out.1
       clear Hok Hbad
       go_wp2
       go_roundg (n2 - (k+1))
       case measure=>omega
       case rel=>exact ⟨k+1,by omega,rfl,by first|rfl|simp,HN2,HB2⟩
      ·have hb0':(b==0)=false:=by simpa using hb0
       have HB9:Hid (decide (b=0)=false):=decide_eq_false hb0
       clear hb0
       have er:=Hbad.out (by rw [lay_one HZ.out (by omega),HQA.out,HB9.out];rfl)
       subst er
       go_wp2
       go_ret
       exact ⟨rfl,(HBn.out _ HA.out.1).1⟩
    ·simp only [decide_true,show (decide ((3:Nat)=0))=false from by decide,show (decide ((3:Nat)=1))=false from by decide,show (decide ((3:Nat)=2))=false from by decide,show (decide ((3:Nat)=3))=true from by decide,show (decide ((3:Nat)=4))=false from by decide] at k0 k1 k2 k3 k4
     go_wp2_with fail
     generalize hW2:World.alloc _ _=W2
     have HA:Hid (Below wr.heap.size wr W2∧True):=⟨by rw [← hW2];exact up_alloc wr _,trivial⟩
     obtain ⟨e0,e1,e2⟩:W2.cell? ⟨wr.heap.size,0,none⟩=some (.string s)∧W2.cell? ⟨wr.heap.size,1,none⟩=some (.int .i64 a)∧W2.cell? ⟨wr.heap.size,2,none⟩=some (.int .i64 b):=by rw [← hW2];simp [go_sem]
     have ke:=cell_size e0
     clear hW2 c0 c1 c2'
     obtain ⟨qa,eqa⟩:∃ q,decide (1≤a∧a≤5)=q:=⟨_,rfl⟩
     have HQA:Hid (decide (1≤a∧a≤kTopA 3)=qa):=eqa
     refine (rin_any _ _ _ qa eqa _).mono ?_
     rintro e w3 ⟨rfl,rfl⟩
     clear eqa
     cases qa with
     | false=>
      have er:=Hbad.out (by rw [lay_one HZ.out (by omega),HQA.out];rfl)
      subst er
      go_wp2
      go_ret
      exact ⟨rfl,(HBn.out _ HA.out.1).1⟩
     | true=>
      by_cases hb0:b=0
      ·subst hb0
       have HN2:Hid (∀ i,i < k+1→decide (LayOk (lyA ls i))=true):=Hok.out (by rw [lay_one HZ.out (by omega),HQA.out];rfl)
       have HB2:Hid (Below w.heap.size w w3∧w3.cell? ⟨w.heap.size,1,none⟩=some (.slice (some ⟨q',o',none⟩) n2 c2)):=HBn.out _ HA.out.1
       clear Hok Hbad
       go_wp2
       go_roundg (n2 - (k+1))
       case measure=>omega
       case rel=>exact ⟨k+1,by omega,rfl,by first|rfl|simp,HN2,HB2⟩
      ·have hb0':(b==0)=false:=by simpa using hb0
       have HB9:Hid (decide (b=0)=false):=decide_eq_false hb0
       clear hb0
       have er:=Hbad.out (by rw [lay_one HZ.out (by omega),HQA.out,HB9.out];rfl)
       subst er
       go_wp2
       go_ret
       exact ⟨rfl,(HBn.out _ HA.out.1).1⟩
    ·simp only [decide_true,show (decide ((4:Nat)=0))=false from by decide,show (decide ((4:Nat)=1))=false from by decide,show (decide ((4:Nat)=2))=false from by decide,show (decide ((4:Nat)=3))=false from by decide,show (decide ((4:Nat)=4))=true from by decide] at k0 k1 k2 k3 k4
     by_cases ha0:a=0
     ·subst ha0
      by_cases hb0:b=0
      ·subst hb0
       have HN2:Hid (∀ i,i < k+1→decide (LayOk (lyA ls i))=true):=Hok.out (by rw [lay_skip HZ.out];rfl)
       clear Hok Hbad
       go_wp2
       go_roundg (n2 - (k+1))
       case measure=>omega
       case rel=>exact ⟨k+1,by omega,rfl,by first|rfl|simp,HN2,HBn.out _ (up_alloc wr _)⟩
      ·have hb0':(b==0)=false:=by simpa using hb0
       have HB9:Hid (decide (b=0)=false):=decide_eq_false hb0
       clear hb0
       have er:=Hbad.out (by rw [lay_skip HZ.out,HB9.out];rfl)
       subst er
       go_wp2
       go_ret
       exact ⟨rfl,(HBn.out _ (up_alloc wr _)).1⟩
     ·have ha0':(a==0)=false:=by simpa using ha0
      have HA9:Hid (decide (a=0)=false):=decide_eq_false ha0
      clear ha0
      have er:=Hbad.out (by rw [lay_skip HZ.out,HA9.out];rfl)
      subst er
      go_wp2
      go_ret
      exact ⟨rfl,(HBn.out _ (up_alloc wr _)).1⟩
    ·simp only [decide_true,show (decide ((5:Nat)=0))=false from by decide,show (decide ((5:Nat)=1))=false from by decide,show (decide ((5:Nat)=2))=false from by decide,show (decide ((5:Nat)=3))=false from by decide,show (decide ((5:Nat)=4))=false from by decide] at k0 k1 k2 k3 k4
     have er:=Hbad.out (by rw [lay_no HZ.out])
     subst er
     go_wp2
     go_ret
     exact ⟨rfl,(HBn.out _ (up_alloc wr _)).1⟩
   ·obtain rfl:k=n2:=by omega
    have er:r=true:=by rw [← HR.out,HF.out];exact all_upto HL.out.1 Hx.out
    subst er
    go_wp2
    go_ret
    exact ⟨rfl,HB.out.1⟩
end Go.Proofs.YtihjnbbhpojnpaaGreatDoor.Wd
