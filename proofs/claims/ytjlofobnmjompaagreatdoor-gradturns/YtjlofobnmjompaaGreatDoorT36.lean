/- The laws' own helpers of stage 14: is an example light, numbers again and again, are two rows of Wides alike, is a net tame. · The laws' own helpers of stage 14: is a net tame, are two rows of numbers alike, the net of one number. · Rows of Wides that a call makes and fills; what the laws' awake and GradKnown ask, reckoned. · Two rows of Wides, joined. · A row added to sums. · What the calls of grad tell, as contracts; the net of one number; awake. · What Sum tells, and where the row lies. -/
import Derived.Test.YtjlofobnmjompaaGreatDoorT32
import Derived.Test.YtjlofobnmjompaaGreatDoorT35
import Derived.Laws.StructEq
import Derived.Test.YtjlofobnmjompaaGreatDoorT06
import Derived.BigQuiet
import Derived.Test.YtjlofobnmjompaaGreatDoorT22
set_option linter.unusedVariables false
set_option linter.unusedSimpArgs false
set_option maxHeartbeats 16000000
set_option maxRecDepth 16000
namespace Go.Proofs.YtjlofobnmjompaaGreatDoor.Wd
open Go.RowKit Fx
theorem m_6 (p R:Option Addr) (n c H U:Nat) (cl:Int) (w:World):
  Calls Tryz.prog 13 #[.agg #[.slice p n c,.slice R H U,.int .i64 cl]] w fun e V=>e = .returned (.bool (decide (n<=60/\H<=60)))/\Below w.heap.size w V:=by
 obtain ⟨r,D⟩:∃ r:Bool,decide (n<=60/\H<=60)=r:=⟨_,rfl⟩
 have J:Hid (decide (n<=60/\H<=60)=r):=D;rw [D];clear D;go_enter Tryz.func13,Tryz.ntmps13;by_cases M:n<=60
 ·have L:(n:Int)<=60:=by omega
  by_cases O:H<=60
  ·have I:(H:Int)<=60:=by omega
   have D:r=true:=by rw [<- J.out,decide_eq_true ⟨M,O⟩]
   subst D;go_wp2;go_ret;exact ⟨rfl,by go_grown⟩
  ·have I:60 < (H:Int):=by omega
   have D:r=false:=by rw [<- J.out,decide_eq_false fun h=>O h.2]
   subst D;go_wp2;go_ret;exact ⟨by simp [show ¬ ((H:Int)<=60) by omega],by go_grown⟩
 ·have L:60 < (n:Int):=by omega
  have D:r=false:=by rw [<- J.out,decide_eq_false fun h=>M h.1]
  subst D;go_wp2;go_ret;exact ⟨rfl,by go_grown⟩
theorem i_4 (a b c d:Int) (W:World):Sem.run Tryz.prog (Op.equalIn 10000 45 (.agg #[.int .i64 a,.int .u64 b]) (.agg #[.int .i64 c,.int .u64 d])) W = .ok (decide ((a,b)=(c,d))) W:=by
 rw [show (10000:Nat)=9999+1 from rfl,run_equalIn_struct _ _ _ _ _ (by kernel_rfl) (by kernel_rfl)]
 go_simp
 by_cases D:a=c <;> by_cases H:b=d <;> simp [D,H]
theorem o_K {x y:Int} (h:(x / 18446744073709551616,x % 18446744073709551616)=(y / 18446744073709551616,y % 18446744073709551616)):x=y:=by
 simp only [Prod.mk.injEq] at h;omega
theorem e_o {a b:List Int} (h:a.length=b.length) (I:∀ i,i < a.length->a.getD i 0=b.getD i 0):a=b:=by
 refine List.ext_getElem h fun i D H=>?_;have:=I i D;rwa [List.getD_eq_getElem?_getD,List.getElem?_eq_getElem D,List.getD_eq_getElem?_getD,List.getElem?_eq_getElem H] at this
theorem m_7 (p p2:Option Addr) (n c I c2:Nat) (a b:List Int) (hn:n<=1073741824) (w:World) (h1:WdR w p n a) (U:WdR w p2 I b):
  Calls Tryz.prog 16 #[.slice p n c,.slice p2 I c2] w fun e w'=>e = .returned (.bool (decide (a=b)))/\Below w.heap.size w w':=by
 haveI:Nonempty World:=⟨w⟩
 obtain ⟨r,D⟩:∃ r:Bool,decide (a=b)=r:=⟨_,rfl⟩
 have HR:Hid (decide (a=b)=r):=D;have H:Hid (WdR w p n a/\WdR w p2 I b):=⟨h1,U⟩
 rw [D];clear D h1 U;go_enter Tryz.func16,Tryz.ntmps16;by_cases O:n=I
 case neg=>
  have D:r=false:=by rw [<- HR.out,decide_eq_false fun h=>O (by rw [<- H.out.1.1,<- H.out.2.1,h])]
  subst D;have ab:((n:Int) != (I:Int))=true:=by simpa using (show (n:Int)≠(I:Int) by omega)
  have ac:¬ ((n:Int)=(I:Int)):=by omega
  go_wp2;go_ret;exact ⟨rfl,Below.refl _ _⟩
 subst O;go_wp2_with fail
 go_loopg [5] n (fun gg v wr=>∃ (k:Nat),k<=n/\gg=n - k/\v = .int .i64 (k:Int)/\Hid (∀ i,i < k->a.getD i 0=b.getD i 0)/\Hid (Below w.heap.size w wr))
 case atStart=>exact ⟨0,by omega,by omega,rfl,fun i V=>by omega,Below.refl _ _⟩
 case round=>
  obtain ⟨k,hk,hg,rfl,Hx,R⟩:=hrel;by_cases L:k < n
  ·have aa:(k:Int) < (n:Int):=by omega
   obtain ⟨qa,oa,rfl,a0,a1⟩:=(H.out.1.up R.out).2.2 k L;obtain ⟨qb,ob,rfl,b0,b1⟩:=(H.out.2.up R.out).2.2 k L;obtain ⟨u,M⟩:∃ u,a.getD k 0=u:=⟨_,rfl⟩
   obtain ⟨v,J⟩:∃ v,b.getD k 0=v:=⟨_,rfl⟩
   rw [M] at a0 a1;rw [J] at b0 b1;obtain ⟨u1,e1⟩:∃ x,u / 18446744073709551616=x:=⟨_,rfl⟩
   obtain ⟨u2,e2⟩:∃ x,u % 18446744073709551616=x:=⟨_,rfl⟩
   obtain ⟨v1,f1⟩:∃ x,v / 18446744073709551616=x:=⟨_,rfl⟩
   obtain ⟨v2,f2⟩:∃ x,v % 18446744073709551616=x:=⟨_,rfl⟩
   rw [e1] at a0;rw [e2] at a1;rw [f1] at b0;rw [f2] at b1
   have HU:Hid ((u1,u2)=(v1,v2)↔u=v):=by
    show _↔_;rw [<- e1,<- e2,<- f1,<- f2];exact ⟨o_K,fun h=>by rw [h]⟩
   clear e1 e2 f1 f2;have hq:=fun W=>i_4 u1 u2 v1 v2 W;by_cases he:(u1,u2)=(v1,v2)
   ·simp only [decide_eq_true he] at hq
    have HN:Hid (∀ i,i < k+1->a.getD i 0=b.getD i 0):=fun i V=>by
     rcases Nat.lt_succ_iff_lt_or_eq.1 V with U|rfl
     ·exact Hx.out i U
     ·rw [M,J];exact HU.out.1 he
    clear he M J;go_wp2;go_region;go_wp2;go_roundg (n - (k+1))
    case measure=>omega
    case rel=>exact ⟨k+1,by omega,rfl,by first|rfl|simp,HN,R.out.trans ⟨rfl,rfl,rfl,Nat.le_refl _,fun _ _=>rfl⟩⟩
   ·simp only [decide_eq_false he] at hq;have D:r=false:=by rw [<- HR.out,decide_eq_false fun h=>he (HU.out.2 (by rw [<- M,<- J,h]))]
    subst D;clear he M J;go_wp2;go_region;go_wp2;go_ret;exact ⟨rfl,R.out.trans ⟨rfl,rfl,rfl,Nat.le_refl _,fun _ _=>rfl⟩⟩
  ·obtain rfl:k=n:=by omega
   have D:r=true:=by
    rw [<- HR.out,decide_eq_true (e_o (by rw [H.out.1.1,H.out.2.1]) fun i V=>Hx.out i (by rw [<- H.out.1.1];exact V))]
   subst D;go_wp2;go_ret;exact ⟨rfl,R.out⟩
/-- Numbers again and again. -/
def m_8 (l:List Int) (n:Nat):List Int:=if l.length=0 then List.replicate n 0 else (List.range n).map fun i=>l.getD (i % l.length) 0
theorem o_L (l:List Int) (n:Nat):(m_8 l n).length=n:=by
 unfold m_8
 split <;> simp
theorem q_Z {l:List Int} (h:RI l) (n:Nat):RI (m_8 l n):=by
 unfold m_8
 split
 ·intro y D;rw [(List.mem_replicate.1 D).2];omega
 ·rename_i H
  intro y D;obtain ⟨i,_,rfl⟩:=List.mem_map.1 D;have:=Nat.mod_lt i (Nat.pos_of_ne_zero H);rw [List.getD_eq_getElem?_getD,List.getElem?_eq_getElem this];exact h _ (List.getElem_mem _)
def k_j (l:List Int) (n:Nat):Nat->List Int
 | 0=>List.replicate n 0
 | i+1=>(k_j l n i).set i (l.getD (i % l.length) 0)
theorem d_C (l:List Int) (n:Nat):∀ i,(k_j l n i).length=n
 | 0=>by simp [k_j]
 | i+1=>by rw [k_j,List.length_set,d_C l n i]
theorem m_9 (l:List Int) (n:Nat):∀ i j,j < n->(k_j l n i).getD j 0=if j < i then l.getD (j % l.length) 0 else 0
 | 0,j,hj=>by
  rw [k_j,List.getD_eq_getElem?_getD,List.getElem?_replicate,if_pos hj];rfl
 | i+1,j,hj=>by
  rw [k_j];by_cases e:i=j
  ·subst e;rw [List.getD_eq_getElem?_getD,List.getElem?_set_self (by rw [d_C];exact hj),if_pos (by omega)];rfl
  ·rw [List.getD_eq_getElem?_getD,List.getElem?_set_ne e,<- List.getD_eq_getElem?_getD,m_9 l n i j hj];by_cases h:j < i
   ·rw [if_pos h,if_pos (by omega)]
   ·rw [if_neg h,if_neg (by omega)]
theorem o_M (l:List Int) (n:Nat) (h:0 < l.length):k_j l n n=m_8 l n:=by
 unfold m_8;rw [if_neg (by omega)];refine e_o (by rw [d_C];simp) fun i D=>?_;rw [d_C] at D;rw [m_9 l n n i D,if_pos D,List.getD_eq_getElem?_getD (l:=(List.range n).map _),List.getElem?_map,List.getElem?_range D];rfl
theorem k_Y (p:Option Addr) (m c:Nat) (l:List Int) (n:Nat) (hn:n<=1048576) (hm:m<=1073741824) (w:World) (h1:Nums .i64 w (.slice p m c) l):
  Calls Tryz.prog 14 #[.slice p m c,.int .i64 (n:Int)] w fun e w'=>∃ v,e = .returned v/\OwnK .i64 23 w' w.heap.size v (m_8 l n)/\Below w.heap.size w w':=by
 obtain ⟨p',m',c',e',M⟩:=h1.lst;cases e';haveI:Nonempty World:=⟨w⟩
 obtain ⟨L,eL⟩:∃ L,m_8 l n=L:=⟨_,rfl⟩
 have HL:Hid (m_8 l n=L):=eL;rw [eL];clear eL h1;go_enter Tryz.func14,Tryz.ntmps14;go_wp2_with (at_make;refine a_z k_u (by decide) _ rfl (.tmp 7) (.tmp 7) rfl .i64 .i64 n n n rfl rfl rfl rfl (by omega) w.heap.size w (Nat.le_refl _) (Below.refl _ _) ?_;intro w1 HO B0 B1;clear B0)
 have D:Hid (OwnK .i64 23 w1 w.heap.size (.slice (some ⟨w.heap.size,0,none⟩) n n) (k_j l n 0)):=HO.out;have H:Hid (Below w.heap.size w w1):=B1;clear HO B1;go_wp2_with fail
 by_cases h0:m=0
 ·subst h0;have el:l.length=0:=M.out.1;have O:Hid (k_j l n 0=L):=by show _=_;rw [<- HL.out];unfold m_8;rw [if_pos el];rfl
  clear el
  go_loopg [6] 1 (fun gg i wr=>gg=1/\i = .int .i64 0/\Hid (wr=w1))
  case atStart=>exact ⟨rfl,rfl,rfl⟩
  case round=>
   obtain ⟨rfl,rfl,Hw⟩:=hrel;have ew:=Hw.out;subst ew;by_cases hz:0 < n
   ·have ab:0 < (n:Int):=by omega
    go_wp2;go_ret;exact ⟨_,rfl,by rw [<- O.out];exact D.out,H.out⟩
   ·have ab:(n:Int)<=0:=by omega
    go_wp2;go_ret;exact ⟨_,rfl,by rw [<- O.out];exact D.out,H.out⟩
 have ad:0 < (m:Int):=by omega
 have af:((m:Int)==0)=false:=by simpa using h0
 have O:Hid (k_j l n n=L):=by show _=_;rw [<- HL.out,o_M _ _ (by rw [M.out.1];omega)]
 go_loopg [6] n (fun gg i wr=>∃ (k:Nat),k<=n/\gg=n - k/\i = .int .i64 (k:Int)/\Hid (OwnK .i64 23 wr w.heap.size (.slice (some ⟨w.heap.size,0,none⟩) n n) (k_j l n k))/\Hid (Below w.heap.size w wr))
 case atStart=>exact ⟨0,by omega,by omega,by first|rfl|simp,D,H⟩
 case round=>
  obtain ⟨k,hk,hg,rfl,HR,U⟩:=hrel;by_cases aa:k < n
  ·have ah:(k:Int) < (n:Int):=by omega
   have hj:=Nat.mod_lt k (Nat.pos_of_ne_zero h0);obtain ⟨j,J⟩:∃ j,k % m=j:=⟨_,rfl⟩
   rw [J] at hj
   have ae:(k:Int).tmod (m:Int)=(j:Int):=by
    rw [<- Int.ofNat_tmod,J]
   have ai:(j:Int) < (m:Int):=by omega
   obtain ⟨q,o,rfl,I⟩:=M.out.2 j hj;have R:=a_d I U.out;obtain ⟨ac,ag⟩:=HR.out.cell (by rw [d_C]) k aa;obtain ⟨x,ex⟩:∃ x,l.getD j 0=x:=⟨_,rfl⟩
   rw [ex] at R
   have H2:Hid (OwnK .i64 23 (wr.setCell ⟨w.heap.size,k,none⟩ (.int .i64 x)) w.heap.size (.slice (some ⟨w.heap.size,0,none⟩) n n) (k_j l n (k+1))):=by
    have:=HR.out.store (by rw [d_C]) k x;show OwnK _ _ _ _ _ _;rw [k_j,M.out.1,J,ex];exact this
   have V:Hid (Below w.heap.size w (wr.setCell ⟨w.heap.size,k,none⟩ (.int .i64 x))):=U.out.setCell (p:=⟨w.heap.size,k,none⟩) (Nat.le_refl _) _;clear J ex I;go_wp2;go_roundg (n - (k+1))
   case measure=>omega
   case rel=>exact ⟨k+1,by omega,rfl,by first|rfl|simp,H2,V⟩
  ·obtain rfl:k=n:=by omega
   go_wp2;go_ret;exact ⟨_,rfl,by rw [<- O.out];exact HR.out,U.out⟩
theorem i_5 (p p2:Option Addr) (n c H c2:Nat) (a b:List Int) (hn:n<=1073741824) (w:World) (h1:Nums .i64 w (.slice p n c) a) (R:Nums .i64 w (.slice p2 H c2) b):
  Calls Tryz.prog 19 #[.slice p n c,.slice p2 H c2] w fun e w'=>e = .returned (.bool (decide (a=b)))/\Below w.heap.size w w':=by
 haveI:Nonempty World:=⟨w⟩
 obtain ⟨r,D⟩:∃ r:Bool,decide (a=b)=r:=⟨_,rfl⟩
 have HR:Hid (decide (a=b)=r):=D;obtain ⟨_,_,_,e1,V⟩:=h1.lst;cases e1;obtain ⟨_,_,_,e2,HC⟩:=R.lst;cases e2;rw [D];clear D h1 R;go_enter Tryz.func19,Tryz.ntmps19;by_cases M:n=H
 case neg=>
  have D:r=false:=by rw [<- HR.out,decide_eq_false fun h=>M (by rw [<- V.out.1,<- HC.out.1,h])]
  subst D;have ab:((n:Int) != (H:Int))=true:=by simpa using (show (n:Int)≠(H:Int) by omega)
  have ad:¬ ((n:Int)=(H:Int)):=by omega
  go_wp2;go_ret;exact ⟨rfl,Below.refl _ _⟩
 subst M;go_wp2_with fail
 go_loopg [5] n (fun gg v wr=>∃ (k:Nat),k<=n/\gg=n - k/\v = .int .i64 (k:Int)/\Hid (∀ i,i < k->a.getD i 0=b.getD i 0)/\Hid (Below w.heap.size w wr))
 case atStart=>exact ⟨0,by omega,by omega,rfl,fun i U=>by omega,Below.refl _ _⟩
 case round=>
  obtain ⟨k,hk,hg,rfl,Hx,O⟩:=hrel;by_cases J:k < n
  ·have aa:(k:Int) < (n:Int):=by omega
   obtain ⟨qa,oa,rfl,a1⟩:=V.out.2 k J;obtain ⟨qb,ob,rfl,b1⟩:=HC.out.2 k J;have a0:=a_d a1 O.out;have b0:=a_d b1 O.out;obtain ⟨u,L⟩:∃ u,a.getD k 0=u:=⟨_,rfl⟩
   obtain ⟨v,I⟩:∃ v,b.getD k 0=v:=⟨_,rfl⟩
   rw [L] at a0;rw [I] at b0;clear a1 b1;by_cases he:u=v
   ·subst he
    have HN:Hid (∀ i,i < k+1->a.getD i 0=b.getD i 0):=fun i U=>by
     rcases Nat.lt_succ_iff_lt_or_eq.1 U with R|rfl
     ·exact Hx.out i R
     ·rw [L,I]
    clear L I;go_wp2;go_region;go_wp2;go_roundg (n - (k+1))
    case measure=>omega
    case rel=>exact ⟨k+1,by omega,rfl,by first|rfl|simp,HN,O.out.trans ⟨rfl,rfl,rfl,Nat.le_refl _,fun _ _=>rfl⟩⟩
   ·have D:r=false:=by rw [<- HR.out,decide_eq_false fun h=>he (by rw [<- L,<- I,h])]
    subst D;have ac:(u != v)=true:=by simpa using he
    clear L I;go_wp2;go_region;go_wp2;go_ret;exact ⟨rfl,O.out.trans ⟨rfl,rfl,rfl,Nat.le_refl _,fun _ _=>rfl⟩⟩
  ·obtain rfl:k=n:=by omega
   have D:r=true:=by
    rw [<- HR.out,decide_eq_true (e_o (by rw [V.out.1,HC.out.1]) fun i U=>Hx.out i (by rw [<- V.out.1];exact U))]
   subst D;go_wp2;go_ret;exact ⟨rfl,O.out⟩
theorem p_t {d:List Int} {ls:List Ly} (h:nE d ls=0):0<=nP d ls:=by
 obtain ⟨S,hf,D,H⟩:=e_Z h;have:=i_Y (NetOk.of hf D) 0 (Nat.zero_le _);rw [(k_N hf D H).2.2];exact this
/-- How many parameters a tame net has; is it tame? -/
def tmN (n n2:Nat) (d:List Int) (ls:List Ly):Int:=if 4 < n∨6 < n2 then 0 else nP d ls
abbrev tmP (n n2:Nat) (d:List Int) (ls:List Ly):Prop:=n<=4/\n2<=6/\nE d ls=0/\nP d ls<=80
theorem o_N (p p2:Option Addr) (n c I c2:Nat) (d:List Int) (ls:List Ly) (w:World) (L:Nums .i64 w (.slice p n c) d) (h2:LyR 0 w p2 I ls):
  Calls Tryz.prog 12 #[.agg #[.slice p n c,.slice p2 I c2]] w fun e w'=>e = .returned (.tuple #[.int .i64 (tmN n I d ls),.bool (decide (tmP n I d ls))])/\Below w.heap.size w w':=by
 haveI:Nonempty World:=⟨w⟩
 obtain ⟨T,eT⟩:∃ T,tmN n I d ls=T:=⟨_,rfl⟩
 obtain ⟨r,er⟩:∃ r:Bool,decide (tmP n I d ls)=r:=⟨_,rfl⟩
 have HR:Hid (tmN n I d ls=T/\decide (tmP n I d ls)=r):=⟨eT,er⟩
 have HN:Hid (Nums .i64 w (.slice p n c) d/\LyR 0 w p2 I ls):=⟨L,h2⟩
 rw [eT,er];clear eT er L h2;go_enter Tryz.func12,Tryz.ntmps12;by_cases hn:4 < n
 ·have ac:(4:Int) < (n:Int):=by omega
  obtain ⟨e1,J⟩:T=0/\r=false:=⟨by rw [<- HR.out.1];exact if_pos (.inl hn),by rw [<- HR.out.2,decide_eq_false fun h=>by have:=h.1;omega]⟩
  subst e1 J;go_wp2;exact bodyPost_ret (v:=.tuple #[.int .i64 0,.bool false]) (by simp [results,Tryz.results12,go_sem]) rfl ⟨rfl,by go_grown⟩
 have ac:(n:Int)<=4:=by omega
 by_cases hm:6 < I
 ·have ae:(6:Int) < (I:Int):=by omega
  obtain ⟨e1,J⟩:T=0/\r=false:=⟨by rw [<- HR.out.1];exact if_pos (.inr hm),by rw [<- HR.out.2,decide_eq_false fun h=>by have:=h.2.1;omega]⟩
  subst e1 J;go_wp2;exact bodyPost_ret (v:=.tuple #[.int .i64 0,.bool false]) (by simp [results,Tryz.results12,go_sem]) rfl ⟨rfl,by go_grown⟩
 have ae:(I:Int)<=6:=by omega
 go_wp2_with fail
 generalize M:World.alloc _ _=W0;have U:Hid (Below w.heap.size w W0):=by rw [<- M];exact a_b w _
 obtain ⟨g0,g1⟩:W0.cell? ⟨w.heap.size,0,none⟩=some (.slice p n c)/\W0.cell? ⟨w.heap.size,1,none⟩=some (.slice p2 I c2):=by rw [<- M];simp [go_sem]
 have kg:=a_f g0;clear M;refine (q_Y p p2 n c I c2 ls (by omega) W0 (HN.out.2.up U.out)).mono ?_;rintro e w4 ⟨p3,c3,rfl,ab,hB⟩;obtain ⟨p4,c4,e4,R⟩:=ab.rd;rw [HN.out.2.1] at e4 R;cases e4;have aa:Hid (LyR 0 w4 p3 I ls):=R;have O:Hid (Below w.heap.size w w4):=a_c U.out hB;clear hB U ab R g0 g1 kg;go_wp2_with fail
 refine (i_3 p p3 n c I c3 d ls (by omega) w4 (HN.out.1.up O.out) aa.out).mono ?_;rintro e w5 ⟨⟨v5,rfl,ad⟩,hB⟩;have V:Hid (Below w.heap.size w w5):=a_c O.out hB;obtain ⟨E,eE⟩:∃ E,nE d ls=E:=⟨_,rfl⟩
 obtain ⟨P,eP⟩:∃ P,nP d ls=P:=⟨_,rfl⟩
 have e1:T=P:=by rw [<- HR.out.1,<- eP];exact if_neg (by omega)
 have J:r=decide (E=0/\P<=80):=by
  rw [<- HR.out.2,<- eE,<- eP];by_cases h:nE d ls=0/\nP d ls<=80
  ·rw [decide_eq_true h,decide_eq_true ⟨by omega,by omega,h.1,h.2⟩]
  ·rw [decide_eq_false h,decide_eq_false fun h'=>h ⟨h'.2.2.1,h'.2.2.2⟩]
 rw [eE,eP];subst e1;clear hB O aa ad eE eP HR;by_cases h0:E=0
 ·subst h0;by_cases L:T<=80
  ·have e3:r=true:=by rw [J,decide_eq_true ⟨rfl,L⟩]
   clear J;subst e3;go_wp2;exact bodyPost_ret (v:=.tuple #[.int .i64 T,.bool true]) (by simp [results,Tryz.results12,go_sem,L]) rfl ⟨rfl,V.out⟩
  ·have e3:r=false:=by rw [J,decide_eq_false fun h=>L h.2]
   clear J;subst e3;go_wp2;exact bodyPost_ret (v:=.tuple #[.int .i64 T,.bool false]) (by simp [results,Tryz.results12,go_sem,L]) rfl ⟨rfl,V.out⟩
 ·have e3:r=false:=by rw [J,decide_eq_false fun h=>h0 h.1]
  clear J;subst e3;have af:(E==0)=false:=by simpa using h0
  go_wp2;exact bodyPost_ret (v:=.tuple #[.int .i64 T,.bool false]) (by simp [results,Tryz.results12,go_sem,h0]) rfl ⟨rfl,V.out⟩
/-- A row of n Wides from the start of block g on, which may be written. -/
def WRow (W:World) (g n:Nat) (l:List Int):Prop:=l.length=n/\(∀ y,y∈l->InW y)/\∀ i,i < n->LieA W g (i*2) (l.getD i 0)
theorem WRow.up {W W':World} {g n:Nat} {l:List Int} (h:WRow W g n l) (D:Below W.heap.size W W'):WRow W' g n l:=⟨h.1,h.2.1,fun i H=>(h.2.2 i H).up D⟩
theorem WRow.rd {W:World} {g n:Nat} {l:List Int} (h:WRow W g n l):WdR W (some ⟨g,0,none⟩) n l:=⟨h.1,h.2.1,fun i D=>⟨g,0,rfl,by
 have a:=h.2.2 i D;rw [Nat.zero_add];exact ⟨a.2.1,a.2.2.1⟩⟩⟩
theorem WRow.set {W:World} {g n k:Nat} {l:List Int} {y yh yl:Int} (h:WRow W g n l) (H:k < n) (O:InW y) (L:yh=y / 18446744073709551616) (M:yl=y % 18446744073709551616):WRow ((W.setCell ⟨g,k*2,none⟩ (.int .i64 yh)).setCell ⟨g,k*2+1,none⟩ (.int .u64 yl)) g n (l.set k y):=by
 refine ⟨by rw [List.length_set,h.1],fun z J=>?_,fun i I=>?_⟩
 ·rcases List.mem_or_eq_of_mem_set J with D|D
  ·exact h.2.1 z D
  ·rw [D];exact O
 ·by_cases e:k=i
  ·subst e;rw [List.getD_eq_getElem?_getD,List.getElem?_set_self (by rw [h.1];exact H)];exact (h.2.2 k H).set L M
  ·rw [List.getD_eq_getElem?_getD,List.getElem?_set_ne e,<- List.getD_eq_getElem?_getD];exact (h.2.2 i I).off (by omega)
/-- Wides that were just made: all 0. -/
theorem g_t {W:World} {B g n:Nat} {e:TypeId} (h:W.ownsRow B e 2 (.slice (some ⟨g,0,none⟩) n n) n (madeCells (Value.agg #[.int .i64 0,.int .u64 0]).cells (n*2)).toList):WRow W g n (List.replicate n 0):=by
 refine ⟨by simp,fun y hy=>?_,fun i hi=>?_⟩
 ·rw [(List.mem_replicate.1 hy).2];unfold InW;omega
 have hf:∀ j,W.frozen? ⟨g,j,none⟩=false:=by
  intro j;rcases h.2 with ⟨D,_⟩|⟨q,aa,M,D,h2,h3,_⟩
  ·cases D
  ·cases D;unfold World.frozen?;simp [h3]
 have R:∀ r,r < 2->(madeCells (Value.agg #[.int .i64 0,.int .u64 0]).cells (n*2)).toList[i*2+r]?=(#[Value.int .i64 0,.int .u64 0]:Array Value)[r]?:=by
  intro r H;have U:(Value.agg #[.int .i64 0,.int .u64 0]).cells=#[Value.int .i64 0,.int .u64 0]:=rfl;unfold madeCells;rw [U,Array.getElem?_toList,Array.getElem?_map,Array.getElem?_range];rw [if_pos (by omega)];have I:(i*2+r) % 2=r:=by omega
  simp only [Option.map_some]
  match r,H with
  | 0,_=>rw [show (#[Value.int .i64 0,.int .u64 0]:Array Value).size=2 from rfl,I];rfl
  | 1,_=>rw [show (#[Value.int .i64 0,.int .u64 0]:Array Value).size=2 from rfl,I];rfl
 have J:∀ r u,r < 2->(#[Value.int .i64 0,.int .u64 0]:Array Value)[r]?=some u->W.cell? ⟨g,i*2+r,none⟩=some u:=by
  intro r u H V;have:=World.ownsRow.cells h rfl (i*2+r) u (by rw [R r H];exact V);rw [a_u,Nat.zero_add] at this;exact this
 have L:=J 0 _ (by omega) rfl;have O:=J 1 _ (by omega) rfl
 have e:(List.replicate n (0:Int)).getD i 0=0:=by
  rw [List.getD_eq_getElem?_getD,List.getElem?_replicate]
  split <;> rfl
 rw [e];exact ⟨b_y L,L,O,hf _,hf _⟩
/-- A sum in the making: its first k numbers have had a row's added. -/
def adK (s x:List Int):Nat->List Int
 | 0=>s
 | k+1=>(adK s x k).set k (wr ((adK s x k).getD k 0+x.getD k 0))
theorem h_g (s x:List Int):∀ k,(adK s x k).length=s.length
 | 0=>rfl
 | k+1=>by rw [adK,List.length_set,h_g s x k]
theorem n_a (s x:List Int):∀ k j,j < s.length->(adK s x k).getD j 0=if j < k then wr (s.getD j 0+x.getD j 0) else s.getD j 0
 | 0,j,hj=>by rw [adK,if_neg (by omega)]
 | k+1,j,hj=>by
  rw [adK];by_cases e:k=j
  ·subst e;rw [List.getD_eq_getElem?_getD,List.getElem?_set_self (by rw [h_g];exact hj),if_pos (by omega),n_a s x k k hj,if_neg (by omega)];rfl
  ·rw [List.getD_eq_getElem?_getD,List.getElem?_set_ne e,<- List.getD_eq_getElem?_getD,n_a s x k j hj];by_cases h:j < k
   ·rw [if_pos h,if_pos (by omega)]
   ·rw [if_neg h,if_neg (by omega)]
theorem q_0 (s x:List Int):adK s x s.length=i_a s x:=by
 refine e_o (by rw [h_g,o_E]) fun i D=>?_;rw [h_g] at D;rw [n_a s x _ i D,if_pos D];unfold i_a;rw [List.getD_eq_getElem?_getD (l:=(List.range s.length).map _),List.getElem?_map,List.getElem?_range D];rfl
theorem s_s:(Tryz.prog.info? 45).map (fun i=>(i.zero,i.size,i.bytes))=some (some (.agg #[.int .i64 0,.int .u64 0]),2,16):=by kernel_rfl
theorem i_c:∃ i,Tryz.prog.info? 45=some i/\i.zero=some (.agg #[.int .i64 0,.int .u64 0])/\i.size=2/\i.bytes=16:=by
 have h:=s_s;cases D:Tryz.prog.info? 45 with
 | none=>rw [D] at h;cases h
 | some i=>
  rw [D] at h;simp only [Option.map_some,Option.some.injEq,Prod.mk.injEq] at h;exact ⟨i,rfl,h.1,h.2.1,h.2.2⟩
/-- The net of one number in and out. -/
abbrev liL:List Ly:=[(e_i,1,0)]
theorem t_q:nE [1] liL=0:=by decide +kernel
theorem t_r:nP [1] liL=2:=by decide +kernel
theorem t_s:gof [1] liL 1 [0,0] [8589934592] [4294967296] 0=(0,[-17179869184,-8589934592],4294967296):=by decide +kernel
theorem s_t {W:World} {g n k:Nat} {l:List Int} {y yh yl:Int} (h:WRow W g n l) (D:k < n) (H:InW y) (e:wd y = .agg #[.int .i64 yh,.int .u64 yl]):WRow ((W.setCell ⟨g,k*2,none⟩ (.int .i64 yh)).setCell ⟨g,k*2+1,none⟩ (.int .u64 yl)) g n (l.set k y):=by
 unfold wd at e;simp only [Value.agg.injEq,Array.mk.injEq,List.cons.injEq,Value.int.injEq,true_and,and_true] at e;exact h.set D H e.1.symm e.2.symm
theorem WRow.stay {W W':World} {g n b:Nat} {l:List Int} (h:WRow W g n l) (H:Stay b W W') (D:g≠b):WRow W' g n l:=⟨h.1,h.2.1,fun i I=>(h.2.2 i I).stay H D⟩
theorem g_u (g n:Nat) (s x:List Int) (hn:n<=1048576) (p:Option Addr) (c:Nat) (hx:RI x) (w:World) (hS:WRow w g n s) (hX:∀ W',Stay g w W'->Nums .i64 W' (.slice p n c) x):
  Calls Tryz.prog 30 #[.slice (some ⟨g,0,none⟩) n n,.slice p n c] w fun e M=>e = .returned (.tuple #[])/\WRow M g n (i_a s x)/\Stay g w M/\Below g w M:=by
 haveI:Nonempty World:=⟨w⟩
 have HK:Hid ((∀ W',Stay g w W'->Nums .i64 W' (.slice p n c) x)/\RI x/\s.length=n):=⟨hX,hx,hS.1⟩
 have H0:Hid (WRow w g n (adK s x 0)):=hS;clear hX hx hS;go_enter Tryz.func30,Tryz.ntmps30;go_wp2_with fail
 go_loopg [8] n (fun gg i wr=>∃ (k:Nat),k<=n/\gg=n - k/\i = .int .i64 (k:Int)/\Hid (WRow wr g n (adK s x k))/\Hid (Stay g w wr/\Below g w wr))
 case atStart=>exact ⟨0,by omega,by omega,by first|rfl|simp,H0,Stay.refl _ _,Below.refl _ _⟩
 case round=>
  obtain ⟨k,hk,hg,rfl,HR,HB⟩:=hrel;obtain ⟨L,aa⟩:∃ L:World,L=wr:=⟨_,rfl⟩
  subst aa;by_cases D:k < n
  ·have ab:(k:Int) < (n:Int):=by omega
   obtain ⟨_,_,_,e9,I⟩:=(HK.out.1 L HB.out.1).lst;cases e9;obtain ⟨q,o,rfl,hc⟩:=I.out.2 k D;obtain ⟨v,ev⟩:∃ v,x.getD k 0=v:=⟨_,rfl⟩
   obtain ⟨u,eu⟩:∃ u,(adK s x k).getD k 0=u:=⟨_,rfl⟩
   have rv:InR v:=HK.out.2.1 v (by rw [<- ev,List.getD_eq_getElem?_getD,List.getElem?_eq_getElem (by rw [I.out.1];exact D)];exact List.getElem_mem _);have wu:InW u:=HR.out.2.1 u (by rw [<- eu,List.getD_eq_getElem?_getD,List.getElem?_eq_getElem (by rw [HR.out.1];exact D)];exact List.getElem_mem _);rw [ev] at hc;obtain ⟨kg,l0,l1,l2,l3⟩:=HR.out.2.2 k D;rw [eu] at l0 l1;obtain ⟨u1,f1⟩:∃ x,u / 18446744073709551616=x:=⟨_,rfl⟩
   obtain ⟨u2,f2⟩:∃ x,u % 18446744073709551616=x:=⟨_,rfl⟩
   obtain ⟨v1,f3⟩:∃ x,v / 18446744073709551616=x:=⟨_,rfl⟩
   obtain ⟨v2,f4⟩:∃ x,v % 18446744073709551616=x:=⟨_,rfl⟩
   obtain ⟨R,es⟩:∃ s,Wd.wr (u+v)=s:=⟨_,rfl⟩
   obtain ⟨V,f5⟩:∃ x,R / 18446744073709551616=x:=⟨_,rfl⟩
   obtain ⟨U,f6⟩:∃ x,R % 18446744073709551616=x:=⟨_,rfl⟩
   have J:wd R = .agg #[.int .i64 V,.int .u64 U]:=by unfold wd;rw [f5,f6]
   have cO:Hid (∀ W,Below L.heap.size L W->Calls Tryz.prog 31 #[.int .i64 v] W fun e M=>e = .returned (.agg #[.int .i64 v1,.int .u64 v2])/\Below W.heap.size W M):=fun W _=>by
    have:=of_any v rv W;unfold wd at this;rw [f3,f4] at this;exact this
   have cA:Hid (∀ W,Below L.heap.size L W->Calls Tryz.prog 17 #[.agg #[.int .i64 u1,.int .u64 u2],.agg #[.int .i64 v1,.int .u64 v2]] W fun e M=>e = .returned (.agg #[.int .i64 V,.int .u64 U])/\Below W.heap.size W M):=fun W _=>by
    have:=Wd.add_any u v wu (InR.w rv) W;rw [es,J] at this;unfold wd at this;rw [f1,f2,f3,f4] at this;exact this
   have HS:Hid (adK s x (k+1)=(adK s x k).set k R/\InW R/\wd R = .agg #[.int .i64 V,.int .u64 U]):=⟨by rw [adK,eu,ev,es],by rw [<- es];exact d_7 _,J⟩
   rw [f1] at l0;rw [f2] at l1;have ka:=a_a hc;clear eu ev wu rv f1 f2 f3 f4 f5 f6 es J I;go_wp2_with fail
   refine rel [] 10 24 (by kernel_rfl) rfl rfl (by kernel_rfl) (by rfl) ?_ ?_
   ·intro e he;simp at he
   apply Exists.intro;refine ⟨fun x=>?_,?_,?_⟩
   ·simp only [List.take_succ_cons,List.take_zero]
    iterate 7
     refine a_n rfl rfl ?_;apply Exists.intro;refine ⟨fun F hF hf K hK=>?_,?_⟩
     ·have hFc:=hF.cell;have hFf:=hF.frozen
      go_big_quiet_op
      first|exact hK|(apply Exists.intro;refine ⟨fun _=>?_,?_⟩;(· fail);exact hK)
     (try simp only [Act.put,sA_,sB_,sC_])
    refine a_n rfl rfl ?_;apply Exists.intro;refine ⟨fun F hF hf K hK=>?_,?_⟩
    ·have hFc:=hF.cell;have hFf:=hF.frozen
     go_big_quiet_op
     first|exact hK|(apply Exists.intro;refine ⟨fun _=>?_,?_⟩;(· exact hF.call (cO.out _ (hF.below _)));exact hK)
    (try simp only [Act.put,sA_,sB_,sC_])
    refine a_n rfl rfl ?_;apply Exists.intro;refine ⟨fun F hF hf K hK=>?_,?_⟩
    ·have hFc:=hF.cell;have hFf:=hF.frozen
     go_big_quiet_op
     first|exact hK|(apply Exists.intro;refine ⟨fun _=>?_,?_⟩;(· exact hF.call (cA.out _ (hF.below _)));exact hK)
    (try simp only [Act.put,sA_,sB_,sC_])
    refine a_n rfl rfl ?_;apply Exists.intro;refine ⟨fun F hF hf K hK=>?_,?_⟩
    ·have hFc:=hF.cell;have hFf:=hF.frozen
     go_big_quiet_op
     first|exact hK|(apply Exists.intro;refine ⟨fun _=>?_,?_⟩;(· fail);exact hK)
    (try simp only [Act.put,sA_,sB_,sC_])
    refine b_f ?_;exact rfl
   ·intro x;simp only [b_n,List.foldl_nil]
   ·intro O xs H hf;simp only [List.drop_succ_cons,List.drop_zero];have H9:Hid (WRow O g n (adK s x k)/\Stay g w O/\Below g w O):=⟨HR.out.up H,HB.out.1.up H,HB.out.2.trans (H.mono (Nat.le_of_lt kg))⟩
    clear l0 l1 l2 l3 kg;obtain ⟨kg,l0,l1,l2,l3⟩:=H9.out.1.2.2 k D;have HN:Hid (WRow ((O.setCell ⟨g,k*2,none⟩ (.int .i64 V)).setCell ⟨g,k*2+1,none⟩ (.int .u64 U)) g n (adK s x (k+1))/\Stay g w ((O.setCell ⟨g,k*2,none⟩ (.int .i64 V)).setCell ⟨g,k*2+1,none⟩ (.int .u64 U))/\Below g w ((O.setCell ⟨g,k*2,none⟩ (.int .i64 V)).setCell ⟨g,k*2+1,none⟩ (.int .u64 U))):=⟨by rw [HS.out.1];exact s_t H9.out.1 D HS.out.2.1 HS.out.2.2,(H9.out.2.1.set _ _).set _ _,(H9.out.2.2.setCell (p:=⟨g,k*2,none⟩) (Nat.le_refl _) _).setCell (p:=⟨g,k*2+1,none⟩) (Nat.le_refl _) _⟩
    clear hf H hc ka H9;go_wp2;go_roundg (n - (k+1))
    case measure=>omega
    case rel=>exact ⟨k+1,by omega,rfl,by first|rfl|simp,HN.out.1,HN.out.2⟩
  ·obtain rfl:k=n:=by omega
   go_wp2
   go_end0
   exact ⟨rfl,by
    have:=HR.out;have e:=q_0 s x;rw [HK.out.2.2] at e;rw [e] at this;exact this,HB.out⟩
/-- A row of Wides that was handed back. -/
def WRd (W:World) (v:Value) (l:List Int):Prop:=∃ p n c,v = .slice p n c/\WdR W p n l
theorem WdR.nil (W:World) (p:Option Addr):WdR W p 0 []:=⟨rfl,fun y D=>by simp at D,fun i H=>by omega⟩
theorem WRow.wrd {W:World} {g n:Nat} {l:List Int} (h:WRow W g n l):WRd W (.slice (some ⟨g,0,none⟩) n n) l:=⟨_,_,_,rfl,h.rd⟩
/-- What Sum tells. -/
def n_l (d:List Int) (ls:List Ly) (k:Int) (P:List Int) (l:List Exm):Int×List Int×Int:=i_h (g_s d ls k P) (nP d ls).toNat l
/-- The Ops of a plan are known. -/
def PlC (d:List Int) (ls:List Ly) (P:List Int):Prop:=nE d ls=0->∀ X st,st∈(plF d ls (nS d ls) P X ls.length).1->st.op≠1->RkC st.op/\GvC st.op
def OfC (d:List Int) (ls:List Ly) (P:List Int):Prop:=∀ (k:Int) (X y:List Int) (cl:Int) (p p2 pp px py:Option Addr) (n c n2 c2 np cp nx cx ny cy:Nat) (hbig:n2<=1048576) (hPb:np<=1048576) (w:World) (hT:Hid (Tz w)) (hK:Hid (Kz w)) (hIn:Nums .i64 w (.slice p n c) d) (hLy:LyR 0 w p2 n2 ls) (hp:RowI w pp np cp P) (hx:RowI w px nx cx X) (hy:RowI w py ny cy y),
  Calls Tryz.prog 9 #[.agg #[.slice p n c,.slice p2 n2 c2],.int .i64 k,.slice pp np cp,.agg #[.slice px nx cx,.slice py ny cy,.int .i64 cl]] w fun e w'=>∃ v,e = .returned (.tuple #[v,.int .i64 (gof d ls k P X y cl).2.2,.int .i64 (gof d ls k P X y cl).1])/\OwnK .i64 23 w' w.heap.size v (gof d ls k P X y cl).2.1/\Below w.heap.size w w'
def r_b (d:List Int) (ls:List Ly) (P:List Int):Prop:=nE d ls=0->∀ (k:Int) (l:List Exm) (p p2 pp pl:Option Addr) (n c n2 c2 np cp nl cl:Nat) (hbig:n2<=1048576) (hPb:np<=1048576) (hl:nl<=1048576) (hnP:nP d ls<=1048576) (w:World) (hT:Hid (Tz w)) (hK:Hid (Kz w)) (hIn:Nums .i64 w (.slice p n c) d) (hLy:LyR 0 w p2 n2 ls) (hp:RowI w pp np cp P) (he:ExR w pl nl l),
  Calls Tryz.prog 15 #[.agg #[.slice p n c,.slice p2 n2 c2],.int .i64 k,.slice pp np cp,.slice pl nl cl] w fun e w'=>∃ v,e = .returned (.tuple #[v,wd (n_l d ls k P l).2.2,.int .i64 (n_l d ls k P l).1])/\WRd w' v (n_l d ls k P l).2.1/\Below w.heap.size w w'
theorem k_k (w:World):Calls Tryz.prog 10 #[] w fun e D=>∃ q r,e = .returned (.agg #[.slice (some ⟨q,0,none⟩) 1 1,.slice (some ⟨r,0,none⟩) 1 1])/\Nums .i64 D (.slice (some ⟨q,0,none⟩) 1 1) [1]/\LyR 0 D (some ⟨r,0,none⟩) 1 liL/\Below w.heap.size w D:=by
 go_enter Tryz.func10,Tryz.ntmps10;go_wp2;refine bodyPost_ret (v:=.agg #[.slice (some ⟨w.heap.size+1,0,none⟩) 1 1,.slice (some ⟨w.heap.size+1+1,0,none⟩) 1 1]) (by simp [results,Tryz.results10,go_sem]) rfl ⟨_,_,rfl,?_,?_,g_a (g_a (a_b w _) _) _⟩
 ·exact (f_e (k:=.i64) w _ [1] 1 (0,0) rfl).up (a_b _ _)
 ·refine ⟨rfl,fun i H=>⟨w.heap.size+1+1,0,rfl,?_⟩⟩;obtain rfl:i=0:=by omega
  simp [go_sem,lyA,e_i]
theorem s_u:n_l [1] liL 1 [0,0] []=(0,[0,0],0):=by decide +kernel
theorem i_6:wd 0 = .agg #[.int .i64 0,.int .u64 0]:=(k_w (by decide) (by decide)).symm
theorem o_O {W K:World} {e:TypeId} {g n:Nat} {l:List Int} (hK:W.alloc (.cells (b_c .i64 l).toArray e)=K) (D:W.heap.size=g) (I:l.length=n) (H:RI l) (J:n<=1000):RowI K (some ⟨g,0,none⟩) n n l:=⟨by rw [<- hK,<- D];exact a_3 (k:=.i64) W l n (0,0) I,H,Nat.le_refl _⟩
theorem i_7 (hS:r_b [1] liL [0,0]) (hO:OfC [1] liL [0,0]) (w:World) (hT:Hid (Tz w)) (hK:Hid (Kz w)):Calls Tryz.prog 8 #[] w fun e w'=>e = .returned (.bool true)/\Below w.heap.size w w':=by
 haveI:Nonempty World:=⟨w⟩
 have CS:Hid (r_b [1] liL [0,0]):=hS;have CO:Hid (OfC [1] liL [0,0]):=hO;clear hS hO;go_enter Tryz.func8,Tryz.ntmps8;go_wp2_with fail
 refine (k_k w).mono ?_;rintro e V ⟨q1,r1,rfl,n1,l1,H⟩;have H1:Hid (Nums .i64 V (.slice (some ⟨q1,0,none⟩) 1 1) [1]/\LyR 0 V (some ⟨r1,0,none⟩) 1 liL/\Below w.heap.size w V):=⟨n1,l1,H⟩
 clear n1 l1 H;obtain ⟨g1,ah⟩:∃ g,V.heap.size=g:=⟨_,rfl⟩
 go_wp2_with fail
 generalize aa:World.alloc _ _=K1;have H:Below V.heap.size V K1:=by rw [<- aa];exact a_b V _
 have J:Hid (RowI K1 (some ⟨g1,0,none⟩) 2 2 [0,0]/\Below w.heap.size w K1):=⟨o_O (l:=[0,0]) aa ah rfl (fun y M=>by simp at M;subst M;omega) (by omega),a_c H1.out.2.2 H⟩
 have L:=CS.out t_q 1 [] (some ⟨q1,0,none⟩) (some ⟨r1,0,none⟩) (some ⟨g1,0,none⟩) none 1 1 1 1 2 2 0 0 (by omega) (by omega) (by omega) (by rw [t_r];omega) K1 (Hid.up_tz hT J.out.2) (Hid.up_kz hK J.out.2) (H1.out.1.up H) (H1.out.2.1.up H) J.out.1 ⟨rfl,fun i hi=>by omega⟩;rw [s_u,i_6] at L
 (try rw [ah])
 clear aa H H1;refine L.mono ?_;rintro e w2 ⟨v2,rfl,⟨p2,n2,c2,rfl,af⟩,I⟩;obtain rfl:n2=2:=af.1.symm;have H2:Hid (WdR w2 p2 2 [0,0]/\Below w.heap.size w w2):=⟨af,a_c J.out.2 I⟩
 clear L af I J;go_wp2_with fail
 generalize ai:World.alloc _ _=K2;have I:Below w2.heap.size w2 K2:=by rw [<- ai];exact a_b w2 _
 have H3:Hid (WdR K2 p2 2 [0,0]/\Below w.heap.size w K2):=⟨H2.out.1.up I,a_c H2.out.2 I⟩
 clear ai I H2;refine (k_k K2).mono ?_;rintro e w3 ⟨q3,r3,rfl,n3,l3,ad⟩;have H4:Hid (WdR w3 p2 2 [0,0]/\Below w.heap.size w w3/\Nums .i64 w3 (.slice (some ⟨q3,0,none⟩) 1 1) [1]/\LyR 0 w3 (some ⟨r3,0,none⟩) 1 liL):=⟨H3.out.1.up ad,a_c H3.out.2 ad,n3,l3⟩
 clear n3 l3 ad H3;go_wp2_with fail
 generalize ag:World.alloc _ _=K3
 have D:Hid (RowI K3 (some ⟨w3.heap.size,0,none⟩) 2 2 [0,0]/\RowI K3 (some ⟨w3.heap.size+1,0,none⟩) 1 1 [8589934592]/\RowI K3 (some ⟨w3.heap.size+1+1,0,none⟩) 1 1 [4294967296]/\Below w3.heap.size w3 K3):=by
  rw [<- ag];refine ⟨⟨((a_3 (k:=.i64) w3 [0,0] 2 (0,0) rfl).up (a_b _ _)).up (a_b _ _),fun y M=>by simp at M;subst M;omega,by omega⟩,⟨(f_e (k:=.i64) w3 _ [8589934592] 1 (0,0) rfl).up (a_b _ _),fun y M=>by simp at M;subst M;omega,by omega⟩,⟨?_,fun y M=>by simp at M;subst M;omega,by omega⟩,g_a (g_a (a_b w3 _) _) _⟩;have:=f_e (k:=.i64) (e:=23) (w3.alloc (.cells #[.int .i64 0,.int .i64 0] 23)) (.cells #[.int .i64 8589934592] 23) [4294967296] 1 (0,0) rfl;rw [show (w3.alloc (.cells #[.int .i64 0,.int .i64 0] 23)).heap.size=w3.heap.size+1 by unfold World.alloc;simp] at this;exact this
 have L:=CO.out 1 [8589934592] [4294967296] 0 (some ⟨q3,0,none⟩) (some ⟨r3,0,none⟩) (some ⟨w3.heap.size,0,none⟩) (some ⟨w3.heap.size+1,0,none⟩) (some ⟨w3.heap.size+1+1,0,none⟩) 1 1 1 1 2 2 1 1 1 1 (by omega) (by omega) K3 (Hid.up_tz hT (a_c H4.out.2.1 D.out.2.2.2)) (Hid.up_kz hK (a_c H4.out.2.1 D.out.2.2.2)) (H4.out.2.2.1.up D.out.2.2.2) (H4.out.2.2.2.up D.out.2.2.2) D.out.1 D.out.2.1 D.out.2.2.1;rw [t_s] at L;have H5:Hid (WdR K3 p2 2 [0,0]/\Below w.heap.size w K3):=⟨H4.out.1.up D.out.2.2.2,a_c H4.out.2.1 D.out.2.2.2⟩
 clear ag D H4;refine L.mono ?_;rintro e O ⟨v4,rfl,R,ab⟩;obtain ⟨p4,n4,c4,rfl⟩:=R.form_;have H6:Hid (Below w.heap.size w O/\Nums .i64 O (.slice p4 n4 c4) [-17179869184,-8589934592]):=⟨a_c H5.out.2 ab,R.nums⟩
 have ak:n4=2:=by
  obtain ⟨_,_,_,e,h⟩:=R.nums.lst;cases e;exact h.out.1.symm
 subst ak;obtain ⟨qw,ow,ew,y0,y1⟩:=(H5.out.1.up ab).2.2 0 (by omega);subst ew;have z0:O.cell? ⟨qw,ow,none⟩=some (.int .i64 0):=by simpa using y0
 have z1:O.cell? ⟨qw,ow+1,none⟩=some (.int .u64 0):=by simpa using y1
 have kz:=a_a z0;have hq:=fun W=>i_4 0 0 0 0 W;simp only [decide_true] at hq;clear L R ab H5 y0 y1;go_wp2_with fail
 generalize ac:World.alloc _ _=K5;have ae:Below O.heap.size O K5:=by rw [<- ac];exact a_b O _
 have U:Hid (Nums .i64 K5 (.slice (some ⟨O.heap.size,0,none⟩) 2 2) [-17179869184,-8589934592]/\Nums .i64 K5 (.slice p4 2 c4) [-17179869184,-8589934592]/\Below w.heap.size w K5):=⟨by rw [<- ac];exact a_3 (k:=.i64) O [-17179869184,-8589934592] 2 (0,0) rfl,H6.out.2.up ae,a_c H6.out.1 ae⟩
 clear ac ae H6 z0 z1;have L:=i_5 p4 (some ⟨O.heap.size,0,none⟩) 2 c4 2 2 _ _ (by omega) K5 U.out.2.1 U.out.1;rw [decide_eq_true rfl] at L;refine L.mono ?_;rintro e w6 ⟨rfl,aj⟩;have H7:Hid (Below w.heap.size w w6):=a_c U.out.2.2 aj;clear L aj U;go_wp2;go_ret;exact ⟨rfl,H7.out⟩
def SumD (d:List Int) (ls:List Ly) (P:List Int):Prop:=nE d ls=0->∀ (k:Int) (l:List Exm) (p p2 pp pl:Option Addr) (n c n2 c2 np cp nl cl:Nat) (hbig:n2<=1048576) (hPb:np<=1048576) (hl:nl<=1048576) (hnP:nP d ls<=1048576) (w:World) (hT:Hid (Tz w)) (hK:Hid (Kz w)) (hIn:Nums .i64 w (.slice p n c) d) (hLy:LyR 0 w p2 n2 ls) (hp:RowI w pp np cp P) (he:ExR w pl nl l),
  Calls Tryz.prog 15 #[.agg #[.slice p n c,.slice p2 n2 c2],.int .i64 k,.slice pp np cp,.slice pl nl cl] w fun e w'=>∃ v,e = .returned (.tuple #[v,wd (n_l d ls k P l).2.2,.int .i64 (n_l d ls k P l).1])/\WRd w' v (n_l d ls k P l).2.1/\Below w.heap.size w w'/\∀ ad m c',v = .slice (some ad) m c'->w.heap.size<=ad.block/\ad.block < w'.heap.size
theorem SumD.c {d:List Int} {ls:List Ly} {P:List Int} (h:SumD d ls P):r_b d ls P:=fun V k l p p2 pp M n c n2 O np cp R cl D I hl H w hT hK J L U he=>(h V k l p p2 pp M n c n2 O np cp R cl D I hl H w hT hK J L U he).mono fun e w' ⟨v,a,b,c,_⟩=>⟨v,a,b,c⟩
end Go.Proofs.YtjlofobnmjompaaGreatDoor.Wd
