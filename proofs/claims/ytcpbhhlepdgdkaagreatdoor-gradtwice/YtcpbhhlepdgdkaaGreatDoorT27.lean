/- The laws' own helpers of stage 14: is an -/
import Derived.Test.YtcpbhhlepdgdkaaGreatDoorT26
import Derived.Laws.StructEq
set_option linter.unusedVariables false
set_option linter.unusedSimpArgs false
set_option maxHeartbeats 16000000
set_option maxRecDepth 16000
namespace Go.Proofs.YtcpbhhlepdgdkaaGreatDoor.Wd
open Go.RowKit Fx
theorem n_j (p U:Option Addr) (n c E O:Nat) (cl:Int) (w:World):
  Calls Tryz.prog 6 #[.agg #[.slice p n c,.slice U E O,.int .i64 cl]] w fun e R=>e = .returned (.bool (decide (n<=60/\E<=60)))/\Below w.heap.size w R:=by
 obtain ⟨r,D⟩:∃ r:Bool,decide (n<=60/\E<=60)=r:=⟨_,rfl⟩
 have H:Hid (decide (n<=60/\E<=60)=r):=D;rw [D];clear D;go_enter Tryz.func6,Tryz.ntmps6;by_cases M:n<=60
 ·have I:(n:Int)<=60:=by omega
  by_cases L:E<=60
  ·have J:(E:Int)<=60:=by omega
   have D:r=true:=by rw [<- H.out,decide_eq_true ⟨M,L⟩]
   subst D;go_wp2;go_ret;exact ⟨rfl,by go_grown⟩
  ·have J:60 < (E:Int):=by omega
   have D:r=false:=by rw [<- H.out,decide_eq_false fun h=>L h.2]
   subst D;go_wp2;go_ret;exact ⟨by simp [show ¬ ((E:Int)<=60) by omega],by go_grown⟩
 ·have I:60 < (n:Int):=by omega
  have D:r=false:=by rw [<- H.out,decide_eq_false fun h=>M h.1]
  subst D;go_wp2;go_ret;exact ⟨rfl,by go_grown⟩
theorem j_g (a b c d:Int) (W:World):Sem.run Tryz.prog (Op.equalIn 10000 38 (.agg #[.int .i64 a,.int .u64 b]) (.agg #[.int .i64 c,.int .u64 d])) W = .ok (decide ((a,b)=(c,d))) W:=by
 rw [show (10000:Nat)=9999+1 from rfl,run_equalIn_struct _ _ _ _ _ (by kernel_rfl) (by kernel_rfl)]
 go_simp
 by_cases E:a=c <;> by_cases D:b=d <;> simp [E,D]
theorem o_0 {x y:Int} (h:(x / 18446744073709551616,x % 18446744073709551616)=(y / 18446744073709551616,y % 18446744073709551616)):x=y:=by
 simp only [Prod.mk.injEq] at h;omega
theorem n_k (p p2:Option Addr) (n c E c2:Nat) (a b:List Int) (hn:n<=1073741824) (w:World) (h1:WdR w p n a) (R:WdR w p2 E b):
  Calls Tryz.prog 10 #[.slice p n c,.slice p2 E c2] w fun e w'=>e = .returned (.bool (decide (a=b)))/\Below w.heap.size w w':=by
 haveI:Nonempty World:=⟨w⟩
 obtain ⟨r,D⟩:∃ r:Bool,decide (a=b)=r:=⟨_,rfl⟩
 have V:Hid (decide (a=b)=r):=D;have H:Hid (WdR w p n a/\WdR w p2 E b):=⟨h1,R⟩
 rw [D];clear D h1 R;go_enter Tryz.func10,Tryz.ntmps10;by_cases I:n=E
 case neg=>
  have D:r=false:=by rw [<- V.out,decide_eq_false fun h=>I (by rw [<- H.out.1.1,<- H.out.2.1,h])]
  subst D;have ac:((n:Int) != (E:Int))=true:=by simpa using (show (n:Int)≠(E:Int) by omega)
  have aa:¬ ((n:Int)=(E:Int)):=by omega
  go_wp2;go_ret;exact ⟨rfl,Below.refl _ _⟩
 subst I;go_wp2_with fail
 go_loopg [5] n (fun gg v wr=>∃ (k:Nat),k<=n/\gg=n - k/\v = .int .i64 (k:Int)/\Hid (∀ i,i < k->a.getD i 0=b.getD i 0)/\Hid (Below w.heap.size w wr))
 case atStart=>exact ⟨0,by omega,by omega,rfl,fun i U=>by omega,Below.refl _ _⟩
 case round=>
  obtain ⟨k,hk,hg,rfl,Hx,L⟩:=hrel;by_cases J:k < n
  ·have ab:(k:Int) < (n:Int):=by omega
   obtain ⟨qa,oa,rfl,a0,a1⟩:=(H.out.1.up L.out).2.2 k J;obtain ⟨qb,ob,rfl,b0,b1⟩:=(H.out.2.up L.out).2.2 k J;obtain ⟨u,O⟩:∃ u,a.getD k 0=u:=⟨_,rfl⟩
   obtain ⟨v,M⟩:∃ v,b.getD k 0=v:=⟨_,rfl⟩
   rw [O] at a0 a1;rw [M] at b0 b1;obtain ⟨u1,e1⟩:∃ x,u / 18446744073709551616=x:=⟨_,rfl⟩
   obtain ⟨u2,e2⟩:∃ x,u % 18446744073709551616=x:=⟨_,rfl⟩
   obtain ⟨v1,f1⟩:∃ x,v / 18446744073709551616=x:=⟨_,rfl⟩
   obtain ⟨v2,f2⟩:∃ x,v % 18446744073709551616=x:=⟨_,rfl⟩
   rw [e1] at a0;rw [e2] at a1;rw [f1] at b0;rw [f2] at b1
   have HU:Hid ((u1,u2)=(v1,v2)↔u=v):=by
    show _↔_;rw [<- e1,<- e2,<- f1,<- f2];exact ⟨o_0,fun h=>by rw [h]⟩
   clear e1 e2 f1 f2;have hq:=fun W=>j_g u1 u2 v1 v2 W;by_cases he:(u1,u2)=(v1,v2)
   ·simp only [decide_eq_true he] at hq
    have HN:Hid (∀ i,i < k+1->a.getD i 0=b.getD i 0):=fun i U=>by
     rcases Nat.lt_succ_iff_lt_or_eq.1 U with R|rfl
     ·exact Hx.out i R
     ·rw [O,M];exact HU.out.1 he
    clear he O M;go_wp2;go_region;go_wp2;go_roundg (n - (k+1))
    case measure=>omega
    case rel=>exact ⟨k+1,by omega,rfl,by first|rfl|simp,HN,L.out.trans ⟨rfl,rfl,rfl,Nat.le_refl _,fun _ _=>rfl⟩⟩
   ·simp only [decide_eq_false he] at hq;have D:r=false:=by rw [<- V.out,decide_eq_false fun h=>he (HU.out.2 (by rw [<- O,<- M,h]))]
    subst D;clear he O M;go_wp2;go_region;go_wp2;go_ret;exact ⟨rfl,L.out.trans ⟨rfl,rfl,rfl,Nat.le_refl _,fun _ _=>rfl⟩⟩
  ·obtain rfl:k=n:=by omega
   have D:r=true:=by
    rw [<- V.out,decide_eq_true (d_b (by rw [H.out.1.1,H.out.2.1]) fun i U=>Hx.out i (by rw [<- H.out.1.1];exact U))]
   subst D;go_wp2;go_ret;exact ⟨rfl,L.out⟩
/-- Numbers again and again. -/
def n_l (l:List Int) (n:Nat):List Int:=if l.length=0 then List.replicate n 0 else (List.range n).map fun i=>l.getD (i % l.length) 0
theorem o_1 (l:List Int) (n:Nat):(n_l l n).length=n:=by
 unfold n_l
 split <;> simp
theorem r_e {l:List Int} (h:RI l) (n:Nat):RI (n_l l n):=by
 unfold n_l
 split
 ·intro y D;rw [(List.mem_replicate.1 D).2];omega
 ·rename_i E
  intro y D;obtain ⟨i,_,rfl⟩:=List.mem_map.1 D;have:=Nat.mod_lt i (Nat.pos_of_ne_zero E);rw [List.getD_eq_getElem?_getD,List.getElem?_eq_getElem this];exact h _ (List.getElem_mem _)
def k_p (l:List Int) (n:Nat):Nat->List Int
 | 0=>List.replicate n 0
 | i+1=>(k_p l n i).set i (l.getD (i % l.length) 0)
theorem d_H (l:List Int) (n:Nat):∀ i,(k_p l n i).length=n
 | 0=>by simp [k_p]
 | i+1=>by rw [k_p,List.length_set,d_H l n i]
theorem n_m (l:List Int) (n:Nat):∀ i j,j < n->(k_p l n i).getD j 0=if j < i then l.getD (j % l.length) 0 else 0
 | 0,j,hj=>by
  rw [k_p,List.getD_eq_getElem?_getD,List.getElem?_replicate,if_pos hj];rfl
 | i+1,j,hj=>by
  rw [k_p];by_cases e:i=j
  ·subst e;rw [List.getD_eq_getElem?_getD,List.getElem?_set_self (by rw [d_H];exact hj),if_pos (by omega)];rfl
  ·rw [List.getD_eq_getElem?_getD,List.getElem?_set_ne e,<- List.getD_eq_getElem?_getD,n_m l n i j hj];by_cases h:j < i
   ·rw [if_pos h,if_pos (by omega)]
   ·rw [if_neg h,if_neg (by omega)]
theorem o_2 (l:List Int) (n:Nat) (h:0 < l.length):k_p l n n=n_l l n:=by
 unfold n_l;rw [if_neg (by omega)];refine d_b (by rw [d_H];simp) fun i D=>?_;rw [d_H] at D;rw [n_m l n n i D,if_pos D,List.getD_eq_getElem?_getD (l:=(List.range n).map _),List.getElem?_map,List.getElem?_range D];rfl
theorem k_6 (p:Option Addr) (m c:Nat) (l:List Int) (n:Nat) (hn:n<=1048576) (hm:m<=1073741824) (w:World) (h1:Nums .i64 w (.slice p m c) l):
  Calls Tryz.prog 7 #[.slice p m c,.int .i64 (n:Int)] w fun e w'=>∃ v,e = .returned v/\OwnK .i64 48 w' w.heap.size v (n_l l n)/\Below w.heap.size w w':=by
 obtain ⟨p',m',c',e',M⟩:=h1.lst;cases e';haveI:Nonempty World:=⟨w⟩
 obtain ⟨L,eL⟩:∃ L,n_l l n=L:=⟨_,rfl⟩
 have HL:Hid (n_l l n=L):=eL;rw [eL];clear eL h1;go_enter Tryz.func7,Tryz.ntmps7;go_wp2_with (at_make;refine a_y k_C (by decide) _ rfl (.tmp 7) (.tmp 7) rfl .i64 .i64 n n n rfl rfl rfl rfl (by omega) w.heap.size w (Nat.le_refl _) (Below.refl _ _) ?_;intro w1 HO B0 B1;clear B0)
 have D:Hid (OwnK .i64 48 w1 w.heap.size (.slice (some ⟨w.heap.size,0,none⟩) n n) (k_p l n 0)):=HO.out;have E:Hid (Below w.heap.size w w1):=B1;clear HO B1;go_wp2_with fail
 by_cases h0:m=0
 ·subst h0;have el:l.length=0:=M.out.1;have J:Hid (k_p l n 0=L):=by show _=_;rw [<- HL.out];unfold n_l;rw [if_pos el];rfl
  clear el
  go_loopg [6] 1 (fun gg i wr=>gg=1/\i = .int .i64 0/\Hid (wr=w1))
  case atStart=>exact ⟨rfl,rfl,rfl⟩
  case round=>
   obtain ⟨rfl,rfl,Hw⟩:=hrel;have ew:=Hw.out;subst ew;by_cases hz:0 < n
   ·have aa:0 < (n:Int):=by omega
    go_wp2;go_ret;exact ⟨_,rfl,by rw [<- J.out];exact D.out,E.out⟩
   ·have aa:(n:Int)<=0:=by omega
    go_wp2;go_ret;exact ⟨_,rfl,by rw [<- J.out];exact D.out,E.out⟩
 have ad:0 < (m:Int):=by omega
 have ai:((m:Int)==0)=false:=by simpa using h0
 have J:Hid (k_p l n n=L):=by show _=_;rw [<- HL.out,o_2 _ _ (by rw [M.out.1];omega)]
 go_loopg [6] n (fun gg i wr=>∃ (k:Nat),k<=n/\gg=n - k/\i = .int .i64 (k:Int)/\Hid (OwnK .i64 48 wr w.heap.size (.slice (some ⟨w.heap.size,0,none⟩) n n) (k_p l n k))/\Hid (Below w.heap.size w wr))
 case atStart=>exact ⟨0,by omega,by omega,by first|rfl|simp,D,E⟩
 case round=>
  obtain ⟨k,hk,hg,rfl,O,hB⟩:=hrel;by_cases ab:k < n
  ·have ag:(k:Int) < (n:Int):=by omega
   have hj:=Nat.mod_lt k (Nat.pos_of_ne_zero h0);obtain ⟨j,I⟩:∃ j,k % m=j:=⟨_,rfl⟩
   rw [I] at hj
   have ah:(k:Int).tmod (m:Int)=(j:Int):=by
    rw [<- Int.ofNat_tmod,I]
   have ae:(j:Int) < (m:Int):=by omega
   obtain ⟨q,o,rfl,H⟩:=M.out.2 j hj;have V:=a_d H hB.out;obtain ⟨ac,af⟩:=O.out.cell (by rw [d_H]) k ab;obtain ⟨x,U⟩:∃ x,l.getD j 0=x:=⟨_,rfl⟩
   rw [U] at V
   have H2:Hid (OwnK .i64 48 (wr.setCell ⟨w.heap.size,k,none⟩ (.int .i64 x)) w.heap.size (.slice (some ⟨w.heap.size,0,none⟩) n n) (k_p l n (k+1))):=by
    have:=O.out.store (by rw [d_H]) k x;show OwnK _ _ _ _ _ _;rw [k_p,M.out.1,I,U];exact this
   have R:Hid (Below w.heap.size w (wr.setCell ⟨w.heap.size,k,none⟩ (.int .i64 x))):=hB.out.setCell (p:=⟨w.heap.size,k,none⟩) (Nat.le_refl _) _;clear I U H;go_wp2;go_roundg (n - (k+1))
   case measure=>omega
   case rel=>exact ⟨k+1,by omega,rfl,by first|rfl|simp,H2,R⟩
  ·obtain rfl:k=n:=by omega
   go_wp2;go_ret;exact ⟨_,rfl,by rw [<- J.out];exact O.out,hB.out⟩
theorem p_H {d:List Int} {ls:List Ly} (h:nE d ls=0):0<=nP d ls:=by
 obtain ⟨S,hf,D,E⟩:=e_3 h;have:=i_9 (NetOk.of hf D) 0 (Nat.zero_le _);rw [(k_U hf D E).2.2];exact this
/-- How many parameters a tame net has; is it tame? -/
def tmN (n n2:Nat) (d:List Int) (ls:List Ly):Int:=if 4 < n∨6 < n2 then 0 else nP d ls
abbrev tmP (n n2:Nat) (d:List Int) (ls:List Ly):Prop:=n<=4/\n2<=6/\nE d ls=0/\nP d ls<=80
theorem o_3 (p p2:Option Addr) (n c H c2:Nat) (d:List Int) (ls:List Ly) (w:World) (O:Nums .i64 w (.slice p n c) d) (h2:LyR 0 w p2 H ls):
  Calls Tryz.prog 5 #[.agg #[.slice p n c,.slice p2 H c2]] w fun e w'=>e = .returned (.tuple #[.int .i64 (tmN n H d ls),.bool (decide (tmP n H d ls))])/\Below w.heap.size w w':=by
 haveI:Nonempty World:=⟨w⟩
 obtain ⟨T,eT⟩:∃ T,tmN n H d ls=T:=⟨_,rfl⟩
 obtain ⟨r,er⟩:∃ r:Bool,decide (tmP n H d ls)=r:=⟨_,rfl⟩
 have J:Hid (tmN n H d ls=T/\decide (tmP n H d ls)=r):=⟨eT,er⟩
 have HN:Hid (Nums .i64 w (.slice p n c) d/\LyR 0 w p2 H ls):=⟨O,h2⟩
 rw [eT,er];clear eT er O h2;go_enter Tryz.func5,Tryz.ntmps5;by_cases hn:4 < n
 ·have ac:(4:Int) < (n:Int):=by omega
  obtain ⟨e1,I⟩:T=0/\r=false:=⟨by rw [<- J.out.1];exact if_pos (.inl hn),by rw [<- J.out.2,decide_eq_false fun h=>by have:=h.1;omega]⟩
  subst e1 I;go_wp2;exact bodyPost_ret (v:=.tuple #[.int .i64 0,.bool false]) (by simp [results,Tryz.results5,go_sem]) rfl ⟨rfl,by go_grown⟩
 have ac:(n:Int)<=4:=by omega
 by_cases hm:6 < H
 ·have ae:(6:Int) < (H:Int):=by omega
  obtain ⟨e1,I⟩:T=0/\r=false:=⟨by rw [<- J.out.1];exact if_pos (.inr hm),by rw [<- J.out.2,decide_eq_false fun h=>by have:=h.2.1;omega]⟩
  subst e1 I;go_wp2;exact bodyPost_ret (v:=.tuple #[.int .i64 0,.bool false]) (by simp [results,Tryz.results5,go_sem]) rfl ⟨rfl,by go_grown⟩
 have ae:(H:Int)<=6:=by omega
 go_wp2_with fail
 generalize R:World.alloc _ _=W0;have M:Hid (Below w.heap.size w W0):=by rw [<- R];exact a_b w _
 obtain ⟨g0,g1⟩:W0.cell? ⟨w.heap.size,0,none⟩=some (.slice p n c)/\W0.cell? ⟨w.heap.size,1,none⟩=some (.slice p2 H c2):=by rw [<- R];simp [go_sem]
 have kg:=a_g g0;clear R;refine (r_d p p2 n c H c2 ls (by omega) W0 (HN.out.2.up M.out)).mono ?_;rintro e w4 ⟨p3,c3,rfl,aa,hB⟩;obtain ⟨p4,c4,e4,L⟩:=aa.rd;rw [HN.out.2.1] at e4 L;cases e4;have ab:Hid (LyR 0 w4 p3 H ls):=L;have V:Hid (Below w.heap.size w w4):=a_c M.out hB;clear hB M aa L g0 g1 kg;go_wp2_with fail
 refine (j_f p p3 n c H c3 d ls (by omega) w4 (HN.out.1.up V.out) ab.out).mono ?_;rintro e w5 ⟨⟨v5,rfl,ad⟩,hB⟩;have U:Hid (Below w.heap.size w w5):=a_c V.out hB;obtain ⟨E,eE⟩:∃ E,nE d ls=E:=⟨_,rfl⟩
 obtain ⟨P,eP⟩:∃ P,nP d ls=P:=⟨_,rfl⟩
 have e1:T=P:=by rw [<- J.out.1,<- eP];exact if_neg (by omega)
 have I:r=decide (E=0/\P<=80):=by
  rw [<- J.out.2,<- eE,<- eP];by_cases h:nE d ls=0/\nP d ls<=80
  ·rw [decide_eq_true h,decide_eq_true ⟨by omega,by omega,h.1,h.2⟩]
  ·rw [decide_eq_false h,decide_eq_false fun h'=>h ⟨h'.2.2.1,h'.2.2.2⟩]
 rw [eE,eP];subst e1;clear hB V ab ad eE eP J;by_cases h0:E=0
 ·subst h0;by_cases O:T<=80
  ·have e3:r=true:=by rw [I,decide_eq_true ⟨rfl,O⟩]
   clear I;subst e3;go_wp2;exact bodyPost_ret (v:=.tuple #[.int .i64 T,.bool true]) (by simp [results,Tryz.results5,go_sem,O]) rfl ⟨rfl,U.out⟩
  ·have e3:r=false:=by rw [I,decide_eq_false fun h=>O h.2]
   clear I;subst e3;go_wp2;exact bodyPost_ret (v:=.tuple #[.int .i64 T,.bool false]) (by simp [results,Tryz.results5,go_sem,O]) rfl ⟨rfl,U.out⟩
 ·have e3:r=false:=by rw [I,decide_eq_false fun h=>h0 h.1]
  clear I;subst e3;have af:(E==0)=false:=by simpa using h0
  go_wp2;exact bodyPost_ret (v:=.tuple #[.int .i64 T,.bool false]) (by simp [results,Tryz.results5,go_sem,h0]) rfl ⟨rfl,U.out⟩
theorem s_F:(Tryz.prog.info? 38).map (fun i=>(i.zero,i.size,i.bytes))=some (some (.agg #[.int .i64 0,.int .u64 0]),2,16):=by kernel_rfl
theorem f_X:∃ i,Tryz.prog.info? 38=some i/\i.zero=some (.agg #[.int .i64 0,.int .u64 0])/\i.size=2/\i.bytes=16:=by
 have h:=s_F;cases D:Tryz.prog.info? 38 with
 | none=>rw [D] at h;cases h
 | some i=>
  rw [D] at h;simp only [Option.map_some,Option.some.injEq,Prod.mk.injEq] at h;exact ⟨i,rfl,h.1,h.2.1,h.2.2⟩
/-- A row of n Wides from the start of block g on, which may be written. -/
def WRow (W:World) (g n:Nat) (l:List Int):Prop:=l.length=n/\(∀ y,y∈l->InW y)/\∀ i,i < n->LieA W g (i*2) (l.getD i 0)
theorem WRow.up {W W':World} {g n:Nat} {l:List Int} (h:WRow W g n l) (D:Below W.heap.size W W'):WRow W' g n l:=⟨h.1,h.2.1,fun i E=>(h.2.2 i E).up D⟩
theorem WRow.rd {W:World} {g n:Nat} {l:List Int} (h:WRow W g n l):WdR W (some ⟨g,0,none⟩) n l:=⟨h.1,h.2.1,fun i D=>⟨g,0,rfl,by
 have a:=h.2.2 i D;rw [Nat.zero_add];exact ⟨a.2.1,a.2.2.1⟩⟩⟩
theorem WRow.set {W:World} {g n k:Nat} {l:List Int} {y yh yl:Int} (h:WRow W g n l) (E:k < n) (M:InW y) (L:yh=y / 18446744073709551616) (H:yl=y % 18446744073709551616):WRow ((W.setCell ⟨g,k*2,none⟩ (.int .i64 yh)).setCell ⟨g,k*2+1,none⟩ (.int .u64 yl)) g n (l.set k y):=by
 refine ⟨by rw [List.length_set,h.1],fun z J=>?_,fun i I=>?_⟩
 ·rcases List.mem_or_eq_of_mem_set J with D|D
  ·exact h.2.1 z D
  ·rw [D];exact M
 ·by_cases e:k=i
  ·subst e;rw [List.getD_eq_getElem?_getD,List.getElem?_set_self (by rw [h.1];exact E)];exact (h.2.2 k E).set L H
  ·rw [List.getD_eq_getElem?_getD,List.getElem?_set_ne e,<- List.getD_eq_getElem?_getD];exact (h.2.2 i I).off (by omega)
/-- Wides that were just made: all 0. -/
theorem e_I {W:World} {B g n:Nat} {e:TypeId} (h:W.ownsRow B e 2 (.slice (some ⟨g,0,none⟩) n n) n (madeCells (Value.agg #[.int .i64 0,.int .u64 0]).cells (n*2)).toList):WRow W g n (List.replicate n 0):=by
 refine ⟨by simp,fun y hy=>?_,fun i hi=>?_⟩
 ·rw [(List.mem_replicate.1 hy).2];unfold InW;omega
 have hf:∀ j,W.frozen? ⟨g,j,none⟩=false:=by
  intro j;rcases h.2 with ⟨E,_⟩|⟨q,U,V,E,h2,h3,_⟩
  ·cases E
  ·cases E;unfold World.frozen?;simp [h3]
 have R:∀ r,r < 2->(madeCells (Value.agg #[.int .i64 0,.int .u64 0]).cells (n*2)).toList[i*2+r]?=(#[Value.int .i64 0,.int .u64 0]:Array Value)[r]?:=by
  intro r D;have M:(Value.agg #[.int .i64 0,.int .u64 0]).cells=#[Value.int .i64 0,.int .u64 0]:=rfl;unfold madeCells;rw [M,Array.getElem?_toList,Array.getElem?_map,Array.getElem?_range];rw [if_pos (by omega)];have H:(i*2+r) % 2=r:=by omega
  simp only [Option.map_some]
  match r,D with
  | 0,_=>rw [show (#[Value.int .i64 0,.int .u64 0]:Array Value).size=2 from rfl,H];rfl
  | 1,_=>rw [show (#[Value.int .i64 0,.int .u64 0]:Array Value).size=2 from rfl,H];rfl
 have J:∀ r u,r < 2->(#[Value.int .i64 0,.int .u64 0]:Array Value)[r]?=some u->W.cell? ⟨g,i*2+r,none⟩=some u:=by
  intro r u D L;have:=World.ownsRow.cells h rfl (i*2+r) u (by rw [R r D];exact L);rw [a_t,Nat.zero_add] at this;exact this
 have I:=J 0 _ (by omega) rfl;have O:=J 1 _ (by omega) rfl
 have e:(List.replicate n (0:Int)).getD i 0=0:=by
  rw [List.getD_eq_getElem?_getD,List.getElem?_replicate]
  split <;> rfl
 rw [e];exact ⟨b_w I,I,O,hf _,hf _⟩
/-- The first k numbers joined, nothing behind. -/
def jnK (a b:List Int) (n:Nat):Nat->List Int
 | 0=>List.replicate n 0
 | k+1=>(jnK a b n k).set k (wr (a.getD k 0+b.getD k 0))
theorem h_p (a b:List Int) (n:Nat):∀ k,(jnK a b n k).length=n
 | 0=>by simp [jnK]
 | k+1=>by rw [jnK,List.length_set,h_p a b n k]
theorem p_I (a b:List Int) (n:Nat):∀ k j,j < n->(jnK a b n k).getD j 0=if j < k then wr (a.getD j 0+b.getD j 0) else 0
 | 0,j,hj=>by
  rw [jnK,List.getD_eq_getElem?_getD,List.getElem?_replicate,if_pos hj];rfl
 | k+1,j,hj=>by
  rw [jnK];by_cases e:k=j
  ·subst e;rw [List.getD_eq_getElem?_getD,List.getElem?_set_self (by rw [h_p];exact hj),if_pos (by omega)];rfl
  ·rw [List.getD_eq_getElem?_getD,List.getElem?_set_ne e,<- List.getD_eq_getElem?_getD,p_I a b n k j hj];by_cases h:j < k
   ·rw [if_pos h,if_pos (by omega)]
   ·rw [if_neg h,if_neg (by omega)]
theorem r_f (a b:List Int):jnK a b a.length a.length=e_O a b:=by
 refine d_b (by rw [h_p,h_l]) fun i D=>?_;rw [h_p] at D;rw [p_I a b _ _ i D,if_pos D];unfold e_O;rw [List.getD_eq_getElem?_getD (l:=(List.range a.length).map _),List.getElem?_map,List.getElem?_range D];rfl
/-- A sum in the making: its first k numbers have had a row's added. -/
def adK (s x:List Int):Nat->List Int
 | 0=>s
 | k+1=>(adK s x k).set k (wr ((adK s x k).getD k 0+x.getD k 0))
theorem h_q (s x:List Int):∀ k,(adK s x k).length=s.length
 | 0=>rfl
 | k+1=>by rw [adK,List.length_set,h_q s x k]
theorem n_n (s x:List Int):∀ k j,j < s.length->(adK s x k).getD j 0=if j < k then wr (s.getD j 0+x.getD j 0) else s.getD j 0
 | 0,j,hj=>by rw [adK,if_neg (by omega)]
 | k+1,j,hj=>by
  rw [adK];by_cases e:k=j
  ·subst e;rw [List.getD_eq_getElem?_getD,List.getElem?_set_self (by rw [h_q];exact hj),if_pos (by omega),n_n s x k k hj,if_neg (by omega)];rfl
  ·rw [List.getD_eq_getElem?_getD,List.getElem?_set_ne e,<- List.getD_eq_getElem?_getD,n_n s x k j hj];by_cases h:j < k
   ·rw [if_pos h,if_pos (by omega)]
   ·rw [if_neg h,if_neg (by omega)]
theorem r_g (s x:List Int):adK s x s.length=e_O s x:=by
 refine d_b (by rw [h_q,h_l]) fun i D=>?_;rw [h_q] at D;rw [n_n s x _ i D,if_pos D];unfold e_O;rw [List.getD_eq_getElem?_getD (l:=(List.range s.length).map _),List.getElem?_map,List.getElem?_range D];rfl
/-- The net of one number in and out. -/
abbrev liL:List Ly:=[(e_l,1,0)]
theorem t_A:nE [1] liL=0:=by decide +kernel
theorem t_B:nP [1] liL=2:=by decide +kernel
theorem t_C:gof [1] liL 1 [0,0] [8589934592] [4294967296] 0=(0,[-17179869184,-8589934592],4294967296):=by decide +kernel
theorem p_J {W:World} {g n k:Nat} {l:List Int} {y yh yl:Int} (h:WRow W g n l) (E:k < n) (D:InW y) (e:wd y = .agg #[.int .i64 yh,.int .u64 yl]):WRow ((W.setCell ⟨g,k*2,none⟩ (.int .i64 yh)).setCell ⟨g,k*2+1,none⟩ (.int .u64 yl)) g n (l.set k y):=by
 unfold wd at e;simp only [Value.agg.injEq,Array.mk.injEq,List.cons.injEq,Value.int.injEq,true_and,and_true] at e;exact h.set E D e.1.symm e.2.symm
theorem n_o (p p2:Option Addr) (n c H c2:Nat) (a b:List Int) (hn:n<=1048576) (w:World) (h1:WdR w p n a) (h2:WdR w p2 H b):
  Calls Tryz.prog 9 #[.slice p n c,.slice p2 H c2] w fun e w'=>∃ v,e = .returned (.tuple #[v,.int .i64 (if n=H then 0 else 4)])/\Below w.heap.size w w'/\(n≠H->v = .slice none 0 0)/\(n=H->∃ g,v = .slice (some ⟨g,0,none⟩) n n/\w.heap.size<=g/\WRow w' g n (e_O a b)):=by
 haveI:Nonempty World:=⟨w⟩
 have R:Hid (WdR w p n a/\WdR w p2 H b):=⟨h1,h2⟩
 clear h1 h2;by_cases L:n=H
 case neg=>
  rw [if_neg L];go_enter Tryz.func9,Tryz.ntmps9;have ag:((n:Int) != (H:Int))=true:=by simpa using (show (n:Int)≠(H:Int) by omega)
  have ah:¬ ((n:Int)=(H:Int)):=by omega
  go_wp2;exact bodyPost_ret (v:=.tuple #[.slice none 0 0,.int .i64 4]) (by simp [results,Tryz.results9,go_sem]) rfl ⟨_,rfl,Below.refl _ _,fun _=>rfl,fun h=>absurd h L⟩
 subst L;rw [if_pos rfl];obtain ⟨i0,hi,ab,ac,aa⟩:=f_X;go_enter Tryz.func9,Tryz.ntmps9;go_wp2_with (at_make;refine wpList_make_full w rfl (.tmp 14) (.tmp 14) 35 rfl w.heap.size 38 i0 _ 2 Tryz.underlying35 hi ab ac .i64 .i64 n n n rfl rfl rfl rfl (by rw [aa];omega) (by unfold maxLen;omega) (Nat.le_refl _) ?_;intro w3 I E;have B3:Below w.heap.size w w3:=Below.grown (Below.refl _ _) E (Nat.le_refl _) (fun j hj=>by cases hj);have H3:Hid (WRow w3 w.heap.size n (jnK a b n 0)):=e_I I;clear I E)
 have ae:Hid (Below w.heap.size w w3):=B3;clear B3 hi ab ac aa;go_wp2_with fail
 go_loopg [18] n (fun gg i wr=>∃ (k:Nat),k<=n/\gg=n - k/\i = .int .i64 (k:Int)/\Hid (WRow wr w.heap.size n (jnK a b n k))/\Hid (Below w.heap.size w wr))
 case atStart=>exact ⟨0,by omega,by omega,by first|rfl|simp,H3,ae⟩
 case round=>
  obtain ⟨k,hk,hg,rfl,HR,U⟩:=hrel;obtain ⟨R1,ad⟩:∃ R1:World,R1=wr:=⟨_,rfl⟩
  subst ad;by_cases D:k < n
  ·have af:(k:Int) < (n:Int):=by omega
   obtain ⟨qa,oa,rfl,V,a1⟩:=R.out.1.2.2 k D;obtain ⟨qb,ob,rfl,b0,b1⟩:=R.out.2.2.2 k D;replace V:=a_d V U.out;replace a1:=a_d a1 U.out;replace b0:=a_d b0 U.out;replace b1:=a_d b1 U.out;obtain ⟨u,eu⟩:∃ u,a.getD k 0=u:=⟨_,rfl⟩
   obtain ⟨v,ev⟩:∃ v,b.getD k 0=v:=⟨_,rfl⟩
   have wu:InW u:=R.out.1.2.1 u (by rw [<- eu,List.getD_eq_getElem?_getD,List.getElem?_eq_getElem (by rw [R.out.1.1];exact D)];exact List.getElem_mem _);have wv:InW v:=R.out.2.2.1 v (by rw [<- ev,List.getD_eq_getElem?_getD,List.getElem?_eq_getElem (by rw [R.out.2.1];exact D)];exact List.getElem_mem _);rw [eu] at V a1;rw [ev] at b0 b1;obtain ⟨u1,f1⟩:∃ x,u / 18446744073709551616=x:=⟨_,rfl⟩
   obtain ⟨u2,f2⟩:∃ x,u % 18446744073709551616=x:=⟨_,rfl⟩
   obtain ⟨v1,f3⟩:∃ x,v / 18446744073709551616=x:=⟨_,rfl⟩
   obtain ⟨v2,f4⟩:∃ x,v % 18446744073709551616=x:=⟨_,rfl⟩
   obtain ⟨s,es⟩:∃ s,wr (u+v)=s:=⟨_,rfl⟩
   obtain ⟨s1,f5⟩:∃ x,s / 18446744073709551616=x:=⟨_,rfl⟩
   obtain ⟨s2,f6⟩:∃ x,s % 18446744073709551616=x:=⟨_,rfl⟩
   have O:wd s = .agg #[.int .i64 s1,.int .u64 s2]:=by unfold wd;rw [f5,f6]
   have cA:Hid (∀ W,Below R1.heap.size R1 W->Calls Tryz.prog 11 #[.agg #[.int .i64 u1,.int .u64 u2],.agg #[.int .i64 v1,.int .u64 v2]] W fun e w'=>e = .returned (.agg #[.int .i64 s1,.int .u64 s2])/\Below W.heap.size W w'):=fun W _=>by
    have:=add_any u v wu wv W;rw [es,O] at this;unfold wd at this;rw [f1,f2,f3,f4] at this;exact this
   have HS:Hid (jnK a b n (k+1)=(jnK a b n k).set k s/\InW s/\wd s = .agg #[.int .i64 s1,.int .u64 s2]):=⟨by rw [jnK,eu,ev,es],by rw [<- es];exact d_d _,O⟩
   rw [f1] at V;rw [f2] at a1;rw [f3] at b0;rw [f4] at b1;have ka:=a_a V;have kb:=a_a b0;have LK:=HR.out.2.2 k D;obtain ⟨kg,l0,l1,l2,l3⟩:=LK;clear eu ev wu wv f1 f2 f3 f4 f5 f6 es O;go_wp2_with fail
   refine rel [] 12 35 (by kernel_rfl) rfl rfl (by kernel_rfl) (by rfl) ?_ ?_
   ·intro e he;simp at he
   apply Exists.intro;refine ⟨fun x=>?_,?_,?_⟩
   ·simp only [List.take_succ_cons,List.take_zero]
    iterate 10
     refine a_l rfl rfl ?_;apply Exists.intro;refine ⟨fun F hF hf K hK=>?_,?_⟩
     ·have hFc:=hF.cell;have hFf:=hF.frozen
      go_big_quiet_op
      first|exact hK|(apply Exists.intro;refine ⟨fun _=>?_,?_⟩;(· fail);exact hK)
     (try simp only [Act.put,sA_,sB_,sC_])
    refine a_l rfl rfl ?_;apply Exists.intro;refine ⟨fun F hF hf K hK=>?_,?_⟩
    ·have hFc:=hF.cell;have hFf:=hF.frozen
     go_big_quiet_op
     first|exact hK|(apply Exists.intro;refine ⟨fun _=>?_,?_⟩;(· exact hF.call (cA.out _ (hF.below _)));exact hK)
    (try simp only [Act.put,sA_,sB_,sC_])
    refine a_l rfl rfl ?_;apply Exists.intro;refine ⟨fun F hF hf K hK=>?_,?_⟩
    ·have hFc:=hF.cell;have hFf:=hF.frozen
     go_big_quiet_op
     first|exact hK|(apply Exists.intro;refine ⟨fun _=>?_,?_⟩;(· fail);exact hK)
    (try simp only [Act.put,sA_,sB_,sC_])
    refine b_c ?_;exact rfl
   ·exact fun x=>rfl
   ·intro w9 xs M hf;simp only [List.drop_succ_cons,List.drop_zero];have J:Hid (Below w.heap.size w w9/\WRow w9 w.heap.size n (jnK a b n k)):=⟨a_c U.out M,HR.out.up M⟩
    obtain ⟨kg,l0,l1,l2,l3⟩:=J.out.2.2.2 k D;have HN:Hid (WRow ((w9.setCell ⟨w.heap.size,k*2,none⟩ (.int .i64 s1)).setCell ⟨w.heap.size,k*2+1,none⟩ (.int .u64 s2)) w.heap.size n (jnK a b n (k+1))/\Below w.heap.size w ((w9.setCell ⟨w.heap.size,k*2,none⟩ (.int .i64 s1)).setCell ⟨w.heap.size,k*2+1,none⟩ (.int .u64 s2))):=⟨by rw [HS.out.1];exact p_J J.out.2 D HS.out.2.1 HS.out.2.2,(J.out.1.setCell (p:=⟨w.heap.size,k*2,none⟩) (Nat.le_refl _) _).setCell (p:=⟨w.heap.size,k*2+1,none⟩) (Nat.le_refl _) _⟩
    clear hf M V a1 b0 b1 ka kb;go_wp2;go_roundg (n - (k+1))
    case measure=>omega
    case rel=>exact ⟨k+1,by omega,rfl,by first|rfl|simp,HN.out.1,HN.out.2⟩
  ·obtain rfl:k=n:=by omega
   go_wp2
   exact bodyPost_ret (v:=.tuple #[.slice (some ⟨w.heap.size,0,none⟩) k k,.int .i64 0]) (by simp [results,Tryz.results9,go_sem]) rfl ⟨_,rfl,U.out,fun h=>absurd rfl h,fun _=>⟨_,rfl,Nat.le_refl _,by
    have:=HR.out;have e:=r_f a b;rw [R.out.1.1] at e;rw [e] at this;exact this⟩⟩
theorem WRow.stay {W W':World} {g n b:Nat} {l:List Int} (h:WRow W g n l) (D:Stay b W W') (H:g≠b):WRow W' g n l:=⟨h.1,h.2.1,fun i E=>(h.2.2 i E).stay D H⟩
theorem g_y (g n:Nat) (s x:List Int) (hn:n<=1048576) (p:Option Addr) (c:Nat) (hx:RI x) (w:World) (hS:WRow w g n s) (hX:∀ W',Stay g w W'->Nums .i64 W' (.slice p n c) x):
  Calls Tryz.prog 18 #[.slice (some ⟨g,0,none⟩) n n,.slice p n c] w fun e H=>e = .returned (.tuple #[])/\WRow H g n (e_O s x)/\Stay g w H/\Below g w H:=by
 haveI:Nonempty World:=⟨w⟩
 have HK:Hid ((∀ W',Stay g w W'->Nums .i64 W' (.slice p n c) x)/\RI x/\s.length=n):=⟨hX,hx,hS.1⟩
 have H0:Hid (WRow w g n (adK s x 0)):=hS;clear hX hx hS;go_enter Tryz.func18,Tryz.ntmps18;go_wp2_with fail
 go_loopg [8] n (fun gg i wr=>∃ (k:Nat),k<=n/\gg=n - k/\i = .int .i64 (k:Int)/\Hid (WRow wr g n (adK s x k))/\Hid (Stay g w wr/\Below g w wr))
 case atStart=>exact ⟨0,by omega,by omega,by first|rfl|simp,H0,Stay.refl _ _,Below.refl _ _⟩
 case round=>
  obtain ⟨k,hk,hg,rfl,HR,HB⟩:=hrel;obtain ⟨I,aa⟩:∃ I:World,I=wr:=⟨_,rfl⟩
  subst aa;by_cases D:k < n
  ·have ab:(k:Int) < (n:Int):=by omega
   obtain ⟨_,_,_,e9,J⟩:=(HK.out.1 I HB.out.1).lst;cases e9;obtain ⟨q,o,rfl,hc⟩:=J.out.2 k D;obtain ⟨v,ev⟩:∃ v,x.getD k 0=v:=⟨_,rfl⟩
   obtain ⟨u,eu⟩:∃ u,(adK s x k).getD k 0=u:=⟨_,rfl⟩
   have rv:InR v:=HK.out.2.1 v (by rw [<- ev,List.getD_eq_getElem?_getD,List.getElem?_eq_getElem (by rw [J.out.1];exact D)];exact List.getElem_mem _);have wu:InW u:=HR.out.2.1 u (by rw [<- eu,List.getD_eq_getElem?_getD,List.getElem?_eq_getElem (by rw [HR.out.1];exact D)];exact List.getElem_mem _);rw [ev] at hc;obtain ⟨kg,l0,l1,l2,l3⟩:=HR.out.2.2 k D;rw [eu] at l0 l1;obtain ⟨u1,f1⟩:∃ x,u / 18446744073709551616=x:=⟨_,rfl⟩
   obtain ⟨u2,f2⟩:∃ x,u % 18446744073709551616=x:=⟨_,rfl⟩
   obtain ⟨v1,f3⟩:∃ x,v / 18446744073709551616=x:=⟨_,rfl⟩
   obtain ⟨v2,f4⟩:∃ x,v % 18446744073709551616=x:=⟨_,rfl⟩
   obtain ⟨U,es⟩:∃ s,Wd.wr (u+v)=s:=⟨_,rfl⟩
   obtain ⟨O,f5⟩:∃ x,U / 18446744073709551616=x:=⟨_,rfl⟩
   obtain ⟨M,f6⟩:∃ x,U % 18446744073709551616=x:=⟨_,rfl⟩
   have L:wd U = .agg #[.int .i64 O,.int .u64 M]:=by unfold wd;rw [f5,f6]
   have cO:Hid (∀ W,Below I.heap.size I W->Calls Tryz.prog 19 #[.int .i64 v] W fun e H=>e = .returned (.agg #[.int .i64 v1,.int .u64 v2])/\Below W.heap.size W H):=fun W _=>by
    have:=of_any v rv W;unfold wd at this;rw [f3,f4] at this;exact this
   have cA:Hid (∀ W,Below I.heap.size I W->Calls Tryz.prog 11 #[.agg #[.int .i64 u1,.int .u64 u2],.agg #[.int .i64 v1,.int .u64 v2]] W fun e H=>e = .returned (.agg #[.int .i64 O,.int .u64 M])/\Below W.heap.size W H):=fun W _=>by
    have:=Wd.add_any u v wu (InR.w rv) W;rw [es,L] at this;unfold wd at this;rw [f1,f2,f3,f4] at this;exact this
   have HS:Hid (adK s x (k+1)=(adK s x k).set k U/\InW U/\wd U = .agg #[.int .i64 O,.int .u64 M]):=⟨by rw [adK,eu,ev,es],by rw [<- es];exact d_d _,L⟩
   rw [f1] at l0;rw [f2] at l1;have ka:=a_a hc;clear eu ev wu rv f1 f2 f3 f4 f5 f6 es L J;go_wp2_with fail
   refine rel [] 10 24 (by kernel_rfl) rfl rfl (by kernel_rfl) (by rfl) ?_ ?_
   ·intro e he;simp at he
   apply Exists.intro;refine ⟨fun x=>?_,?_,?_⟩
   ·simp only [List.take_succ_cons,List.take_zero]
    iterate 7
     refine a_l rfl rfl ?_;apply Exists.intro;refine ⟨fun F hF hf K hK=>?_,?_⟩
     ·have hFc:=hF.cell;have hFf:=hF.frozen
      go_big_quiet_op
      first|exact hK|(apply Exists.intro;refine ⟨fun _=>?_,?_⟩;(· fail);exact hK)
     (try simp only [Act.put,sA_,sB_,sC_])
    refine a_l rfl rfl ?_;apply Exists.intro;refine ⟨fun F hF hf K hK=>?_,?_⟩
    ·have hFc:=hF.cell;have hFf:=hF.frozen
     go_big_quiet_op
     first|exact hK|(apply Exists.intro;refine ⟨fun _=>?_,?_⟩;(· exact hF.call (cO.out _ (hF.below _)));exact hK)
    (try simp only [Act.put,sA_,sB_,sC_])
    refine a_l rfl rfl ?_;apply Exists.intro;refine ⟨fun F hF hf K hK=>?_,?_⟩
    ·have hFc:=hF.cell;have hFf:=hF.frozen
     go_big_quiet_op
     first|exact hK|(apply Exists.intro;refine ⟨fun _=>?_,?_⟩;(· exact hF.call (cA.out _ (hF.below _)));exact hK)
    (try simp only [Act.put,sA_,sB_,sC_])
    refine a_l rfl rfl ?_;apply Exists.intro;refine ⟨fun F hF hf K hK=>?_,?_⟩
    ·have hFc:=hF.cell;have hFf:=hF.frozen
     go_big_quiet_op
     first|exact hK|(apply Exists.intro;refine ⟨fun _=>?_,?_⟩;(· fail);exact hK)
    (try simp only [Act.put,sA_,sB_,sC_])
    refine b_c ?_;exact rfl
   ·intro x;simp only [b_l,List.foldl_nil]
   ·intro R xs E hf;simp only [List.drop_succ_cons,List.drop_zero];have V:Hid (WRow R g n (adK s x k)/\Stay g w R/\Below g w R):=⟨HR.out.up E,HB.out.1.up E,HB.out.2.trans (E.mono (Nat.le_of_lt kg))⟩
    clear l0 l1 l2 l3 kg;obtain ⟨kg,l0,l1,l2,l3⟩:=V.out.1.2.2 k D;have HN:Hid (WRow ((R.setCell ⟨g,k*2,none⟩ (.int .i64 O)).setCell ⟨g,k*2+1,none⟩ (.int .u64 M)) g n (adK s x (k+1))/\Stay g w ((R.setCell ⟨g,k*2,none⟩ (.int .i64 O)).setCell ⟨g,k*2+1,none⟩ (.int .u64 M))/\Below g w ((R.setCell ⟨g,k*2,none⟩ (.int .i64 O)).setCell ⟨g,k*2+1,none⟩ (.int .u64 M))):=⟨by rw [HS.out.1];exact p_J V.out.1 D HS.out.2.1 HS.out.2.2,(V.out.2.1.set _ _).set _ _,(V.out.2.2.setCell (p:=⟨g,k*2,none⟩) (Nat.le_refl _) _).setCell (p:=⟨g,k*2+1,none⟩) (Nat.le_refl _) _⟩
    clear hf E hc ka V;go_wp2;go_roundg (n - (k+1))
    case measure=>omega
    case rel=>exact ⟨k+1,by omega,rfl,by first|rfl|simp,HN.out.1,HN.out.2⟩
  ·obtain rfl:k=n:=by omega
   go_wp2
   go_end0
   exact ⟨rfl,by
    have:=HR.out;have e:=r_g s x;rw [HK.out.2.2] at e;rw [e] at this;exact this,HB.out⟩
/-- A row of Wides that was handed back. -/
def WRd (W:World) (v:Value) (l:List Int):Prop:=∃ p n c,v = .slice p n c/\WdR W p n l
theorem WdR.nil (W:World) (p:Option Addr):WdR W p 0 []:=⟨rfl,fun y D=>by simp at D,fun i E=>by omega⟩
theorem WRow.wrd {W:World} {g n:Nat} {l:List Int} (h:WRow W g n l):WRd W (.slice (some ⟨g,0,none⟩) n n) l:=⟨_,_,_,rfl,h.rd⟩
/-- What Sum tells. -/
def n_C (d:List Int) (ls:List Ly) (k:Int) (P:List Int) (l:List Exm):Int×List Int×Int:=e_R (h_i d ls k P) (nP d ls).toNat l
/-- The Ops of a plan are known. -/
def PlC (d:List Int) (ls:List Ly) (P:List Int):Prop:=nE d ls=0->∀ X st,st∈(plF d ls (nS d ls) P X ls.length).1->st.op≠1->RkC st.op/\GvC st.op
def OfC (d:List Int) (ls:List Ly) (P:List Int):Prop:=∀ (k:Int) (X y:List Int) (cl:Int) (p p2 pp px py:Option Addr) (n c n2 c2 np cp nx cx ny cy:Nat) (hbig:n2<=1048576) (hPb:np<=1048576) (w:World) (hT:Hid (Tz w)) (hK:Hid (Kz w)) (hIn:Nums .i64 w (.slice p n c) d) (hLy:LyR 0 w p2 n2 ls) (hp:RowI w pp np cp P) (hx:RowI w px nx cx X) (hy:RowI w py ny cy y),
  Calls Tryz.prog 13 #[.agg #[.slice p n c,.slice p2 n2 c2],.int .i64 k,.slice pp np cp,.agg #[.slice px nx cx,.slice py ny cy,.int .i64 cl]] w fun e w'=>∃ v,e = .returned (.tuple #[v,.int .i64 (gof d ls k P X y cl).2.2,.int .i64 (gof d ls k P X y cl).1])/\OwnK .i64 48 w' w.heap.size v (gof d ls k P X y cl).2.1/\Below w.heap.size w w'
def s_S (d:List Int) (ls:List Ly) (P:List Int):Prop:=nE d ls=0->∀ (k:Int) (l:List Exm) (p p2 pp pl:Option Addr) (n c n2 c2 np cp nl cl:Nat) (hbig:n2<=1048576) (hPb:np<=1048576) (hl:nl<=1048576) (hnP:nP d ls<=1048576) (w:World) (hT:Hid (Tz w)) (hK:Hid (Kz w)) (hIn:Nums .i64 w (.slice p n c) d) (hLy:LyR 0 w p2 n2 ls) (hp:RowI w pp np cp P) (he:ExR w pl nl l),
  Calls Tryz.prog 8 #[.agg #[.slice p n c,.slice p2 n2 c2],.int .i64 k,.slice pp np cp,.slice pl nl cl] w fun e w'=>∃ v,e = .returned (.tuple #[v,wd (n_C d ls k P l).2.2,.int .i64 (n_C d ls k P l).1])/\WRd w' v (n_C d ls k P l).2.1/\Below w.heap.size w w'
def r_h:Prop:=∀ (p p2:Option Addr) (n c n2 c2:Nat) (a b:List Int) (hn:n<=1048576) (w:World) (h1:WdR w p n a) (h2:WdR w p2 n2 b),
  Calls Tryz.prog 9 #[.slice p n c,.slice p2 n2 c2] w fun e w'=>∃ v,e = .returned (.tuple #[v,.int .i64 (if n=n2 then 0 else 4)])/\WRd w' v (if n=n2 then e_O a b else [])/\Below w.heap.size w w'
theorem k_q (w:World):Calls Tryz.prog 12 #[] w fun e D=>∃ q r,e = .returned (.agg #[.slice (some ⟨q,0,none⟩) 1 1,.slice (some ⟨r,0,none⟩) 1 1])/\Nums .i64 D (.slice (some ⟨q,0,none⟩) 1 1) [1]/\LyR 0 D (some ⟨r,0,none⟩) 1 liL/\Below w.heap.size w D:=by
 go_enter Tryz.func12,Tryz.ntmps12;go_wp2;refine bodyPost_ret (v:=.agg #[.slice (some ⟨w.heap.size+1,0,none⟩) 1 1,.slice (some ⟨w.heap.size+1+1,0,none⟩) 1 1]) (by simp [results,Tryz.results12,go_sem]) rfl ⟨_,_,rfl,?_,?_,g_f (g_f (a_b w _) _) _⟩
 ·exact (f_i (k:=.i64) w _ [1] 1 (0,0) rfl).up (a_b _ _)
 ·refine ⟨rfl,fun i E=>⟨w.heap.size+1+1,0,rfl,?_⟩⟩;obtain rfl:i=0:=by omega
  simp [go_sem,lyA,e_l]
theorem s_G:n_C [1] liL 1 [0,0] []=(0,[0,0],0):=by decide +kernel
theorem j_h:wd 0 = .agg #[.int .i64 0,.int .u64 0]:=(k_E (by decide) (by decide)).symm
theorem o_4 {W K:World} {e:TypeId} {g n:Nat} {l:List Int} (hK:W.alloc (.cells (a_4 .i64 l).toArray e)=K) (H:W.heap.size=g) (D:l.length=n) (E:RI l) (I:n<=1000):RowI K (some ⟨g,0,none⟩) n n l:=⟨by rw [<- hK,<- H];exact a_5 (k:=.i64) W l n (0,0) D,E,Nat.le_refl _⟩
theorem j_i (hS:s_S [1] liL [0,0]) (hO:OfC [1] liL [0,0]) (w:World) (hT:Hid (Tz w)) (hK:Hid (Kz w)):Calls Tryz.prog 4 #[] w fun e w'=>e = .returned (.bool true)/\Below w.heap.size w w':=by
 haveI:Nonempty World:=⟨w⟩
 have CS:Hid (s_S [1] liL [0,0]):=hS;have CO:Hid (OfC [1] liL [0,0]):=hO;clear hS hO;go_enter Tryz.func4,Tryz.ntmps4;go_wp2_with fail
 refine (k_q w).mono ?_;rintro e w1 ⟨q1,r1,rfl,n1,l1,E⟩;have H1:Hid (Nums .i64 w1 (.slice (some ⟨q1,0,none⟩) 1 1) [1]/\LyR 0 w1 (some ⟨r1,0,none⟩) 1 liL/\Below w.heap.size w w1):=⟨n1,l1,E⟩
 clear n1 l1 E;obtain ⟨g1,ah⟩:∃ g,w1.heap.size=g:=⟨_,rfl⟩
 go_wp2_with fail
 generalize V:World.alloc _ _=K1;have E:Below w1.heap.size w1 K1:=by rw [<- V];exact a_b w1 _
 have L:Hid (RowI K1 (some ⟨g1,0,none⟩) 2 2 [0,0]/\Below w.heap.size w K1):=⟨o_4 (l:=[0,0]) V ah rfl (fun y J=>by simp at J;subst J;omega) (by omega),a_c H1.out.2.2 E⟩
 have I:=CS.out t_A 1 [] (some ⟨q1,0,none⟩) (some ⟨r1,0,none⟩) (some ⟨g1,0,none⟩) none 1 1 1 1 2 2 0 0 (by omega) (by omega) (by omega) (by rw [t_B];omega) K1 (Hid.up_tz hT L.out.2) (Hid.up_kz hK L.out.2) (H1.out.1.up E) (H1.out.2.1.up E) L.out.1 ⟨rfl,fun i hi=>by omega⟩;rw [s_G,j_h] at I
 (try rw [ah])
 clear V E H1;refine I.mono ?_;rintro e w2 ⟨v2,rfl,⟨p2,n2,c2,rfl,ad⟩,H⟩;obtain rfl:n2=2:=ad.1.symm;have H2:Hid (WdR w2 p2 2 [0,0]/\Below w.heap.size w w2):=⟨ad,a_c L.out.2 H⟩
 clear I ad H L;go_wp2_with fail
 generalize ag:World.alloc _ _=K2;have H:Below w2.heap.size w2 K2:=by rw [<- ag];exact a_b w2 _
 have H3:Hid (WdR K2 p2 2 [0,0]/\Below w.heap.size w K2):=⟨H2.out.1.up H,a_c H2.out.2 H⟩
 clear ag H H2;refine (k_q K2).mono ?_;rintro e w3 ⟨q3,r3,rfl,n3,l3,ab⟩;have H4:Hid (WdR w3 p2 2 [0,0]/\Below w.heap.size w w3/\Nums .i64 w3 (.slice (some ⟨q3,0,none⟩) 1 1) [1]/\LyR 0 w3 (some ⟨r3,0,none⟩) 1 liL):=⟨H3.out.1.up ab,a_c H3.out.2 ab,n3,l3⟩
 clear n3 l3 ab H3;go_wp2_with fail
 generalize af:World.alloc _ _=K3
 have D:Hid (RowI K3 (some ⟨w3.heap.size,0,none⟩) 2 2 [0,0]/\RowI K3 (some ⟨w3.heap.size+1,0,none⟩) 1 1 [8589934592]/\RowI K3 (some ⟨w3.heap.size+1+1,0,none⟩) 1 1 [4294967296]/\Below w3.heap.size w3 K3):=by
  rw [<- af];refine ⟨⟨((a_5 (k:=.i64) w3 [0,0] 2 (0,0) rfl).up (a_b _ _)).up (a_b _ _),fun y J=>by simp at J;subst J;omega,by omega⟩,⟨(f_i (k:=.i64) w3 _ [8589934592] 1 (0,0) rfl).up (a_b _ _),fun y J=>by simp at J;subst J;omega,by omega⟩,⟨?_,fun y J=>by simp at J;subst J;omega,by omega⟩,g_f (g_f (a_b w3 _) _) _⟩;have:=f_i (k:=.i64) (e:=48) (w3.alloc (.cells #[.int .i64 0,.int .i64 0] 48)) (.cells #[.int .i64 8589934592] 48) [4294967296] 1 (0,0) rfl;rw [show (w3.alloc (.cells #[.int .i64 0,.int .i64 0] 48)).heap.size=w3.heap.size+1 by unfold World.alloc;simp] at this;exact this
 have I:=CO.out 1 [8589934592] [4294967296] 0 (some ⟨q3,0,none⟩) (some ⟨r3,0,none⟩) (some ⟨w3.heap.size,0,none⟩) (some ⟨w3.heap.size+1,0,none⟩) (some ⟨w3.heap.size+1+1,0,none⟩) 1 1 1 1 2 2 1 1 1 1 (by omega) (by omega) K3 (Hid.up_tz hT (a_c H4.out.2.1 D.out.2.2.2)) (Hid.up_kz hK (a_c H4.out.2.1 D.out.2.2.2)) (H4.out.2.2.1.up D.out.2.2.2) (H4.out.2.2.2.up D.out.2.2.2) D.out.1 D.out.2.1 D.out.2.2.1;rw [t_C] at I;have H5:Hid (WdR K3 p2 2 [0,0]/\Below w.heap.size w K3):=⟨H4.out.1.up D.out.2.2.2,a_c H4.out.2.1 D.out.2.2.2⟩
 clear af D H4;refine I.mono ?_;rintro e M ⟨v4,rfl,R,aa⟩;obtain ⟨p4,n4,c4,rfl⟩:=R.form_;have H6:Hid (Below w.heap.size w M/\Nums .i64 M (.slice p4 n4 c4) [-17179869184,-8589934592]):=⟨a_c H5.out.2 aa,R.nums⟩
 have ai:n4=2:=by
  obtain ⟨_,_,_,e,h⟩:=R.nums.lst;cases e;exact h.out.1.symm
 subst ai;obtain ⟨qw,ow,ew,y0,y1⟩:=(H5.out.1.up aa).2.2 0 (by omega);subst ew;have z0:M.cell? ⟨qw,ow,none⟩=some (.int .i64 0):=by simpa using y0
 have z1:M.cell? ⟨qw,ow+1,none⟩=some (.int .u64 0):=by simpa using y1
 have kz:=a_a z0;have hq:=fun W=>j_g 0 0 0 0 W;simp only [decide_true] at hq;clear I R aa H5 y0 y1;go_wp2_with fail
 generalize ac:World.alloc _ _=K5;have U:Below M.heap.size M K5:=by rw [<- ac];exact a_b M _
 have O:Hid (Nums .i64 K5 (.slice (some ⟨M.heap.size,0,none⟩) 2 2) [-17179869184,-8589934592]/\Nums .i64 K5 (.slice p4 2 c4) [-17179869184,-8589934592]/\Below w.heap.size w K5):=⟨by rw [<- ac];exact a_5 (k:=.i64) M [-17179869184,-8589934592] 2 (0,0) rfl,H6.out.2.up U,a_c H6.out.1 U⟩
 clear ac U H6 z0 z1;have I:=i_z p4 (some ⟨M.heap.size,0,none⟩) 2 c4 2 2 _ _ (by omega) K5 O.out.2.1 O.out.1;rw [decide_eq_true rfl] at I;refine I.mono ?_;rintro e w6 ⟨rfl,ae⟩;have H7:Hid (Below w.heap.size w w6):=a_c O.out.2.2 ae;clear I ae O;go_wp2;go_ret;exact ⟨rfl,H7.out⟩
def SumD (d:List Int) (ls:List Ly) (P:List Int):Prop:=nE d ls=0->∀ (k:Int) (l:List Exm) (p p2 pp pl:Option Addr) (n c n2 c2 np cp nl cl:Nat) (hbig:n2<=1048576) (hPb:np<=1048576) (hl:nl<=1048576) (hnP:nP d ls<=1048576) (w:World) (hT:Hid (Tz w)) (hK:Hid (Kz w)) (hIn:Nums .i64 w (.slice p n c) d) (hLy:LyR 0 w p2 n2 ls) (hp:RowI w pp np cp P) (he:ExR w pl nl l),
  Calls Tryz.prog 8 #[.agg #[.slice p n c,.slice p2 n2 c2],.int .i64 k,.slice pp np cp,.slice pl nl cl] w fun e w'=>∃ v,e = .returned (.tuple #[v,wd (n_C d ls k P l).2.2,.int .i64 (n_C d ls k P l).1])/\WRd w' v (n_C d ls k P l).2.1/\Below w.heap.size w w'/\∀ ad m c',v = .slice (some ad) m c'->w.heap.size<=ad.block/\ad.block < w'.heap.size
theorem SumD.c {d:List Int} {ls:List Ly} {P:List Int} (h:SumD d ls P):s_S d ls P:=fun R k l p p2 pp L n c V O np cp U cl D H hl I w M hK E J hp he=>(h R k l p p2 pp L n c V O np cp U cl D H hl I w M hK E J hp he).mono fun e w' ⟨v,a,b,c,_⟩=>⟨v,a,b,c⟩
theorem s_H {d:List Int} {ls:List Ly} (h:nE d ls=0):nP d ls=c_a ls (nS d ls) ls.length:=by
 unfold nP nS;rw [if_pos h,if_pos h]
theorem r_i {d:List Int} {ls:List Ly} {k cl:Int} {P X y:List Int} (h:nE d ls=0) (D:(gof d ls k P X y cl).1=0):P.length=(nP d ls).toNat:=by
 unfold gof at D;by_cases H:1<=k/\k<=3
 ·rw [if_pos H] at D;unfold gfR at D;by_cases E:(rnF d ls [] P X).1=0
  ·unfold rnF at E;rw [if_pos h] at E;by_cases I:(P.length:Int)=c_a ls (nS d ls) ls.length/\(X.length:Int)=a_u d
   ·rw [s_H h];omega
   ·rw [if_neg I] at E;cases E
  ·rw [if_neg E] at D;exact absurd D E
 ·rw [if_neg H] at D;cases D
theorem r_j {d:List Int} {ls:List Ly} {P:List Int} (h:PlC d ls P) (I:RI P) {k cl:Int} {X y:List Int} (J:RI X) (H:RI y):GfO P.length (gof d ls k P X y cl):=t_y (s_u I J fun E st L D=>(h E X st L D).2) H
theorem t_D {P X:List Int}:∀ st,st∈(plF [1] liL (nS [1] liL) P X liL.length).1->st.op=1∨st.op=4∨st.op=8∨st.op=2:=by
 intro st h;rcases List.mem_append.1 (show st∈(plF [1] liL (nS [1] liL) P X 0).1++f_U (lyA liL 0) (shA (nS [1] liL) 0) (plF [1] liL (nS [1] liL) P X 0).1.length (plF [1] liL (nS [1] liL) P X 0).2.1 (plF [1] liL (nS [1] liL) P X 0).2.2.1 (plF [1] liL (nS [1] liL) P X 0).2.2.2 from h) with h|h
 ·simp [plF] at h;subst h;exact .inl rfl
 ·unfold f_U at h;rcases List.mem_append.1 h with h|h
  ·exact .inl (k_n _ _ _ st h)
  ·rw [if_pos (by decide +kernel)] at h;unfold n_B at h
   split at h
   ·simp only [List.mem_cons,List.not_mem_nil,or_false] at h
    rename_i he
    exact absurd he (by decide +kernel)
   ·simp only [List.mem_cons,List.not_mem_nil,or_false] at h;rcases h with h|h|h <;> subst h <;> simp [spD]
theorem o_5 (P:List Int):PlC [1] liL P:=fun _ X st E D=>by
 rcases t_D st E with h|h|h|h
 ·exact absurd h D
 ·rw [h];exact ⟨RkC.of (by decide) ck4,fun _=>ga4,fun _=>gb4⟩
 ·rw [h];exact ⟨RkC.of (by decide) ck8,fun _=>ga8,fun h=>absurd h (by decide)⟩
 ·rw [h];exact ⟨RkC.of (by decide) ck2,fun _=>ga2,fun _=>gb2⟩
end Go.Proofs.YtcpbhhlepdgdkaaGreatDoor.Wd
